/- The net, what went in and what came out, in memory. -/
import Derived.Test.YtagfolckodpioaaArO
namespace Go.Proofs.Ytagfolckodpioaa.K2
open Go.RowKit Go.Maps Go.Proofs.Ytagfolckodpioaa
set_option linter.all false
/-- The net, what went in and what came out, on their way. -/
structure KS (w : World) (D n mb : Nat) (room : Int) (t : Nat) (I O l : List PkV) (iv ov row : Value) (sent taken : Int) (c : Nat) (f : Pks) (W : World) : Prop where
  na : NA D n mb room sent taken l row c f W
  ri : W.ownsRow D 56 3 iv I.length (celC pkE I)
  ro : W.ownsRow D 56 3 ov O.length (celC pkE O)
  d1 : ∀ k, iv.ownBlock = some k → row.ownBlock ≠ some k
  d2 : ∀ k, ov.ownBlock = some k → row.ownBlock ≠ some k
  d3 : ∀ k, iv.ownBlock = some k → ov.ownBlock ≠ some k
  ki : KI I O l f
  bel : Below w.heap.size w W
  hI : I.length ≤ t
  hs : 0 ≤ sent ∧ sent ≤ t
  ht : 0 ≤ taken ∧ taken ≤ t
  hc : c ≤ t
  hD : w.heap.size ≤ D
  hZ : D ≤ W.heap.size
  hn : D ≤ n
  hm : D ≤ mb
theorem KS.keep {w : World} {D n mb : Nat} {room : Int} {t : Nat} {I O l : List PkV} {iv ov row : Value} {sent taken : Int} {c : Nat} {f : Pks} {W W' : World} (h : KS w D n mb room t I O l iv ov row sent taken c f W) (hb : Below W.heap.size W W') : KS w D n mb room t I O l iv ov row sent taken c f W' :=
  ⟨h.na.keep hb, own_keep h.ri hb, own_keep h.ro hb, h.d1, h.d2, h.d3, h.ki, below_via h.bel hb, h.hI, h.hs, h.ht, h.hc, h.hD, Nat.le_trans h.hZ hb.size, h.hn, h.hm⟩
/-- A call of the net's own. -/
theorem KS.turn {w : World} {D n mb : Nat} {room : Int} {t : Nat} {I O l l' : List PkV} {iv ov row row' : Value} {sent taken sent' taken' : Int} {c c' : Nat} {f f' : Pks} {W W' : World} (h : KS w D n mb room t I O l iv ov row sent taken c f W) (hO : Out (NtF n mb row) W W') (hN : NA D n mb room sent' taken' l' row' c' f' W') (hx : NxR row row' W) :
    W'.ownsRow D 56 3 iv I.length (celC pkE I) ∧ W'.ownsRow D 56 3 ov O.length (celC pkE O) ∧ (∀ k, iv.ownBlock = some k → row'.ownBlock ≠ some k) ∧ (∀ k, ov.ownBlock = some k → row'.ownBlock ≠ some k) ∧ Below w.heap.size w W' := by
  have hrow : ∀ k, row.ownBlock = some k → D ≤ k := fun k e => (h.na.own.lt k e).1
  have hne : ∀ (v : Value) (J : List PkV), W.ownsRow D 56 3 v J.length (celC pkE J) → (∀ k, v.ownBlock = some k → row.ownBlock ≠ some k) → ∀ k, v.ownBlock = some k → row'.ownBlock ≠ some k := fun v J ho hd k hk e => by
    rcases hx with hx | ⟨q, hq, hqs⟩
    · exact hd k hk (by rw [← hx]; exact e)
    · have := (ho.lt k hk).2
      rw [hq] at e
      simp only [Option.some.injEq] at e
      omega
  refine ⟨row_stays h.na h.ri h.d1 hO, row_stays h.na h.ro h.d2 hO, hne iv I h.ri h.d1, hne ov O h.ro h.d2, ?_⟩
  refine below_out h.bel hO (fun k e => ?_)
  have h1 := h.hD
  have h2 := h.hn
  have h3 := h.hm
  rcases e with e | e | e
  · omega
  · omega
  · have := hrow k e
    omega
end Go.Proofs.Ytagfolckodpioaa.K2
