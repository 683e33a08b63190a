/- A packet more in one of the two lists, in memory. -/
import Derived.Test.YtagfolckodpioaaKpS
namespace Go.Proofs.Ytagfolckodpioaa.K2
open Go.RowKit Go.Maps Go.Proofs.Ytagfolckodpioaa
set_option linter.all false
theorem sndE_ne (p : PkV) : sndE p ≠ 0 := by
  unfold sndE
  split
  · split <;> omega
  · omega
theorem box_stays {B n mb k : Nat} {room sent taken : Int} {l : List PkV} {row : Value} {c : Nat} {f : Pks} {W W' : World} {cs : Array Value} (h : NA B n mb room sent taken l row c f W) (hk : W.heap[k]? = some (.cells cs 58 (0, 0))) (hO : Out (NtF n mb row) W W') : W'.heap[k]? = some (.cells cs 58 (0, 0)) := by
  refine (hO.block k (Array.getElem?_eq_some_iff.1 hk).1 (fun e => ?_)).trans hk
  rcases e with e | e | e
  · rw [e, h.blk] at hk
    simp at hk
  · exact h.mp.nb hk e.symm
  · obtain ⟨_, ⟨hr, _⟩ | ⟨g, cap, cur, hr, _, hg, _⟩⟩ := h.own
    · rw [hr] at e
      cases e
    · rw [hr] at e
      simp only [Value.ownBlock, Option.some.injEq] at e
      rw [← e, hg] at hk
      simp at hk
theorem rowApp {w : World} {D n mb : Nat} {room sent taken : Int} {l J U : List PkV} {row v u : Value} {c : Nat} {f : Pks} {W : World} (hna : NA D n mb room sent taken l row c f W) (hv : W.ownsRow D 56 3 v J.length (celC pkE J)) (hu : W.ownsRow D 56 3 u U.length (celC pkE U)) (d1 : ∀ k, v.ownBlock = some k → row.ownBlock ≠ some k) (d3 : ∀ k, v.ownBlock = some k → u.ownBlock ≠ some k) (bel : Below w.heap.size w W) (hD : w.heap.size ≤ D) (hZ : D ≤ W.heap.size) (hJ : J.length ≤ 1000) (x : PkV) :
    ∃ a' c' w', (Builtin.append_ #[63, 63] 63 #[v, .slice (some ⟨W.heap.size, 0, none⟩) 1 1]).run Try.prog (W.alloc (.cells #[.int .i64 x.frm, .int .i64 x.dst, .string x.text] 56)) = .ok (.slice a' (J.length + 1) c') w' ∧ NA D n mb room sent taken l row c f w' ∧ w'.ownsRow D 56 3 (.slice a' (J.length + 1) c') (J ++ [x]).length (celC pkE (J ++ [x])) ∧ w'.ownsRow D 56 3 u U.length (celC pkE U) ∧ (∀ k, (Value.slice a' (J.length + 1) c').ownBlock = some k → row.ownBlock ≠ some k) ∧ (∀ k, (Value.slice a' (J.length + 1) c').ownBlock = some k → u.ownBlock ≠ some k) ∧ Below w.heap.size w w' ∧ W.heap.size ≤ w'.heap.size := by
  have hb := below1 W (.cells #[.int .i64 x.frm, .int .i64 x.dst, .string x.text] 56)
  have hna1 := hna.keep hb
  have hv1 := own_keep hv hb
  have hu1 := own_keep hu hb
  obtain ⟨v', w', hrun, how, hgr, hat⟩ := app1At (enc := pkE) (t := 63) pkE_len pkE_one Try.underlying63 info56 rfl (by omega) (W.alloc (.cells #[.int .i64 x.frm, .int .i64 x.dst, .string x.text] 56)) D v J x W.heap.size 1 (Nat.le_trans hZ hb.size) hv1 (heap_alloc_new W _) (by omega) (by unfold maxLen; omega)
  obtain ⟨a', c', rfl⟩ := own_len how
  have hlen : (J ++ [x]).length = J.length + 1 := by simp
  rw [hlen] at hrun how hat
  have keepRow : ∀ (z : Value) (m : Nat) (zs : List Value), (W.alloc (.cells #[.int .i64 x.frm, .int .i64 x.dst, .string x.text] 56)).ownsRow D 56 3 z m zs → (∀ k, v.ownBlock = some k → z.ownBlock ≠ some k) → w'.ownsRow D 56 3 z m zs := fun z m zs hz hd => by
    refine hz.kept hgr ?_
    cases hzb : z.ownBlock with
    | none => exact .inl rfl
    | some k => exact .inr (fun e => hd k e.symm hzb)
  have hfresh : ∀ (z : Value) (m : Nat) (zs : List Value), W.ownsRow D 56 3 z m zs → (∀ k, v.ownBlock = some k → z.ownBlock ≠ some k) → ∀ k, (Value.slice a' (J.length + 1) c').ownBlock = some k → z.ownBlock ≠ some k := fun z m zs hz hd k hk e => by
    rcases hat with h | h
    · exact hd k (by rw [← h]; exact hk) e
    · have h1 := (hz.lt k e).2
      rw [h] at hk
      simp only [Option.some.injEq] at hk
      have h2 := hb.size
      omega
  refine ⟨a', c', w', hrun, ⟨box_type hgr hv1 hna1.blk (by decide), keepRow _ _ _ hna1.own d1, hna1.mp.block (hgr.block mb hna1.mp.lt (fun e => hna1.mp.row hv1 e.symm))⟩, by rw [hlen]; exact how, keepRow _ _ _ hu1 d3, hfresh _ _ _ hna.own d1, hfresh _ _ _ hu d3, ?_, Nat.le_trans hb.size hgr.size⟩
  exact grown_own hgr hv1 hD (below_via bel hb)
end Go.Proofs.Ytagfolckodpioaa.K2
