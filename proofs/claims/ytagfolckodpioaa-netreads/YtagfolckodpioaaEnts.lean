/- What net's reader answers for the entries of a message: so many as the number ahead of them says, at most sixteen. -/
import Derived.Test.YtagfolckodpioaaRd
import Derived.Test.YtagfolckodpioaaMay
import Derived.OwnWalk
namespace Go.Proofs.Ytagfolckodpioaa
open Go.RowKit

/-- One entry is read. -/
def rent (l : List UInt8) (st : Nat × Bool) : EntV × (Nat × Bool) :=
  (⟨((rnum l st).1 : Int), ((rnum l (rnum l st).2).1 : Int), ⟨(rpiece l (rnum l (rnum l st).2).2).1.toArray⟩⟩, (rpiece l (rnum l (rnum l st).2).2).2)
def rents (l : List UInt8) : Nat → Nat × Bool → List EntV × (Nat × Bool)
  | 0, st => ([], st)
  | n + 1, st => ((rents l n st).1 ++ [(rent l (rents l n st).2).1], (rent l (rents l n st).2).2)
def rentries (l : List UInt8) (st : Nat × Bool) : List EntV × (Nat × Bool) :=
  if (rnum l st).1 ≤ 16 then rents l (rnum l st).1 (rnum l st).2 else ([], ((rnum l st).2.1, false))
theorem rents_len (l : List UInt8) (n : Nat) (st : Nat × Bool) : (rents l n st).1.length = n := by
  induction n with
  | zero => rfl
  | succ n ih => simp [rents, ih]
def entC (l : List EntV) : List Value := (l.map (fun e => [Value.int .i64 e.term, .int .i64 e.kind, .string e.text])).flatten
theorem entC_snoc (l : List EntV) (e : EntV) : entC (l ++ [e]) = entC l ++ [Value.int .i64 e.term, .int .i64 e.kind, .string e.text] := by simp [entC]
theorem own_out {F : Nat → Prop} {wa wb : World} {B : Nat} {e : TypeId} {z : Nat} {v : Value} {n : Nat} {xs : List Value} (h : wa.ownsRow B e z v n xs) (ho : Out F wa wb) (hF : ∀ k, F k → k < B) : wb.ownsRow B e z v n xs := by
  obtain ⟨h1, hn | ⟨g, cap, cur, hv, hb, hg, rest⟩⟩ := h
  · exact ⟨h1, .inl hn⟩
  · exact ⟨h1, .inr ⟨g, cap, cur, hv, hb, (ho.block g (Array.getElem?_eq_some_iff.1 hg).1 (fun hf => by have := hF g hf; omega)).trans hg, rest⟩⟩
theorem own_lt {wa : World} {B : Nat} {e : TypeId} {z : Nat} {v : Value} {n : Nat} {xs : List Value} (h : wa.ownsRow B e z v n xs) : ∀ k, v.ownBlock = some k → B ≤ k := by
  intro k hk
  obtain ⟨_, ⟨rfl, _⟩ | ⟨g, cap, cur, rfl, hgB, _⟩⟩ := h
  · cases hk
  · simp [Value.ownBlock] at hk
    omega
theorem info41 : (Try.prog.info? 41).map (fun i => (i.zero, i.size, i.bytes)) = some (some (.agg #[.int .i64 0, .int .i64 0, .string ⟨#[]⟩]), 3, 32) := by kernel_rfl
theorem three_one (a b : Int) (x : ByteArray) : ∀ u ∈ [Value.int .i64 a, .int .i64 b, .string x], u.oneCell' = true := by
  intro u hu
  simp at hu
  rcases hu with rfl | rfl | rfl <;> rfl
theorem new_cells (w : World) (cs : Array Value) (t : TypeId) (l : List Value) (hl : l = cs.toList) : ∀ j u, l[j]? = some u → (w.alloc (.cells cs t)).cell? ((⟨w.heap.size, 0, none⟩ : Addr).add j) = some u := by
  intro j u h
  subst hl
  have e : (⟨w.heap.size, 0, none⟩ : Addr).add j = ⟨w.heap.size, j, none⟩ := by
    unfold Addr.add
    split
    · rename_i hj; subst hj; rfl
    · simp
  rw [e, cell_at (heap_alloc_new w _)]
  simpa using h
/-- Entries come back, in memory of their own from B on; the reader stands behind them. -/
def EntsBack (es : List EntV) (B r : Nat) (s : ByteArray) (st : Nat × Bool) (w : World) (e : Ending) (w' : World) : Prop :=
  ∃ v, e = .returned v ∧ w'.ownsRow B 41 3 v es.length (entC es) ∧ Rd w' r s st ∧ Out (fun k => k = r) w w'
theorem rdAt_lt {w : World} {r : Nat} {s : ByteArray} {st : Nat × Bool} (h : Rd w r s st) : r < w.heap.size := (Array.getElem?_eq_some_iff.1 h).1
set_option maxHeartbeats 4000000 in
set_option maxRecDepth 100000 in
theorem rentries_any (r : Nat) (s : ByteArray) (st : Nat × Bool) (w : World) (hs : s.size ≤ maxLen) (h : Rd w r s st) :
    Calls Try.prog 91 #[.pointer (some ⟨r, 0, none⟩)] w (EntsBack (rentries s.data.toList st).1 w.heap.size r s (rentries s.data.toList st).2 w) := by
  have hlt := rdAt_lt h
  unfold rentries
  have H1 := hideIt (rnum_any r s st _ hs h)
  have HN := hideIt (fun W st h => rnum_any r s st W hs h)
  have HP := hideIt (fun W st h => rpiece_any r s st W hs h)
  obtain ⟨n, st0, e1⟩ : ∃ n st0, rnum s.data.toList st = (n, st0) := ⟨_, _, rfl⟩
  obtain ⟨at0, ok0⟩ := st0
  simp only [e1] at H1 ⊢
  clear h e1 hs
  obtain ⟨i0, hi, hz0, hz1, hz2⟩ := info_parts info41
  have Hi := hideIt hi
  clear hi
  by_cases hn : n ≤ 16
  · have hn' : (n : Int) ≤ 16 := by omega
    rw [if_pos hn]
    go_enter Try.func91, Try.ntmps91
    go_wp2_with fail
    refine H1.out.mono ?_
    rintro e w1 ⟨rfl, hr1, ho1⟩
    dsimp only
    have HX := hideIt (And.intro hr1 ho1)
    clear hr1 ho1 H1
    go_wp2
    go_loopw [4, 15] (fun o v wr => ∃ k : Nat, k ≤ n ∧ v = .int .i64 (k : Int) ∧ Hid (wr.ownsRow w.heap.size 41 3 o k (entC (rents s.data.toList k (at0, ok0)).1) ∧ Rd wr r s (rents s.data.toList k (at0, ok0)).2 ∧ Out (fun k => k = r) w wr)) (fun _ v _ => n - (intOf v).toNat)
    case atStart => exact ⟨0, by omega, rfl, ⟨by simp [entC, rents], .inl ⟨rfl, rfl⟩⟩, HX.out.1, HX.out.2⟩
    case round =>
      clear HX
      obtain ⟨k, hk, rfl, HR⟩ := hrel
      by_cases hlk : k < n
      · have hlk' : (k : Int) < n := by omega
        obtain ⟨es, sk, ek⟩ : ∃ es sk, rents s.data.toList k (at0, ok0) = (es, sk) := ⟨_, _, rfl⟩
        obtain ⟨x1, s1, e1⟩ : ∃ x1 s1, rnum s.data.toList sk = (x1, s1) := ⟨_, _, rfl⟩
        obtain ⟨x2, s2, e2⟩ : ∃ x2 s2, rnum s.data.toList s1 = (x2, s2) := ⟨_, _, rfl⟩
        obtain ⟨x3, s3, e3⟩ : ∃ x3 s3, rpiece s.data.toList s2 = (x3, s3) := ⟨_, _, rfl⟩
        have Hnx : Hid (rents s.data.toList (k + 1) (at0, ok0) = (es ++ [⟨(x1 : Int), (x2 : Int), ⟨x3.toArray⟩⟩], s3)) := by
          show _ = _
          simp only [rents, rent, ek, e1, e2, e3]
        have h1 := fun W hW => HN.out W sk hW
        have h2 := fun W hW => HN.out W s1 hW
        have h3 := fun W hW => HP.out W s2 hW
        simp only [e1, e2, e3] at h1 h2 h3
        have HC1 := hideIt h1
        have HC2 := hideIt h2
        have HC3 := hideIt h3
        rw [ek] at HR
        clear h1 h2 h3 e1 e2 e3 ek
        simp only at HR
        generalize (⟨x3.toArray⟩ : ByteArray) = tx at *
        go_wp2_with fail
        refine (HC1.out _ HR.out.2.1).mono ?_
        rintro e wa ⟨rfl, hra, hoa⟩
        dsimp only
        have HA := hideIt (And.intro hra hoa)
        clear hra hoa
        go_wp2_with fail
        refine (HC2.out _ HA.out.1).mono ?_
        rintro e wb ⟨rfl, hrb, hob⟩
        dsimp only
        have HB := hideIt (And.intro hrb hob)
        clear hrb hob
        go_wp2_with fail
        refine (HC3.out _ HB.out.1).mono ?_
        rintro e wc ⟨rfl, hrc, hoc⟩
        dsimp only
        have oall : Out (fun k => k = r) wr wc := (HA.out.2.trans HB.out.2 (fun _ _ h => h)).trans hoc (fun _ _ h => h)
        have hownc := own_out HR.out.1 oall (fun j hj => by omega)
        have ocr : Out (fun k => k = r) w wc := HR.out.2.2.trans oall (fun _ _ h => h)
        have hsc := ocr.size
        have Hown := hideIt hownc
        have HCC := hideIt (And.intro hrc ocr)
        clear hrc hoc oall hownc ocr HA HB HC1 HC2 HC3
        go_wp2_with (at_builtin; refine wpList_append_own _ rfl _ _ 24 rfl w.heap.size 41 i0 _ 3 32 Try.underlying24 Hi.out hz0 hz1 hz2 rfl (by decide) _ _ _ rfl (Hown.out.alloc _) ⟨wc.heap.size, 0, none⟩ 1 1 [.int .i64 (x1 : Int), .int .i64 (x2 : Int), .string tx] rfl rfl ?c1 (three_one _ _ _) (by unfold maxLen; omega) (by omega) (by simp; omega) ?_)
        case c1 => exact new_cells _ _ _ _ rfl
        intro v' w1 hown1 hgrow hnil
        have Ho1 := hideIt hown1
        have Hg := hideIt hgrow
        clear hown1 hgrow hnil
        go_wp2
        go_roundw
        case rel =>
          refine ⟨k + 1, by omega, by go_num, ?_, ?_, ?_⟩
          · rw [Hnx.out]
            simp only [entC_snoc]
            exact Ho1.out
          · rw [Hnx.out]
            refine (Hg.out.block r (by simp; omega) (fun e => ?_)).trans ((heap_alloc_old wc _ (by omega)).trans HCC.out.1)
            have := own_lt Hown.out r e.symm
            omega
          · refine HCC.out.2.trans ((Out.ofAlloc (F := fun k => w.heap.size ≤ k) wc _).trans (Out.ofGrown (F := fun k => w.heap.size ≤ k) Hg.out (fun j hj => own_lt Hown.out j hj)) (fun _ _ h => h)) (fun i hi h => ?_)
            omega
        case measure => simp [intOf]; omega
      · have hlk' : ¬ (k : Int) < n := by omega
        obtain rfl : k = n := by omega
        go_wp2
        go_ret
        exact ⟨_, rfl, by rw [rents_len]; exact HR.out.1, HR.out.2.1, HR.out.2.2⟩
  · have hn' : ¬ (n : Int) ≤ 16 := by omega
    have hn2 : (16 : Int) < (n : Int) := by omega
    rw [if_neg hn]
    go_enter Try.func91, Try.ntmps91
    go_wp2_with fail
    refine H1.out.mono ?_
    rintro e w1 ⟨rfl, hr1, ho1⟩
    dsimp only
    have d2 : w1.cell? ⟨r, 2, none⟩ = some (.bool ok0) := by rw [cell_at hr1]; rfl
    have g2 : w1.frozen? ⟨r, 2, none⟩ = false := free_at hr1 _
    have HX := hideIt (And.intro hr1 ho1)
    clear hr1 ho1 H1 hn'
    go_wp2
    go_ret
    obtain ⟨hr1, ho1⟩ := HX.out
    exact ⟨_, rfl, ⟨rfl, .inl ⟨rfl, rfl⟩⟩, heap_set hr1 2 _, ho1.trans (Out.ofSet (F := fun k => k = r) _ ⟨r, 2, none⟩ _ rfl) (fun _ _ h => h)⟩
end Go.Proofs.Ytagfolckodpioaa
