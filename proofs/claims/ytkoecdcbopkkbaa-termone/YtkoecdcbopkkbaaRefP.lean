/- The document's own: nodes with one more; and that this is what the program's list is. -/
import Derived.Test.YtkoecdcbopkkbaaRef
namespace Go.Proofs.Ytkoecdcbopkkbaa
open Go.RowKit
/-- One to so many, those that are the one that comes or are there. -/
def putK (l : List Int) (x : Int) : Nat → List Int
  | 0 => []
  | k + 1 => putK l x k ++ (if ((k + 1 : Nat) : Int) = x ∨ ((k + 1 : Nat) : Int) ∈ l then [((k + 1 : Nat) : Int)] else [])
theorem putK_mem (l : List Int) (x y : Int) : ∀ k, y ∈ putK l x k ↔ (1 ≤ y ∧ y ≤ k ∧ (y = x ∨ y ∈ l))
  | 0 => by
    simp [putK]
    omega
  | k + 1 => by
    rw [putK, List.mem_append, putK_mem l x y k]
    by_cases h : ((k + 1 : Nat) : Int) = x ∨ ((k + 1 : Nat) : Int) ∈ l
    · rw [if_pos h, List.mem_singleton]
      constructor
      · rintro (⟨h1, h2, h3⟩ | rfl)
        · exact ⟨h1, by omega, h3⟩
        · exact ⟨by omega, by omega, h⟩
      · rintro ⟨h1, h2, h3⟩
        by_cases e : y = ((k + 1 : Nat) : Int)
        · exact .inr e
        · exact .inl ⟨h1, by omega, h3⟩
    · rw [if_neg h]
      constructor
      · rintro (⟨h1, h2, h3⟩ | hn)
        · exact ⟨h1, by omega, h3⟩
        · cases hn
      · rintro ⟨h1, h2, h3⟩
        by_cases e : y = ((k + 1 : Nat) : Int)
        · rw [e] at h3
          exact absurd h3 h
        · exact .inl ⟨h1, by omega, h3⟩
theorem putK_sorted (l : List Int) (x : Int) : ∀ k, (putK l x k).Pairwise (· < ·)
  | 0 => List.Pairwise.nil
  | k + 1 => by
    rw [putK, List.pairwise_append]
    refine ⟨putK_sorted l x k, ?_, ?_⟩
    · split
      · exact List.pairwise_singleton ..
      · exact List.Pairwise.nil
    · intro a ha b hb
      have := (putK_mem l x a k).1 ha
      split at hb
      · rw [List.mem_singleton] at hb
        omega
      · cases hb
theorem putK_len (l : List Int) (x : Int) : ∀ k, (putK l x k).length ≤ k
  | 0 => Nat.le_refl _
  | k + 1 => by
    have := putK_len l x k
    rw [putK, List.length_append]
    split <;> simp <;> omega
theorem sorted_ext : ∀ (a b : List Int), a.Pairwise (· < ·) → b.Pairwise (· < ·) → (∀ x, x ∈ a ↔ x ∈ b) → a = b
  | [], [], _, _, _ => rfl
  | [], y :: b, _, _, h => by
    have := (h y).2 (by simp)
    cases this
  | x :: a, [], _, _, h => by
    have := (h x).1 (by simp)
    cases this
  | x :: a, y :: b, ha, hb, h => by
    rw [List.pairwise_cons] at ha hb
    have hxy : x = y := by
      have h1 := (h x).1 (by simp)
      have h2 := (h y).2 (by simp)
      rw [List.mem_cons] at h1 h2
      rcases h1 with h1 | h1
      · exact h1
      · rcases h2 with h2 | h2
        · exact h2.symm
        · have := hb.1 x h1
          have := ha.1 y h2
          omega
    subst hxy
    congr 1
    refine sorted_ext a b ha.2 hb.2 (fun z => ?_)
    constructor
    · intro hz
      have := (h z).1 (List.mem_cons_of_mem _ hz)
      rcases List.mem_cons.1 this with rfl | h3
      · exact absurd (ha.1 z hz) (by omega)
      · exact h3
    · intro hz
      have := (h z).2 (List.mem_cons_of_mem _ hz)
      rcases List.mem_cons.1 this with rfl | h3
      · exact absurd (hb.1 z hz) (by omega)
      · exact h3
theorem ins_sorted (x : Int) : ∀ (l : List Int), l.Pairwise (· < ·) → x ∉ l → (insL l (l.countP (· < x)) x).Pairwise (· < ·) ∧ ∀ y, y ∈ insL l (l.countP (· < x)) x ↔ (y = x ∨ y ∈ l)
  | [], _, _ => ⟨by simp [insL], fun y => by simp [insL]⟩
  | z :: l, h, hx => by
    rw [List.pairwise_cons] at h
    rw [List.mem_cons, not_or] at hx
    by_cases hz : z < x
    · have e : (z :: l).countP (· < x) = l.countP (· < x) + 1 := by simp [hz]
      have e2 : insL (z :: l) (l.countP (· < x) + 1) x = z :: insL l (l.countP (· < x)) x := by simp [insL]
      obtain ⟨i1, i2⟩ := ins_sorted x l h.2 hx.2
      rw [e, e2]
      refine ⟨List.pairwise_cons.2 ⟨fun y hy => ?_, i1⟩, fun y => ?_⟩
      · rcases (i2 y).1 hy with rfl | h3
        · exact hz
        · exact h.1 y h3
      · rw [List.mem_cons, i2, List.mem_cons]
        constructor
        · rintro (h1 | h1 | h1)
          · exact .inr (.inl h1)
          · exact .inl h1
          · exact .inr (.inr h1)
        · rintro (h1 | h1 | h1)
          · exact .inr (.inl h1)
          · exact .inl h1
          · exact .inr (.inr h1)
    · have e : (z :: l).countP (· < x) = 0 := by
        rw [List.countP_eq_zero]
        intro y hy
        rcases List.mem_cons.1 hy with rfl | hy
        · simpa using hz
        · have := h.1 y hy
          simp
          omega
      rw [e]
      have e2 : insL (z :: l) 0 x = x :: z :: l := by simp [insL]
      rw [e2]
      refine ⟨List.pairwise_cons.2 ⟨fun y hy => ?_, List.pairwise_cons.2 h⟩, fun y => by simp⟩
      rcases List.mem_cons.1 hy with rfl | hy
      · omega
      · have := h.1 y hy
        omega
theorem add_mem (l : List Int) (x : Int) (h : l.Pairwise (· < ·)) : (addL l x).Pairwise (· < ·) ∧ ∀ y, y ∈ addL l x ↔ (y = x ∨ y ∈ l) := by
  unfold addL
  by_cases hx : x ∈ l
  · rw [if_pos (by simpa using hx)]
    exact ⟨h, fun y => ⟨.inr, fun h2 => h2.elim (fun e => e ▸ hx) id⟩⟩
  · rw [if_neg (by simpa using hx)]
    exact ins_sorted x l h hx
theorem put_add (l : List Int) (x : Int) (h : l.Pairwise (· < ·)) (hl : ∀ y ∈ l, 1 ≤ y ∧ y ≤ 7) (hx : 1 ≤ x ∧ x ≤ 7) : putK l x 7 = addL l x := by
  obtain ⟨a1, a2⟩ := add_mem l x h
  refine sorted_ext _ _ (putK_sorted l x 7) a1 (fun y => ?_)
  rw [putK_mem, a2]
  constructor
  · exact fun h => h.2.2
  · intro h
    rcases h with rfl | h3
    · exact ⟨hx.1, by omega, .inl rfl⟩
    · have := hl y h3
      exact ⟨this.1, by omega, .inr h3⟩
theorem got_one (w : World) (x : Int) (o : Obj) (ho : o = .cells #[.int .i64 x] 3) : GotAt (w.alloc o) (.slice (some ⟨w.heap.size, 0, none⟩) 1 1) [x] := by
  subst ho
  refine ⟨by simp, _, 1, rfl, fun _ => ⟨w.heap.size, 0, rfl, by simp, fun j hj => ?_⟩⟩
  have : j = 0 := by simp at hj; omega
  subst this
  rw [cell_at (heap_alloc_new w _)]
  rfl
theorem grown_own {w0 w w' : World} {B : Nat} {e : TypeId} {z n : Nat} {v : Value} {xs : List Value} (ho : w0.ownsRow B e z v n xs) (hg : w.grownBy w' v.ownBlock) (hB : B ≤ w.heap.size) : Below B w w' :=
  (Out.ofGrown (F := fun k => v.ownBlock = some k) hg (fun _ h => h)).below hB (fun _ hj => (own_block ho hj).2)
set_option maxHeartbeats 4000000 in
set_option maxRecDepth 100000 in
theorem rput_is (g : Value) (l : List Int) (x : Int) (w : World) (h : GotAt w g l) : Calls Try.prog 37 #[g, .int .i64 x] w (OwnBack w.heap.size w (putK l x 7)) := by
  have HH := hideIt (fun k W hW => rhas_is g l ((k + 1 : Nat) : Int) W (h.keep hW))
  have HL := hideIt (putK_len l x)
  clear h
  obtain ⟨P, hP⟩ : ∃ P, P = putK l x := ⟨_, rfl⟩
  have HS : Hid (∀ k, P (k + 1) = P k ++ (if ((k + 1 : Nat) : Int) = x ∨ ((k + 1 : Nat) : Int) ∈ l then [((k + 1 : Nat) : Int)] else [])) := fun k => by rw [hP]; rfl
  have HZ : Hid (P 0 = []) := by
    show _ = _
    rw [hP]
    rfl
  rw [← hP] at HL ⊢
  clear hP
  go_enter Try.func37, Try.ntmps37
  go_wp2
  go_loopw [5, 6] (fun o i wr => ∃ k : Nat, k ≤ 7 ∧ i = .int .i64 ((k : Int) + 1) ∧ Hid (wr.ownsRow w.heap.size 3 1 o (P k).length ((P k).map iv) ∧ Below w.heap.size w wr)) (fun _ i _ => 8 - (intOf i).toNat)
  case atStart => exact ⟨0, by omega, rfl, hideIt ⟨by rw [HZ.out]; exact ⟨rfl, .inl ⟨rfl, rfl⟩⟩, Below.refl _ _⟩⟩
  case round =>
    obtain ⟨k, hk, rfl, HO⟩ := hrel
    by_cases hlt : k < 7
    · have hk7 : (k : Int) + 1 ≤ 7 := by omega
      have ek : ((k + 1 : Nat) : Int) = (k : Int) + 1 := by omega
      have HH2 := hideIt (HH.out k _ HO.out.2)
      rw [ek] at HH2
      by_cases he : (k : Int) + 1 = x
      · have heb : ((k : Int) + 1 == x) = true := by simp [he]
        have HN : Hid (P (k + 1) = P k ++ [(k : Int) + 1]) := by
          show _ = _
          rw [HS.out, if_pos (.inl (by rw [ek]; exact he)), ek]
        clear HH2 ek he
        obtain ⟨v', w', hrun, how, hgr⟩ := run_app (wr.alloc (.cells #[.int .i64 ((k : Int) + 1)] 3)) 24 w.heap.size _ (P k) [(k : Int) + 1] (.slice (some ⟨wr.heap.size, 0, none⟩) 1 1) (by have := HO.out.2.size; simp; omega) (own_keep HO.out.1 (below1 wr _)) (got_one wr _ _ rfl) (by have := HL.out k; simp; omega)
        have HRUN := hideIt hrun
        have HX : Hid (w'.ownsRow w.heap.size 3 1 v' (P (k + 1)).length ((P (k + 1)).map iv) ∧ Below w.heap.size w w') := by
          refine ⟨by rw [HN.out]; exact how, ?_⟩
          refine ((HO.out.2.alloc (HO.out.2.size) (.cells #[.int .i64 ((k : Int) + 1)] 3)).trans ?_)
          exact grown_own HO.out.1 hgr (by have := HO.out.2.size; simp; omega)
        clear hrun how hgr HO
        go_wp2_with (at_builtin; refine wpList_append_run _ rfl _ _ rfl rfl rfl rfl HRUN.out ?_)
        clear HRUN
        go_wp2
        go_roundw
        case rel => exact ⟨k + 1, by omega, by go_num, HX⟩
        case measure => simp [intOf]; omega
      · have heb : ((k : Int) + 1 == x) = false := by simp [he]
        cases hc : l.contains ((k : Int) + 1)
        · rw [hc] at HH2
          have hm : ¬ ((k : Int) + 1 ∈ l) := by simpa using hc
          have HN : Hid (P (k + 1) = P k) := by
            show _ = _
            rw [HS.out, if_neg (by rw [ek]; exact fun h => h.elim he hm), List.append_nil]
          clear ek he hc hm
          go_wp2_with fail
          refine HH2.out.mono ?_
          rintro e w1 ⟨rfl, rfl⟩
          dsimp only
          go_wp2
          go_roundw
          case rel => exact ⟨k + 1, by omega, by go_num, hideIt (by rw [HN.out]; exact HO.out)⟩
          case measure => simp [intOf]; omega
        · rw [hc] at HH2
          have hm : (k : Int) + 1 ∈ l := by simpa using hc
          have HN : Hid (P (k + 1) = P k ++ [(k : Int) + 1]) := by
            show _ = _
            rw [HS.out, if_pos (.inr (by rw [ek]; exact hm)), ek]
          clear ek he hc hm
          go_wp2_with fail
          refine HH2.out.mono ?_
          rintro e w1 ⟨rfl, rfl⟩
          dsimp only
          obtain ⟨v', w', hrun, how, hgr⟩ := run_app (w1.alloc (.cells #[.int .i64 ((k : Int) + 1)] 3)) 24 w.heap.size _ (P k) [(k : Int) + 1] (.slice (some ⟨w1.heap.size, 0, none⟩) 1 1) (by have := HO.out.2.size; simp; omega) (own_keep HO.out.1 (below1 w1 _)) (got_one w1 _ _ rfl) (by have := HL.out k; simp; omega)
          have HRUN := hideIt hrun
          have HX : Hid (w'.ownsRow w.heap.size 3 1 v' (P (k + 1)).length ((P (k + 1)).map iv) ∧ Below w.heap.size w w') := by
            refine ⟨by rw [HN.out]; exact how, ?_⟩
            refine ((HO.out.2.alloc (HO.out.2.size) (.cells #[.int .i64 ((k : Int) + 1)] 3)).trans ?_)
            exact grown_own HO.out.1 hgr (by have := HO.out.2.size; simp; omega)
          clear hrun how hgr HO
          go_wp2_with (at_builtin; refine wpList_append_run _ rfl _ _ rfl rfl rfl rfl HRUN.out ?_)
          clear HRUN
          go_wp2
          go_roundw
          case rel => exact ⟨k + 1, by omega, by go_num, HX⟩
          case measure => simp [intOf]; omega
    · have e7 : k = 7 := by omega
      subst e7
      have hk7 : ¬ (((7 : Nat) : Int) + 1 ≤ 7) := by omega
      go_wp2
      go_ret
      exact ⟨_, rfl, HO.out.1, HO.out.2⟩
end Go.Proofs.Ytkoecdcbopkkbaa
