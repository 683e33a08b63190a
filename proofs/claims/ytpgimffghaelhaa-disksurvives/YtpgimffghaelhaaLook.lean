/- Both disks tell the same: what is used, which segments there are, and all that the statements look at. -/
import Derived.Test.YtpgimffghaelhaaRef
import Derived.OwnWalk
namespace Go.Proofs.Ytpgimffghaelhaa
open Go.RowKit Go.Maps

set_option maxHeartbeats 1000000 in
set_option maxRecDepth 100000 in
theorem refUsed_same {w : World} {F : Nat → Prop} {q : Nat} {S : St} {N : Nat} (h : RefAt w F q S N) :
    Calls Try.prog 32 #[.pointer (some ⟨q, 0, none⟩)] w fun e w' => e = .returned (.int .i64 (tot S.seg 1000 : Int)) ∧ w' = w := by
  obtain ⟨bb, sb, cb, cc, hc, hg, r⟩ := h
  have c1 : w.cell? ⟨q, 1, none⟩ = some (.slice (some ⟨bb, 0, none⟩) 1000 cb) := by rw [cell_at hc.cells]; rfl
  have hg1 := hg.1
  have hg3 := hg.2.2.1
  have htx := hideIt hc.text
  have hmono : ∀ k, k ≤ 1000 → tot S.seg k ≤ tot S.seg 1000 := by
    intro k hk
    have : ∀ d, tot S.seg k ≤ tot S.seg (k + d) := by
      intro d
      induction d with
      | zero => exact Nat.le_refl _
      | succ d ih => exact Nat.le_trans ih (by show _ ≤ tot S.seg (k + d) + _; omega)
    have := this (1000 - k)
    rwa [show k + (1000 - k) = 1000 by omega] at this
  have Hm := hideIt hmono
  clear hc r hmono
  go_enter Try.func32, Try.ntmps32
  go_wp2
  go_loop [3, 4] (fun u v => ∃ k : Nat, k ≤ 1000 ∧ v = .int .i64 (k : Int) ∧ u = .int .i64 (tot S.seg k : Int)) (fun _ v => 1000 - (intOf v).toNat)
  case atStart => exact ⟨0, by omega, rfl, rfl⟩
  case round =>
    obtain ⟨k, hk, rfl, rfl⟩ := hrel
    by_cases hlt : k < 1000
    · have hlt' : (k : Int) < 1000 := by omega
      have hx := htx.out k hlt
      unfold bytesV at hx
      have hb1 := Hm.out (k + 1) hlt
      have e1 : tot S.seg (k + 1) = tot S.seg k + (S.seg k).bytes.length := rfl
      have hsz : (⟨(S.seg k).bytes.toArray⟩ : ByteArray).size = (S.seg k).bytes.length := by simp [ByteArray.size]
      have hb2 : tot S.seg k + (S.seg k).bytes.length ≤ 1048576 := by omega
      generalize (⟨(S.seg k).bytes.toArray⟩ : ByteArray) = tx at *
      rw [← hsz] at hb2 e1
      have E1 := hideIt e1
      clear hb1 hsz e1
      go_wp2
      go_round
      case rel => exact ⟨k + 1, by omega, by go_num, by rw [E1.out]; go_num⟩
      case measure => simp [intOf]; omega
    · have hlt' : ¬ (k : Int) < 1000 := by omega
      obtain rfl : k = 1000 := by omega
      go_wp2
      go_ret
      exact ⟨rfl, rfl⟩
theorem refUsed_is {w : World} {F : Nat → Prop} {q : Nat} {S : St} {N : Nat} (h : RefAt w F q S N) :
    Calls Try.prog 32 #[.pointer (some ⟨q, 0, none⟩)] w fun e w' => e = .returned (.int .i64 (tot S.seg 1000 : Int)) ∧ Below w.heap.size w w' :=
  (refUsed_same h).mono fun _ _ ⟨h1, h2⟩ => ⟨h1, h2 ▸ Below.refl _ _⟩
theorem Ints.of_own {w : World} {B : Nat} {v : Value} {l : List Nat} (h : w.ownsRow B 3 1 v l.length (l.map (fun k : Nat => Value.int .i64 (k : Int)))) : ∃ a c g, v = .slice a l.length c ∧ Ints w g a (asInts l) ∧ (l ≠ [] → B ≤ g) := by
  obtain ⟨_, ⟨rfl, hn0⟩ | ⟨g, cap, cur, rfl, hg, hcur, _, _, _, htk⟩⟩ := h
  · have e := List.eq_nil_of_length_eq_zero hn0
    subst e
    exact ⟨none, 0, 0, rfl, fun hne => absurd rfl hne, fun hne => absurd rfl hne⟩
  · refine ⟨_, cap, g, rfl, fun _ => ⟨rfl, cur, hcur, ?_⟩, fun _ => hg⟩
    simp only [asInts, List.length_map, List.map_map]
    rw [Nat.mul_one] at htk
    exact htk
theorem oneI (x : Int) : ∀ u ∈ [Value.int .i64 x], u.oneCell' = true := by
  intro u hu
  obtain rfl : u = .int .i64 x := by simpa using hu
  rfl
/-- A slice of the numbers l comes back, in memory from B on. -/
def Back (l : List Nat) (B : Nat) (w : World) (e : Ending) (w' : World) : Prop := ∃ a c g, e = .returned (.slice a l.length c) ∧ Ints w' g a (asInts l) ∧ (l ≠ [] → B ≤ g) ∧ Below B w w'
set_option maxHeartbeats 2000000 in
set_option maxRecDepth 100000 in
theorem refSegs_is {w : World} {F : Nat → Prop} {q : Nat} {S : St} {N : Nat} (h : RefAt w F q S N) :
    Calls Try.prog 31 #[.pointer (some ⟨q, 0, none⟩)] w (Back (segments S) w.heap.size w) := by
  obtain ⟨bb, sb, cb, cc, hc, hg, r⟩ := h
  have c1 : w.cell? ⟨q, 1, none⟩ = some (.slice (some ⟨bb, 0, none⟩) 1000 cb) := by rw [cell_at hc.cells]; rfl
  have c3 : w.cell? ⟨q, 3, none⟩ = some (.int .i64 S.fuse) := by rw [cell_at hc.cells]; rfl
  have hql : q < w.heap.size := (Array.getElem?_eq_some_iff.1 hc.cells).1
  have hbl : bb < w.heap.size := by obtain ⟨cur, h1, _⟩ := hc.texts; exact (Array.getElem?_eq_some_iff.1 h1).1
  have htx := hideIt hc.text
  clear r
  obtain ⟨i0, hi, hz0, hz1, hz2⟩ := info_parts info3
  have Hi := hideIt hi
  by_cases h0 : S.fuse = 0
  · have e : segments S = [] := by unfold segments; rw [if_pos h0]
    have h0' : (S.fuse != 0) = false := by simp [h0]
    rw [e]
    clear hc h0 hi
    go_enter Try.func31, Try.ntmps31
    go_wp2
    go_loop [3, 4] (fun o v => o = .slice none 0 0 ∧ v = .int .i64 0) (fun _ _ => 0)
    case atStart => exact ⟨rfl, rfl⟩
    case round =>
      obtain ⟨rfl, rfl⟩ := hrel
      go_wp2
      go_ret
      exact ⟨none, 0, 0, rfl, fun hne => absurd rfl hne, fun hne => absurd rfl hne, Below.refl _ _⟩
  · have e : segments S = nums S.seg 1000 := by unfold segments; rw [if_neg h0]
    have h0' : (S.fuse != 0) = true := by simp [h0]
    rw [e]
    clear hc h0
    go_enter Try.func31, Try.ntmps31
    go_wp2
    go_loopw [3, 4] (fun o v wr => ∃ k : Nat, k ≤ 1000 ∧ v = .int .i64 (k : Int) ∧ wr.ownsRow w.heap.size 3 1 o (nums S.seg k).length ((nums S.seg k).map (fun k : Nat => Value.int .i64 (k : Int))) ∧ Below w.heap.size w wr) (fun _ v _ => 1000 - (intOf v).toNat)
    case atStart => exact ⟨0, by omega, rfl, ⟨by simp [nums], .inl ⟨rfl, by simp [nums]⟩⟩, Below.refl _ _⟩
    case round =>
      obtain ⟨k, hk, rfl, hown, hb⟩ := hrel
      by_cases hlt : k < 1000
      · have hlt' : (k : Int) < 1000 := by omega
        have hx := htx.out k hlt
        unfold bytesV at hx
        have hem := emptyB (S.seg k).bytes
        have hns := nums_succ S.seg k
        have hnl := nums_len S.seg k
        have d1 : wr.cell? ⟨q, 1, none⟩ = some (.slice (some ⟨bb, 0, none⟩) 1000 cb) := (hb.cell hql).trans c1
        have d3 : wr.cell? ⟨q, 3, none⟩ = some (.int .i64 S.fuse) := (hb.cell hql).trans c3
        have d2 := (hb.cell (p := ⟨bb, k, none⟩) hbl).trans hx
        have hs := hb.size
        by_cases h3 : (S.seg k).bytes = []
        · have hem2 : (⟨(S.seg k).bytes.toArray⟩ : ByteArray).toList.isEmpty = true := by rw [hem, h3]; rfl
          have ht : isThere S.seg k = false := (isThere_no S.seg k).2 h3
          rw [ht] at hns
          have Hns := hideIt hns
          have Ho := hideIt hown
          generalize (⟨(S.seg k).bytes.toArray⟩ : ByteArray) = tx at *
          clear hx hem hns hown h3 ht hi
          go_wp2
          go_roundw
          case rel => exact ⟨k + 1, by omega, by go_num, by rw [Hns.out]; simpa using Ho.out, hb⟩
          case measure => simp [intOf]; omega
        · have hem2 : (⟨(S.seg k).bytes.toArray⟩ : ByteArray).toList.isEmpty = false := by rw [hem]; simpa using h3
          have ht : isThere S.seg k = true := (isThere_iff S.seg k).2 h3
          rw [ht] at hns
          have Hns := hideIt hns
          have Ho := hideIt hown
          generalize (⟨(S.seg k).bytes.toArray⟩ : ByteArray) = tx at *
          clear hx hem hns hown h3 ht
          go_wp2_with (at_builtin; refine wpList_append_own _ rfl _ _ 35 rfl w.heap.size 3 i0 (.int .i64 0) 1 8 Try.underlying35 Hi.out hz0 hz1 hz2 rfl (by decide) _ _ _ rfl (Ho.out.alloc _) ⟨wr.heap.size, 0, none⟩ 1 1 [.int .i64 (k : Int)] rfl rfl (cell_one_new _ _ _) (oneI _) (by unfold maxLen; omega) (by omega) (by simp; omega) ?_)
          intro v' w1 hown1 hgrow hnil
          have Ho1 := hideIt hown1
          have Hg := hideIt hgrow
          clear hown1 hgrow hnil
          go_wp2
          go_roundw
          case rel =>
            refine ⟨k + 1, by omega, by go_num, ?_, ?_⟩
            · rw [Hns.out]
              simpa using Ho1.out
            · exact (hb.alloc hs _).grown Hg.out (by simp; omega) (by
                intro j hj
                obtain ⟨_, ⟨rfl, _⟩ | ⟨g, cap, cur, rfl, hgB, _⟩⟩ := Ho.out
                · cases hj
                · simp [Value.ownBlock] at hj
                  omega)
          case measure => simp [intOf]; omega
      · have hlt' : ¬ (k : Int) < 1000 := by omega
        obtain rfl : k = 1000 := by omega
        have Ho := hideIt hown
        clear hown
        have d1 : wr.cell? ⟨q, 1, none⟩ = some (.slice (some ⟨bb, 0, none⟩) 1000 cb) := (hb.cell hql).trans c1
        go_wp2
        go_ret
        obtain ⟨a, c, g, rfl, hI, hgB⟩ := Ints.of_own Ho.out
        exact ⟨a, c, g, rfl, hI, hgB, hb⟩
end Go.Proofs.Ytpgimffghaelhaa
