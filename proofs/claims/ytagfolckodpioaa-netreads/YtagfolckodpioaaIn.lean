/- What messageIn answers: the message that a text says, all of it. -/
import Derived.Test.YtagfolckodpioaaMsg
namespace Go.Proofs.Ytagfolckodpioaa
open Go.RowKit

def zeroM : MsgV := ⟨0, 0, 0, 0, 0, 0, none, 0, 0, 0, false, 0, 0, 0, ⟨#[]⟩⟩
/-- What the text says, if it says a message and no more. -/
def msgIn (l : List UInt8) : Option (MsgV × List EntV) :=
  if (rmsg l (0, true)).2.2.2 = true ∧ l.length ≤ (rmsg l (0, true)).2.2.1 then some ((rmsg l (0, true)).1, (rmsg l (0, true)).2.1) else none
def InBack (x : Option (MsgV × List EntV)) (w : World) (e : Ending) (w' : World) : Prop :=
  (match x with
   | none => e = .returned (.tuple #[.agg (msgC zeroM), .bool false])
   | some (m, es) => ∃ a c, e = .returned (.tuple #[.agg (msgC (withE m a es.length c)), .bool true]) ∧ w'.ownsRow w.heap.size 41 3 (.slice a es.length c) es.length (entC es)) ∧ Below w.heap.size w w'
set_option maxHeartbeats 4000000 in
set_option maxRecDepth 100000 in
theorem messageIn_any (s : ByteArray) (w : World) (hs : s.size ≤ maxLen) :
    Calls Try.prog 46 #[.string s] w (InBack (msgIn s.data.toList) w) := by
  unfold msgIn
  have hrd : Rd ((w.alloc (.cells (msgC zeroM) 28)).alloc (.cells #[.string s, .int .i64 0, .bool true] 126)) (w.heap.size + 1) s (0, true) := by
    have e : w.heap.size + 1 = (w.alloc (.cells (msgC zeroM) 28)).heap.size := by simp
    rw [e]
    exact heap_alloc_new _ _
  have hz0 : ((w.alloc (.cells (msgC zeroM) 28)).alloc (.cells #[.string s, .int .i64 0, .bool true] 126)).heap[w.heap.size]? = some (.cells (msgC zeroM) 28 (0, 0)) := by
    rw [heap_alloc_old _ _ (by simp)]
    exact heap_alloc_new w _
  have hB0 : Below w.heap.size w ((w.alloc (.cells (msgC zeroM) 28)).alloc (.cells #[.string s, .int .i64 0, .bool true] 126)) := ((Below.refl _ _).alloc (Nat.le_refl _) _).alloc (by simp) _
  have HC := hideIt (rmsg_any (w.heap.size + 1) s (0, true) _ hs hrd)
  have HZ := hideIt (And.intro hz0 hB0)
  clear hrd hz0 hB0
  obtain ⟨m, es, ⟨at1, ok1⟩, ex⟩ : ∃ m es st, rmsg s.data.toList (0, true) = (m, es, st) := ⟨_, _, _, rfl⟩
  rw [ex] at HC ⊢
  have hsl : s.data.toList.length = s.size := by simp
  rw [hsl]
  simp only
  obtain ⟨R, hR⟩ : ∃ R, (if ok1 = true ∧ s.size ≤ at1 then some (m, es) else none) = R := ⟨_, rfl⟩
  rw [hR]
  have HR := hideIt hR
  clear ex hsl hR hs
  simp only [zeroM, msgC] at HC HZ
  go_enter Try.func46, Try.ntmps46
  go_wp2_with fail
  refine HC.out.mono ?_
  rintro e w1 ⟨a, c, rfl, hown, hr, ho⟩
  dsimp only at hown hr ⊢
  have HMM : Hid (∃ mm, withE m a es.length c = mm) := ⟨_, rfl⟩
  obtain ⟨mm, hmm⟩ := HMM.out
  rw [hmm]
  have hs1 := ho.size
  simp only [World.size_alloc] at hs1
  have hz1 := (ho.block w.heap.size (by simp; omega) (by omega)).trans HZ.out.1
  have hl0 : w.heap.size < w1.heap.size := by omega
  have hl1 : w.heap.size + 1 < w1.heap.size := by omega
  have hB1 : Below w.heap.size w w1 := HZ.out.2.trans (ho.below (by simp; omega) (fun k hk => by omega))
  have hown2 := own_low hown (B' := w.heap.size + 2) (by simp)
  have c1 : w1.cell? ⟨w.heap.size + 1, 1, none⟩ = some (.int .i64 (at1 : Int)) := by rw [cell_at hr]; rfl
  have c2 : w1.cell? ⟨w.heap.size + 1, 2, none⟩ = some (.bool ok1) := by rw [cell_at hr]; rfl
  have z0 : w1.cell? ⟨w.heap.size, 0, none⟩ = some (.int .i64 0) := by rw [cell_at hz1]; rfl
  have g0 : w1.frozen? ⟨w.heap.size, 0, none⟩ = false := free_at hz1 _
  have z1 : w1.cell? ⟨w.heap.size, 1, none⟩ = some (.int .i64 0) := by rw [cell_at hz1]; rfl
  have g1 : w1.frozen? ⟨w.heap.size, 1, none⟩ = false := free_at hz1 _
  have z2 : w1.cell? ⟨w.heap.size, 2, none⟩ = some (.int .i64 0) := by rw [cell_at hz1]; rfl
  have g2 : w1.frozen? ⟨w.heap.size, 2, none⟩ = false := free_at hz1 _
  have z3 : w1.cell? ⟨w.heap.size, 3, none⟩ = some (.int .i64 0) := by rw [cell_at hz1]; rfl
  have g3 : w1.frozen? ⟨w.heap.size, 3, none⟩ = false := free_at hz1 _
  have z4 : w1.cell? ⟨w.heap.size, 4, none⟩ = some (.int .i64 0) := by rw [cell_at hz1]; rfl
  have g4 : w1.frozen? ⟨w.heap.size, 4, none⟩ = false := free_at hz1 _
  have z5 : w1.cell? ⟨w.heap.size, 5, none⟩ = some (.int .i64 0) := by rw [cell_at hz1]; rfl
  have g5 : w1.frozen? ⟨w.heap.size, 5, none⟩ = false := free_at hz1 _
  have z6 : w1.cell? ⟨w.heap.size, 6, none⟩ = some (.slice none 0 0) := by rw [cell_at hz1]; rfl
  have g6 : w1.frozen? ⟨w.heap.size, 6, none⟩ = false := free_at hz1 _
  have z7 : w1.cell? ⟨w.heap.size, 7, none⟩ = some (.int .i64 0) := by rw [cell_at hz1]; rfl
  have g7 : w1.frozen? ⟨w.heap.size, 7, none⟩ = false := free_at hz1 _
  have z8 : w1.cell? ⟨w.heap.size, 8, none⟩ = some (.bool false) := by rw [cell_at hz1]; rfl
  have g8 : w1.frozen? ⟨w.heap.size, 8, none⟩ = false := free_at hz1 _
  have z9 : w1.cell? ⟨w.heap.size, 9, none⟩ = some (.int .i64 0) := by rw [cell_at hz1]; rfl
  have g9 : w1.frozen? ⟨w.heap.size, 9, none⟩ = false := free_at hz1 _
  have z10 : w1.cell? ⟨w.heap.size, 10, none⟩ = some (.int .i64 0) := by rw [cell_at hz1]; rfl
  have g10 : w1.frozen? ⟨w.heap.size, 10, none⟩ = false := free_at hz1 _
  have z11 : w1.cell? ⟨w.heap.size, 11, none⟩ = some (.int .i64 0) := by rw [cell_at hz1]; rfl
  have g11 : w1.frozen? ⟨w.heap.size, 11, none⟩ = false := free_at hz1 _
  have z12 : w1.cell? ⟨w.heap.size, 12, none⟩ = some (.string ⟨#[]⟩) := by rw [cell_at hz1]; rfl
  have g12 : w1.frozen? ⟨w.heap.size, 12, none⟩ = false := free_at hz1 _
  have HH := hideIt (And.intro hB1 (And.intro hown2 hz1))
  have HW := hideIt hmm
  clear hB1 hown2 hz1 hown hr ho HZ HC hmm HMM hs1
  obtain ⟨kind, frm, dst, term, pi, pt, ea, en, ec, commit, ok, mtch, si, st, text⟩ := mm
  simp only [msgC]
  cases ok1
  · rw [if_neg (by simp)] at HR
    go_wp2
    obtain ⟨hzz, hoo⟩ := put13 w1 w.heap.size (.int .i64 0) (.int .i64 0) (.int .i64 0) (.int .i64 0) (.int .i64 0) (.int .i64 0) (.slice none 0 0) (.int .i64 0) (.bool false) (.int .i64 0) (.int .i64 0) (.int .i64 0) (.string ⟨#[]⟩) HH.out.2.2
    have hzW := (heap_alloc_old _ (.cells #[.int .i64 kind, .int .i64 frm, .int .i64 dst, .int .i64 term, .int .i64 pi, .int .i64 pt, .slice ea en ec, .int .i64 commit, .bool ok, .int .i64 mtch, .int .i64 si, .int .i64 st, .string text] 28) (by have := hoo.size; omega)).trans hzz
    have hBB : Below w.heap.size w1 _ := hoo.below (B := w.heap.size) (by omega) (fun k hk => by omega)
    refine bodyPost_ret (v := .tuple #[.agg #[.int .i64 0, .int .i64 0, .int .i64 0, .int .i64 0, .int .i64 0, .int .i64 0, .slice none 0 0, .int .i64 0, .bool false, .int .i64 0, .int .i64 0, .int .i64 0, .string ⟨#[]⟩], .bool false]) (by simp [results, Try.results46, go_sem, cell_at hzW]) rfl ?_
    rw [← HR.out]
    exact ⟨rfl, HH.out.1.trans (hBB.alloc (by have := hoo.size; omega) _)⟩
  · by_cases hat : s.size ≤ at1
    · rw [if_pos ⟨rfl, hat⟩] at HR
      have hatI : ¬ (at1 : Int) < (s.size : Int) := by omega
      go_wp2
      obtain ⟨hzz, hoo⟩ := put13 w1 w.heap.size (.int .i64 kind) (.int .i64 frm) (.int .i64 dst) (.int .i64 term) (.int .i64 pi) (.int .i64 pt) (.slice ea en ec) (.int .i64 commit) (.bool ok) (.int .i64 mtch) (.int .i64 si) (.int .i64 st) (.string text) HH.out.2.2
      have hzW := (heap_alloc_old _ (.cells #[.int .i64 kind, .int .i64 frm, .int .i64 dst, .int .i64 term, .int .i64 pi, .int .i64 pt, .slice ea en ec, .int .i64 commit, .bool ok, .int .i64 mtch, .int .i64 si, .int .i64 st, .string text] 28) (by have := hoo.size; omega)).trans hzz
      have hBB : Below w.heap.size w1 _ := hoo.below (B := w.heap.size) (by omega) (fun k hk => by omega)
      refine bodyPost_ret (v := .tuple #[.agg #[.int .i64 kind, .int .i64 frm, .int .i64 dst, .int .i64 term, .int .i64 pi, .int .i64 pt, .slice ea en ec, .int .i64 commit, .bool ok, .int .i64 mtch, .int .i64 si, .int .i64 st, .string text], .bool true]) (by simp [results, Try.results46, go_sem, cell_at hzW]) rfl ?_
      rw [← HR.out]
      refine ⟨⟨a, c, ?_, ?_⟩, HH.out.1.trans (hBB.alloc (by have := hoo.size; omega) _)⟩
      · rw [HW.out]
        rfl
      · exact own_low ((own_out HH.out.2.1 hoo (fun k hk => by omega)).alloc _) (by omega)
    · rw [if_neg (fun h => hat h.2)] at HR
      have hatI : (at1 : Int) < (s.size : Int) := by omega
      go_wp2
      obtain ⟨hzz, hoo⟩ := put13 w1 w.heap.size (.int .i64 0) (.int .i64 0) (.int .i64 0) (.int .i64 0) (.int .i64 0) (.int .i64 0) (.slice none 0 0) (.int .i64 0) (.bool false) (.int .i64 0) (.int .i64 0) (.int .i64 0) (.string ⟨#[]⟩) HH.out.2.2
      have hzW := (heap_alloc_old _ (.cells #[.int .i64 kind, .int .i64 frm, .int .i64 dst, .int .i64 term, .int .i64 pi, .int .i64 pt, .slice ea en ec, .int .i64 commit, .bool ok, .int .i64 mtch, .int .i64 si, .int .i64 st, .string text] 28) (by have := hoo.size; omega)).trans hzz
      have hBB : Below w.heap.size w1 _ := hoo.below (B := w.heap.size) (by omega) (fun k hk => by omega)
      refine bodyPost_ret (v := .tuple #[.agg #[.int .i64 0, .int .i64 0, .int .i64 0, .int .i64 0, .int .i64 0, .int .i64 0, .slice none 0 0, .int .i64 0, .bool false, .int .i64 0, .int .i64 0, .int .i64 0, .string ⟨#[]⟩], .bool false]) (by simp [results, Try.results46, go_sem, cell_at hzW]) rfl ?_
      rw [← HR.out]
      exact ⟨rfl, HH.out.1.trans (hBB.alloc (by have := hoo.size; omega) _)⟩
end Go.Proofs.Ytagfolckodpioaa
