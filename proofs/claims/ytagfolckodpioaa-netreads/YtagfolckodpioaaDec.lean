/- What net.Decode answers. -/
import Derived.Test.YtagfolckodpioaaIn
namespace Go.Proofs.Ytagfolckodpioaa
open Go.RowKit

theorem entC_get : ∀ (es : List EntV) (i : Nat) (h : i < es.length), (entC es)[i * 3]? = some (.int .i64 (es[i]).term) ∧ (entC es)[i * 3 + 1]? = some (.int .i64 (es[i]).kind) ∧ (entC es)[i * 3 + 2]? = some (.string (es[i]).text)
  | [], i, h => by simp at h
  | e :: es, 0, h => by simp [entC]
  | e :: es, i + 1, h => by
    have ih := entC_get es i (by simpa using h)
    have e1 : entC (e :: es) = [Value.int .i64 e.term, .int .i64 e.kind, .string e.text] ++ entC es := by simp [entC]
    rw [e1]
    have g : ∀ j, ([Value.int .i64 e.term, .int .i64 e.kind, .string e.text] ++ entC es)[(i + 1) * 3 + j]? = (entC es)[i * 3 + j]? := by
      intro j
      rw [List.getElem?_append_right (by simp; omega)]
      congr 1
      simp
      omega
    have g0 := g 0
    rw [Nat.add_zero, Nat.add_zero] at g0
    rw [g0, g 1, g 2]
    simpa using ih
theorem own_ents {w : World} {B c : Nat} {a : Option Addr} {es : List EntV} (h : w.ownsRow B 41 3 (.slice a es.length c) es.length (entC es)) : EntsAt w a es := by
  intro i hi
  obtain ⟨_, ⟨_, h0⟩ | ⟨g, cap, cur, hv, _, hg, _, _, _, ht⟩⟩ := h
  · omega
  · simp only [Value.slice.injEq] at hv
    obtain ⟨rfl, _, rfl⟩ := hv
    have hcur : ∀ j, j < es.length * 3 → cur[j]? = (entC es)[j]? := by
      intro j hj
      rw [← ht, List.getElem?_take_of_lt hj]
      simp
    obtain ⟨e0, e1, e2⟩ := entC_get es i hi
    refine ⟨g, 0, rfl, (Array.getElem?_eq_some_iff.1 hg).1, ?_, ?_, ?_⟩
    · rw [cell_at hg, Nat.zero_add, hcur _ (by omega), e0]
    · rw [cell_at hg, Nat.zero_add, hcur _ (by omega), e1]
    · rw [cell_at hg, Nat.zero_add, hcur _ (by omega), e2]
/-- What Decode answers. -/
def decL (l : List UInt8) : Option (MsgV × List EntV) :=
  if (unf l 0).2.2 = 0 ∧ l.length ≤ (unf l 0).2.1 then (msgIn (unf l 0).1).bind (fun x => if mayB (withE x.1 none x.2.length 0) x.2 = true then some x else none) else none
def DecBack (x : Option (MsgV × List EntV)) (w : World) (e : Ending) (w' : World) : Prop :=
  (match x with
   | none => e = .returned (.tuple #[.agg (msgC zeroM), .int .i64 52])
   | some (m, es) => ∃ a c, e = .returned (.tuple #[.agg (msgC (withE m a es.length c)), .int .i64 0]) ∧ w'.ownsRow w.heap.size 41 3 (.slice a es.length c) es.length (entC es)) ∧ Below w.heap.size w w'
theorem unf_size (l : List UInt8) (a : Nat) : (unf l a).1.length ≤ l.length := by
  unfold unf
  split
  · simp
  split
  · simp
  split
  · simp
  split
  · simp
  · simp
    omega
set_option maxHeartbeats 8000000 in
set_option maxRecDepth 100000 in
theorem decode_any (s : ByteArray) (w : World) (hs : s.size ≤ maxLen) :
    Calls Try.prog 15 #[.string s] w (DecBack (decL s.data.toList) w) := by
  obtain ⟨R, hR⟩ : ∃ R, decL s.data.toList = R := ⟨_, rfl⟩
  rw [hR]
  have hul := unf_size s.data.toList 0
  have hz0 : (w.alloc (.cells (msgC zeroM) 28)).heap[w.heap.size]? = some (.cells (msgC zeroM) 28 (0, 0)) := heap_alloc_new w _
  have hB0 : Below w.heap.size w (w.alloc (.cells (msgC zeroM) 28)) := (Below.refl _ _).alloc (Nat.le_refl _) _
  have HC := hideIt (unframe_any s 0 (w.alloc (.cells (msgC zeroM) 28)) hs (Nat.zero_le _))
  unfold decL at hR
  have hsl : s.data.toList.length = s.size := by simp
  rw [hsl] at hR hul
  obtain ⟨t, nx, er, ex⟩ : ∃ t nx er, unf s.data.toList 0 = (t, nx, er) := ⟨_, _, _, rfl⟩
  rw [ex] at hR HC hul
  simp only at hR hul
  have HM := hideIt (fun W => messageIn_any ⟨t.toArray⟩ W (by show t.toArray.size ≤ _; simp; omega))
  simp only at HM
  have HR := hideIt hR
  have HZ := hideIt (And.intro hz0 hB0)
  clear hR hz0 hB0 ex hsl hs hul
  simp only [zeroM, msgC, tupT] at HC HZ
  have e00 : ((0 : Nat) : Int) = 0 := rfl
  rw [e00] at HC
  clear e00
  obtain ⟨y, hy⟩ : ∃ y, msgIn t = y := ⟨_, rfl⟩
  rw [hy] at HM HR
  clear hy
  generalize (⟨t.toArray⟩ : ByteArray) = tx at *
  by_cases hbad : er = 0 ∧ s.size ≤ nx
  · obtain ⟨rfl, hnx⟩ := hbad
    rw [if_pos ⟨rfl, hnx⟩] at HR
    have hnI : ¬ (nx : Int) < (s.size : Int) := by omega
    go_enter Try.func15, Try.ntmps15
    go_wp2_with fail
    refine HC.out.mono ?_
    rintro e w1 ⟨rfl, hb1⟩
    dsimp only
    have hs1 := hb1.size
    have hz1 := (hb1.block w.heap.size (by simp)).trans HZ.out.1
    have hB1 : Below w.heap.size w w1 := HZ.out.2.trans (hb1.mono (by simp))
    simp only [World.size_alloc] at hs1
    have HY := hideIt (And.intro hz1 hB1)
    clear hb1 hz1 hB1 HC HZ
    go_wp2_with fail
    refine (HM.out _).mono ?_
    rintro e w2 ⟨hm, hb2⟩
    have hs2 := hb2.size
    have hz2 := (hb2.block w.heap.size (by omega)).trans HY.out.1
    have hl2 : w.heap.size < w2.heap.size := by omega
    have hB2 : Below w.heap.size w w2 := HY.out.2.trans (hb2.mono (by omega))
    cases y with
    | none =>
      simp only at hm
      subst hm
      dsimp only
      simp only [zeroM, msgC]
      have z0 : w2.cell? ⟨w.heap.size, 0, none⟩ = some (.int .i64 0) := by rw [cell_at hz2]; rfl
      have g0 : w2.frozen? ⟨w.heap.size, 0, none⟩ = false := free_at hz2 _
      have z1 : w2.cell? ⟨w.heap.size, 1, none⟩ = some (.int .i64 0) := by rw [cell_at hz2]; rfl
      have g1 : w2.frozen? ⟨w.heap.size, 1, none⟩ = false := free_at hz2 _
      have z2 : w2.cell? ⟨w.heap.size, 2, none⟩ = some (.int .i64 0) := by rw [cell_at hz2]; rfl
      have g2 : w2.frozen? ⟨w.heap.size, 2, none⟩ = false := free_at hz2 _
      have z3 : w2.cell? ⟨w.heap.size, 3, none⟩ = some (.int .i64 0) := by rw [cell_at hz2]; rfl
      have g3 : w2.frozen? ⟨w.heap.size, 3, none⟩ = false := free_at hz2 _
      have z4 : w2.cell? ⟨w.heap.size, 4, none⟩ = some (.int .i64 0) := by rw [cell_at hz2]; rfl
      have g4 : w2.frozen? ⟨w.heap.size, 4, none⟩ = false := free_at hz2 _
      have z5 : w2.cell? ⟨w.heap.size, 5, none⟩ = some (.int .i64 0) := by rw [cell_at hz2]; rfl
      have g5 : w2.frozen? ⟨w.heap.size, 5, none⟩ = false := free_at hz2 _
      have z6 : w2.cell? ⟨w.heap.size, 6, none⟩ = some (.slice none 0 0) := by rw [cell_at hz2]; rfl
      have g6 : w2.frozen? ⟨w.heap.size, 6, none⟩ = false := free_at hz2 _
      have z7 : w2.cell? ⟨w.heap.size, 7, none⟩ = some (.int .i64 0) := by rw [cell_at hz2]; rfl
      have g7 : w2.frozen? ⟨w.heap.size, 7, none⟩ = false := free_at hz2 _
      have z8 : w2.cell? ⟨w.heap.size, 8, none⟩ = some (.bool false) := by rw [cell_at hz2]; rfl
      have g8 : w2.frozen? ⟨w.heap.size, 8, none⟩ = false := free_at hz2 _
      have z9 : w2.cell? ⟨w.heap.size, 9, none⟩ = some (.int .i64 0) := by rw [cell_at hz2]; rfl
      have g9 : w2.frozen? ⟨w.heap.size, 9, none⟩ = false := free_at hz2 _
      have z10 : w2.cell? ⟨w.heap.size, 10, none⟩ = some (.int .i64 0) := by rw [cell_at hz2]; rfl
      have g10 : w2.frozen? ⟨w.heap.size, 10, none⟩ = false := free_at hz2 _
      have z11 : w2.cell? ⟨w.heap.size, 11, none⟩ = some (.int .i64 0) := by rw [cell_at hz2]; rfl
      have g11 : w2.frozen? ⟨w.heap.size, 11, none⟩ = false := free_at hz2 _
      have z12 : w2.cell? ⟨w.heap.size, 12, none⟩ = some (.string ⟨#[]⟩) := by rw [cell_at hz2]; rfl
      have g12 : w2.frozen? ⟨w.heap.size, 12, none⟩ = false := free_at hz2 _
      have HX := hideIt (And.intro hz2 hB2)
      clear hb2 hz2 hB2 HY HM
      go_wp2
      obtain ⟨hzz, hoo⟩ := put13 w2 w.heap.size (.int .i64 0) (.int .i64 0) (.int .i64 0) (.int .i64 0) (.int .i64 0) (.int .i64 0) (.slice none 0 0) (.int .i64 0) (.bool false) (.int .i64 0) (.int .i64 0) (.int .i64 0) (.string ⟨#[]⟩) HX.out.1
      have hzW := (heap_alloc_old _ (.cells #[.int .i64 0, .int .i64 0, .int .i64 0, .int .i64 0, .int .i64 0, .int .i64 0, .slice none 0 0, .int .i64 0, .bool false, .int .i64 0, .int .i64 0, .int .i64 0, .string ⟨#[]⟩] 28) (by have := hoo.size; omega)).trans hzz
      have hBB : Below w.heap.size w2 _ := hoo.below (B := w.heap.size) (by omega) (fun k hk => by omega)
      refine bodyPost_ret (v := .tuple #[.agg #[.int .i64 0, .int .i64 0, .int .i64 0, .int .i64 0, .int .i64 0, .int .i64 0, .slice none 0 0, .int .i64 0, .bool false, .int .i64 0, .int .i64 0, .int .i64 0, .string ⟨#[]⟩], .int .i64 52]) (by simp [results, Try.results15, go_sem, cell_at hzW]) rfl ?_
      rw [← HR.out]
      exact ⟨rfl, HX.out.2.trans (hBB.alloc (by have := hoo.size; omega) _)⟩
    | some x =>
      obtain ⟨m, es⟩ := x
      simp only at hm
      obtain ⟨a, c, rfl, hown⟩ := hm
      dsimp only
      have HB : Hid (∀ W, EntsAt W a es → Calls Try.prog 33 #[.agg (msgC (withE m a es.length c))] W fun e w' => e = .returned (.bool (mayB (withE m none es.length 0) es)) ∧ Below W.heap.size W w') := fun W hW => mayBe_is (withE m a es.length c) es W hW rfl
      have HRR : Hid ((if mayB (withE m none es.length 0) es = true then some (m, es) else none) = R) := HR.out
      clear HR
      have HR := HRR
      clear HRR
      obtain ⟨mm, hmm⟩ : ∃ mm, withE m a es.length c = mm := ⟨_, rfl⟩
      rw [hmm] at HB ⊢
      have HW := hideIt hmm
      have HO := hideIt (And.intro hown (And.intro hz2 hB2))
      clear hmm hb2 hz2 hB2 HY HM hown
      obtain ⟨kind, frm, dst, term, pi, pt, ea, en, ec, commit, ok, mtch, si, st, text⟩ := mm
      simp only [msgC] at HB ⊢
      go_wp2_with fail
      refine (HB.out _ (own_ents (HO.out.1.alloc _))).mono ?_
      rintro e w3 ⟨rfl, hb3⟩
      dsimp only
      have hs3 := hb3.size
      have hz3 := (hb3.block w.heap.size (by simp; omega)).trans ((heap_alloc_old w2 _ hl2).trans HO.out.2.1)
      have hm3 := (hb3.block w2.heap.size (by simp)).trans (heap_alloc_new w2 _)
      have hB3 : Below w.heap.size w w3 := (HO.out.2.2.alloc (by omega) _).trans (hb3.mono (by simp; omega))
      have hown3 := own_out (HO.out.1.alloc _) (Out.ofBelow (F := fun _ => False) hb3) (fun _ h => h.elim)
      simp only [World.size_alloc] at hs3
      have z0 : w3.cell? ⟨w.heap.size, 0, none⟩ = some (.int .i64 0) := by rw [cell_at hz3]; rfl
      have g0 : w3.frozen? ⟨w.heap.size, 0, none⟩ = false := free_at hz3 _
      have z1 : w3.cell? ⟨w.heap.size, 1, none⟩ = some (.int .i64 0) := by rw [cell_at hz3]; rfl
      have g1 : w3.frozen? ⟨w.heap.size, 1, none⟩ = false := free_at hz3 _
      have z2 : w3.cell? ⟨w.heap.size, 2, none⟩ = some (.int .i64 0) := by rw [cell_at hz3]; rfl
      have g2 : w3.frozen? ⟨w.heap.size, 2, none⟩ = false := free_at hz3 _
      have z3 : w3.cell? ⟨w.heap.size, 3, none⟩ = some (.int .i64 0) := by rw [cell_at hz3]; rfl
      have g3 : w3.frozen? ⟨w.heap.size, 3, none⟩ = false := free_at hz3 _
      have z4 : w3.cell? ⟨w.heap.size, 4, none⟩ = some (.int .i64 0) := by rw [cell_at hz3]; rfl
      have g4 : w3.frozen? ⟨w.heap.size, 4, none⟩ = false := free_at hz3 _
      have z5 : w3.cell? ⟨w.heap.size, 5, none⟩ = some (.int .i64 0) := by rw [cell_at hz3]; rfl
      have g5 : w3.frozen? ⟨w.heap.size, 5, none⟩ = false := free_at hz3 _
      have z6 : w3.cell? ⟨w.heap.size, 6, none⟩ = some (.slice none 0 0) := by rw [cell_at hz3]; rfl
      have g6 : w3.frozen? ⟨w.heap.size, 6, none⟩ = false := free_at hz3 _
      have z7 : w3.cell? ⟨w.heap.size, 7, none⟩ = some (.int .i64 0) := by rw [cell_at hz3]; rfl
      have g7 : w3.frozen? ⟨w.heap.size, 7, none⟩ = false := free_at hz3 _
      have z8 : w3.cell? ⟨w.heap.size, 8, none⟩ = some (.bool false) := by rw [cell_at hz3]; rfl
      have g8 : w3.frozen? ⟨w.heap.size, 8, none⟩ = false := free_at hz3 _
      have z9 : w3.cell? ⟨w.heap.size, 9, none⟩ = some (.int .i64 0) := by rw [cell_at hz3]; rfl
      have g9 : w3.frozen? ⟨w.heap.size, 9, none⟩ = false := free_at hz3 _
      have z10 : w3.cell? ⟨w.heap.size, 10, none⟩ = some (.int .i64 0) := by rw [cell_at hz3]; rfl
      have g10 : w3.frozen? ⟨w.heap.size, 10, none⟩ = false := free_at hz3 _
      have z11 : w3.cell? ⟨w.heap.size, 11, none⟩ = some (.int .i64 0) := by rw [cell_at hz3]; rfl
      have g11 : w3.frozen? ⟨w.heap.size, 11, none⟩ = false := free_at hz3 _
      have z12 : w3.cell? ⟨w.heap.size, 12, none⟩ = some (.string ⟨#[]⟩) := by rw [cell_at hz3]; rfl
      have g12 : w3.frozen? ⟨w.heap.size, 12, none⟩ = false := free_at hz3 _
      have d0 : w3.cell? ⟨w2.heap.size, 0, none⟩ = some (.int .i64 kind) := by rw [cell_at hm3]; rfl
      have d1 : w3.cell? ⟨w2.heap.size, 1, none⟩ = some (.int .i64 frm) := by rw [cell_at hm3]; rfl
      have d2 : w3.cell? ⟨w2.heap.size, 2, none⟩ = some (.int .i64 dst) := by rw [cell_at hm3]; rfl
      have d3 : w3.cell? ⟨w2.heap.size, 3, none⟩ = some (.int .i64 term) := by rw [cell_at hm3]; rfl
      have d4 : w3.cell? ⟨w2.heap.size, 4, none⟩ = some (.int .i64 pi) := by rw [cell_at hm3]; rfl
      have d5 : w3.cell? ⟨w2.heap.size, 5, none⟩ = some (.int .i64 pt) := by rw [cell_at hm3]; rfl
      have d6 : w3.cell? ⟨w2.heap.size, 6, none⟩ = some (.slice ea en ec) := by rw [cell_at hm3]; rfl
      have d7 : w3.cell? ⟨w2.heap.size, 7, none⟩ = some (.int .i64 commit) := by rw [cell_at hm3]; rfl
      have d8 : w3.cell? ⟨w2.heap.size, 8, none⟩ = some (.bool ok) := by rw [cell_at hm3]; rfl
      have d9 : w3.cell? ⟨w2.heap.size, 9, none⟩ = some (.int .i64 mtch) := by rw [cell_at hm3]; rfl
      have d10 : w3.cell? ⟨w2.heap.size, 10, none⟩ = some (.int .i64 si) := by rw [cell_at hm3]; rfl
      have d11 : w3.cell? ⟨w2.heap.size, 11, none⟩ = some (.int .i64 st) := by rw [cell_at hm3]; rfl
      have d12 : w3.cell? ⟨w2.heap.size, 12, none⟩ = some (.string text) := by rw [cell_at hm3]; rfl
      have hl3 : w.heap.size < w3.heap.size := by omega
      have hl4 : w2.heap.size < w3.heap.size := by omega
      have HX := hideIt (And.intro hz3 (And.intro hB3 hown3))
      clear hb3 hz3 hm3 hB3 hown3 HO HB
      cases hmay : mayB (withE m none es.length 0) es
      · rw [hmay, if_neg (by decide)] at HR
        clear hmay
        go_wp2
        obtain ⟨hzz, hoo⟩ := put13 w3 w.heap.size (.int .i64 0) (.int .i64 0) (.int .i64 0) (.int .i64 0) (.int .i64 0) (.int .i64 0) (.slice none 0 0) (.int .i64 0) (.bool false) (.int .i64 0) (.int .i64 0) (.int .i64 0) (.string ⟨#[]⟩) HX.out.1
        have hzW := hzz
        have hBB : Below w.heap.size w3 _ := hoo.below (B := w.heap.size) (by omega) (fun k hk => by omega)
        refine bodyPost_ret (v := .tuple #[.agg #[.int .i64 0, .int .i64 0, .int .i64 0, .int .i64 0, .int .i64 0, .int .i64 0, .slice none 0 0, .int .i64 0, .bool false, .int .i64 0, .int .i64 0, .int .i64 0, .string ⟨#[]⟩], .int .i64 52]) (by simp [results, Try.results15, go_sem, cell_at hzW]) rfl ?_
        rw [← HR.out]
        exact ⟨rfl, HX.out.2.1.trans hBB⟩
      · rw [hmay, if_pos rfl] at HR
        clear hmay
        go_wp2
        obtain ⟨hzz, hoo⟩ := put13 w3 w.heap.size (.int .i64 kind) (.int .i64 frm) (.int .i64 dst) (.int .i64 term) (.int .i64 pi) (.int .i64 pt) (.slice ea en ec) (.int .i64 commit) (.bool ok) (.int .i64 mtch) (.int .i64 si) (.int .i64 st) (.string text) HX.out.1
        have hzW := hzz
        have hBB : Below w.heap.size w3 _ := hoo.below (B := w.heap.size) (by omega) (fun k hk => by omega)
        refine bodyPost_ret (v := .tuple #[.agg #[.int .i64 kind, .int .i64 frm, .int .i64 dst, .int .i64 term, .int .i64 pi, .int .i64 pt, .slice ea en ec, .int .i64 commit, .bool ok, .int .i64 mtch, .int .i64 si, .int .i64 st, .string text], .int .i64 0]) (by simp [results, Try.results15, go_sem, cell_at hzW]) rfl ?_
        rw [← HR.out]
        refine ⟨⟨a, c, ?_, ?_⟩, HX.out.2.1.trans hBB⟩
        · rw [HW.out]
          rfl
        · exact own_low (own_out HX.out.2.2 hoo (fun k hk => by omega)) (by omega)
  · rw [if_neg hbad] at HR
    have hor : er ≠ 0 ∨ (er = 0 ∧ nx < s.size) := by omega
    clear hbad
    rcases hor with he | ⟨rfl, hn⟩
    · have heb : ((er : Int) != 0) = true := by simp; omega
      go_enter Try.func15, Try.ntmps15
      go_wp2_with fail
      refine HC.out.mono ?_
      rintro e w1 ⟨rfl, hb1⟩
      dsimp only
      have hs1 := hb1.size
      have hz1 := (hb1.block w.heap.size (by simp)).trans HZ.out.1
      have hB1 : Below w.heap.size w w1 := HZ.out.2.trans (hb1.mono (by simp))
      simp only [World.size_alloc] at hs1
      have z0 : w1.cell? ⟨w.heap.size, 0, none⟩ = some (.int .i64 0) := by rw [cell_at hz1]; rfl
      have g0 : w1.frozen? ⟨w.heap.size, 0, none⟩ = false := free_at hz1 _
      have z1 : w1.cell? ⟨w.heap.size, 1, none⟩ = some (.int .i64 0) := by rw [cell_at hz1]; rfl
      have g1 : w1.frozen? ⟨w.heap.size, 1, none⟩ = false := free_at hz1 _
      have z2 : w1.cell? ⟨w.heap.size, 2, none⟩ = some (.int .i64 0) := by rw [cell_at hz1]; rfl
      have g2 : w1.frozen? ⟨w.heap.size, 2, none⟩ = false := free_at hz1 _
      have z3 : w1.cell? ⟨w.heap.size, 3, none⟩ = some (.int .i64 0) := by rw [cell_at hz1]; rfl
      have g3 : w1.frozen? ⟨w.heap.size, 3, none⟩ = false := free_at hz1 _
      have z4 : w1.cell? ⟨w.heap.size, 4, none⟩ = some (.int .i64 0) := by rw [cell_at hz1]; rfl
      have g4 : w1.frozen? ⟨w.heap.size, 4, none⟩ = false := free_at hz1 _
      have z5 : w1.cell? ⟨w.heap.size, 5, none⟩ = some (.int .i64 0) := by rw [cell_at hz1]; rfl
      have g5 : w1.frozen? ⟨w.heap.size, 5, none⟩ = false := free_at hz1 _
      have z6 : w1.cell? ⟨w.heap.size, 6, none⟩ = some (.slice none 0 0) := by rw [cell_at hz1]; rfl
      have g6 : w1.frozen? ⟨w.heap.size, 6, none⟩ = false := free_at hz1 _
      have z7 : w1.cell? ⟨w.heap.size, 7, none⟩ = some (.int .i64 0) := by rw [cell_at hz1]; rfl
      have g7 : w1.frozen? ⟨w.heap.size, 7, none⟩ = false := free_at hz1 _
      have z8 : w1.cell? ⟨w.heap.size, 8, none⟩ = some (.bool false) := by rw [cell_at hz1]; rfl
      have g8 : w1.frozen? ⟨w.heap.size, 8, none⟩ = false := free_at hz1 _
      have z9 : w1.cell? ⟨w.heap.size, 9, none⟩ = some (.int .i64 0) := by rw [cell_at hz1]; rfl
      have g9 : w1.frozen? ⟨w.heap.size, 9, none⟩ = false := free_at hz1 _
      have z10 : w1.cell? ⟨w.heap.size, 10, none⟩ = some (.int .i64 0) := by rw [cell_at hz1]; rfl
      have g10 : w1.frozen? ⟨w.heap.size, 10, none⟩ = false := free_at hz1 _
      have z11 : w1.cell? ⟨w.heap.size, 11, none⟩ = some (.int .i64 0) := by rw [cell_at hz1]; rfl
      have g11 : w1.frozen? ⟨w.heap.size, 11, none⟩ = false := free_at hz1 _
      have z12 : w1.cell? ⟨w.heap.size, 12, none⟩ = some (.string ⟨#[]⟩) := by rw [cell_at hz1]; rfl
      have g12 : w1.frozen? ⟨w.heap.size, 12, none⟩ = false := free_at hz1 _
      have HX := hideIt (And.intro hz1 hB1)
      clear hb1 hz1 hB1 HC HZ HM
      go_wp2
      obtain ⟨hzz, hoo⟩ := put13 w1 w.heap.size (.int .i64 0) (.int .i64 0) (.int .i64 0) (.int .i64 0) (.int .i64 0) (.int .i64 0) (.slice none 0 0) (.int .i64 0) (.bool false) (.int .i64 0) (.int .i64 0) (.int .i64 0) (.string ⟨#[]⟩) HX.out.1
      have hzW := hzz
      have hBB : Below w.heap.size w1 _ := hoo.below (B := w.heap.size) (by omega) (fun k hk => by omega)
      refine bodyPost_ret (v := .tuple #[.agg #[.int .i64 0, .int .i64 0, .int .i64 0, .int .i64 0, .int .i64 0, .int .i64 0, .slice none 0 0, .int .i64 0, .bool false, .int .i64 0, .int .i64 0, .int .i64 0, .string ⟨#[]⟩], .int .i64 52]) (by simp [results, Try.results15, go_sem, cell_at hzW]) rfl ?_
      rw [← HR.out]
      exact ⟨rfl, HX.out.2.trans hBB⟩
    · have hnI : (nx : Int) < (s.size : Int) := by omega
      go_enter Try.func15, Try.ntmps15
      go_wp2_with fail
      refine HC.out.mono ?_
      rintro e w1 ⟨rfl, hb1⟩
      dsimp only
      have hs1 := hb1.size
      have hz1 := (hb1.block w.heap.size (by simp)).trans HZ.out.1
      have hB1 : Below w.heap.size w w1 := HZ.out.2.trans (hb1.mono (by simp))
      simp only [World.size_alloc] at hs1
      have z0 : w1.cell? ⟨w.heap.size, 0, none⟩ = some (.int .i64 0) := by rw [cell_at hz1]; rfl
      have g0 : w1.frozen? ⟨w.heap.size, 0, none⟩ = false := free_at hz1 _
      have z1 : w1.cell? ⟨w.heap.size, 1, none⟩ = some (.int .i64 0) := by rw [cell_at hz1]; rfl
      have g1 : w1.frozen? ⟨w.heap.size, 1, none⟩ = false := free_at hz1 _
      have z2 : w1.cell? ⟨w.heap.size, 2, none⟩ = some (.int .i64 0) := by rw [cell_at hz1]; rfl
      have g2 : w1.frozen? ⟨w.heap.size, 2, none⟩ = false := free_at hz1 _
      have z3 : w1.cell? ⟨w.heap.size, 3, none⟩ = some (.int .i64 0) := by rw [cell_at hz1]; rfl
      have g3 : w1.frozen? ⟨w.heap.size, 3, none⟩ = false := free_at hz1 _
      have z4 : w1.cell? ⟨w.heap.size, 4, none⟩ = some (.int .i64 0) := by rw [cell_at hz1]; rfl
      have g4 : w1.frozen? ⟨w.heap.size, 4, none⟩ = false := free_at hz1 _
      have z5 : w1.cell? ⟨w.heap.size, 5, none⟩ = some (.int .i64 0) := by rw [cell_at hz1]; rfl
      have g5 : w1.frozen? ⟨w.heap.size, 5, none⟩ = false := free_at hz1 _
      have z6 : w1.cell? ⟨w.heap.size, 6, none⟩ = some (.slice none 0 0) := by rw [cell_at hz1]; rfl
      have g6 : w1.frozen? ⟨w.heap.size, 6, none⟩ = false := free_at hz1 _
      have z7 : w1.cell? ⟨w.heap.size, 7, none⟩ = some (.int .i64 0) := by rw [cell_at hz1]; rfl
      have g7 : w1.frozen? ⟨w.heap.size, 7, none⟩ = false := free_at hz1 _
      have z8 : w1.cell? ⟨w.heap.size, 8, none⟩ = some (.bool false) := by rw [cell_at hz1]; rfl
      have g8 : w1.frozen? ⟨w.heap.size, 8, none⟩ = false := free_at hz1 _
      have z9 : w1.cell? ⟨w.heap.size, 9, none⟩ = some (.int .i64 0) := by rw [cell_at hz1]; rfl
      have g9 : w1.frozen? ⟨w.heap.size, 9, none⟩ = false := free_at hz1 _
      have z10 : w1.cell? ⟨w.heap.size, 10, none⟩ = some (.int .i64 0) := by rw [cell_at hz1]; rfl
      have g10 : w1.frozen? ⟨w.heap.size, 10, none⟩ = false := free_at hz1 _
      have z11 : w1.cell? ⟨w.heap.size, 11, none⟩ = some (.int .i64 0) := by rw [cell_at hz1]; rfl
      have g11 : w1.frozen? ⟨w.heap.size, 11, none⟩ = false := free_at hz1 _
      have z12 : w1.cell? ⟨w.heap.size, 12, none⟩ = some (.string ⟨#[]⟩) := by rw [cell_at hz1]; rfl
      have g12 : w1.frozen? ⟨w.heap.size, 12, none⟩ = false := free_at hz1 _
      have HX := hideIt (And.intro hz1 hB1)
      clear hb1 hz1 hB1 HC HZ HM
      go_wp2
      obtain ⟨hzz, hoo⟩ := put13 w1 w.heap.size (.int .i64 0) (.int .i64 0) (.int .i64 0) (.int .i64 0) (.int .i64 0) (.int .i64 0) (.slice none 0 0) (.int .i64 0) (.bool false) (.int .i64 0) (.int .i64 0) (.int .i64 0) (.string ⟨#[]⟩) HX.out.1
      have hzW := hzz
      have hBB : Below w.heap.size w1 _ := hoo.below (B := w.heap.size) (by omega) (fun k hk => by omega)
      refine bodyPost_ret (v := .tuple #[.agg #[.int .i64 0, .int .i64 0, .int .i64 0, .int .i64 0, .int .i64 0, .int .i64 0, .slice none 0 0, .int .i64 0, .bool false, .int .i64 0, .int .i64 0, .int .i64 0, .string ⟨#[]⟩], .int .i64 52]) (by simp [results, Try.results15, go_sem, cell_at hzW]) rfl ?_
      rw [← HR.out]
      exact ⟨rfl, HX.out.2.trans hBB⟩
end Go.Proofs.Ytagfolckodpioaa
