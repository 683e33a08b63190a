/- The document's Place and the program's: plain data. -/
import Derived.Test.YtpfdmjphoeljiaaRTk
namespace Go.Proofs.Ytpfdmjphoeljiaa
open Go.RowKit
set_option linter.all false
/-- The document's trades of an order that is placed. -/
def docT (L : LaneV) (s : Int) (x : OrdV) : List OrdV × Int × List OweV × List FillV × Bool :=
  if L.call = true then (sideL L (if s = 1 then 2 else 1), x.left, L.owed, [], true) else trD s x (sideL L (if s = 1 then 2 else 1)) x.left L.owed []
theorem ref_ok {L : LaneV} {acc s price n : Int} {now : Bool} (h : refE L acc s price n now = 0) : chkB L = true ∧ argB acc s price n = true ∧ (now && L.call) = false ∧ (sideL L s).length < 40 ∧ L.next ≤ 1000000 := by
  unfold refE at h
  split at h
  · cases h
  · rename_i h1
    split at h
    · cases h
    · rename_i h2
      split at h
      · cases h
      · rename_i h3
        split at h
        · cases h
        · rename_i h4
          have hc : chkB L = true := by simpa using h1
          have hm := chk_may hc
          refine ⟨hc, by simpa using h2, by simpa using h3, ?_, by omega⟩
          have : (sideL L s).length ≤ 40 := by
            unfold sideL
            split
            · exact hm.lb
            · exact hm.la
          omega
theorem arg_ok {acc s price n : Int} (h : argB acc s price n = true) : (1 ≤ acc ∧ acc ≤ 8) ∧ (s = 1 ∨ s = 2) ∧ (1 ≤ price ∧ price ≤ 1000000) ∧ (1 ≤ n ∧ n ≤ 1000000) := by
  unfold argB at h
  simp only [Bool.and_eq_true, Bool.or_eq_true, decide_eq_true_eq] at h
  exact ⟨wiB_in h.1, h.2.1, wiB_in h.2.2.1, wiB_in h.2.2.2⟩
theorem over_no {L : LaneV} (h : chkB L = true) : overB L.owed = false := by
  unfold overB
  rw [List.any_eq_false]
  intro y hy
  have := (chk_may h).ow.2 y hy
  simp
  omega
theorem side_other {L : LaneV} (h : chkB L = true) (s : Int) : OkT (sideL L s) ∧ AccT (sideL L s) ∧ (sideL L s).length ≤ 40 := by
  have hm := chk_may h
  have hB := (chk_bok L).1 h
  unfold sideL
  split
  · exact ⟨hm.tb, (side_acc hB.sb).1, hm.lb⟩
  · exact ⟨hm.ta, (side_acc hB.sa).1, hm.la⟩
/-- The document's trades and the program's. -/
theorem docT_is {L : LaneV} {acc s price n : Int} {now : Bool} (hr : refE L acc s price n now = 0) :
    (docT L s ⟨L.next, acc, price, n⟩).2.2.2.2 = !(overB (plT L s ⟨L.next, acc, price, n⟩).2.2.1) ∧ ((docT L s ⟨L.next, acc, price, n⟩).2.2.2.2 = true → docT L s ⟨L.next, acc, price, n⟩ = ((plT L s ⟨L.next, acc, price, n⟩).1, (plT L s ⟨L.next, acc, price, n⟩).2.1, (plT L s ⟨L.next, acc, price, n⟩).2.2.1, (plT L s ⟨L.next, acc, price, n⟩).2.2.2, true)) := by
  obtain ⟨hc, ha, -, -, -⟩ := ref_ok hr
  obtain ⟨h1, h2, h3, h4⟩ := arg_ok ha
  have hB := (chk_bok L).1 hc
  have hs := side_other hc (if s = 1 then 2 else 1)
  unfold docT plT
  by_cases hcall : L.call = true
  · rw [if_pos hcall]
    simp [hcall, over_no hc]
  · rw [if_neg hcall]
    have e : (if L.call = true then (sideL L (if s = 1 then 2 else 1), n, L.owed, ([] : List FillV)) else trL s ⟨L.next, acc, price, n⟩ (sideL L (if s = 1 then 2 else 1)) n L.owed []) = trL s ⟨L.next, acc, price, n⟩ (sideL L (if s = 1 then 2 else 1)) n L.owed [] := if_neg hcall
    simp only at e ⊢
    rw [e]
    exact tr_same h2 h1 h3 _ n L.owed [] hs.1 hs.2.1 (by omega) (owed_owok hB.ow) (over_no hc)
/-- The book with its own side. -/
def putL (s : Int) (M : LaneV) (l : List OrdV) : LaneV := if s = 1 then ⟨M.call, M.next, l, M.asks, M.owed⟩ else ⟨M.call, M.next, M.bids, l, M.owed⟩
theorem doc_place {L : LaneV} {acc s price n : Int} {now : Bool} (hr : refE L acc s price n now = 0) {T : List OrdV} {left : Int} {ow : List OweV} {F : List FillV} {ok : Bool} (hT : docT L s ⟨L.next, acc, price, n⟩ = (T, left, ow, F, ok)) (hlf : 0 ≤ left) :
    (ok = false → placeL L acc s price n now = (zLane, [], 0, 131)) ∧
    (ok = true → ¬ 0 < left → placeL L acc s price n now = (plL L s T ow, F, L.next, 0)) ∧
    (ok = true → 0 < left → now = true → left ≤ 1000000 → (oweD acc (brA s) (brN s ⟨L.next, acc, price, left⟩) ow).2 = false → placeL L acc s price n now = (zLane, [], 0, 131)) ∧
    (ok = true → 0 < left → now = true → left ≤ 1000000 → (oweD acc (brA s) (brN s ⟨L.next, acc, price, left⟩) ow).2 = true → placeL L acc s price n now = (plL L s T (oweD acc (brA s) (brN s ⟨L.next, acc, price, left⟩) ow).1, F, L.next, 0)) ∧
    (ok = true → 0 < left → now = false → placeL L acc s price n now = (putL s (plL L s T ow) (sidL s ⟨L.next, acc, price, left⟩ (sideL L s)), F, L.next, 0)) := by
  obtain ⟨hd1, hd2⟩ := docT_is hr
  obtain ⟨hc, ha, -, -, -⟩ := ref_ok hr
  obtain ⟨h1, h2, h3, h4⟩ := arg_ok ha
  have hB := (chk_bok L).1 hc
  rw [hT] at hd1 hd2
  simp only at hd1 hd2
  have hP : placeL L acc s price n now = plX L acc s price n now := by
    unfold placeL
    rw [hr]
    simp
  rw [hP]
  unfold plX
  generalize plT L s ⟨L.next, acc, price, n⟩ = PT at *
  obtain ⟨pT, pl, pw, pF⟩ := PT
  simp only at hd1 hd2 ⊢
  have hlo : (plL L s pT pw).owed = pw := by unfold plL; split <;> rfl
  have hbr : ∀ m : Int, 0 < m → m ≤ 1000000 → 1 ≤ brN s ⟨L.next, acc, price, m⟩ ∧ brN s ⟨L.next, acc, price, m⟩ ≤ 1000000000000 := fun m hm hm2 => by
    unfold brN
    split
    · exact ⟨mul_pos1 h3.1 (by dsimp only; omega), by
        have := Int.mul_le_mul h3.2 (show m ≤ 1000000 from hm2) (by omega) (by omega : (0 : Int) ≤ 1000000)
        dsimp only
        omega⟩
    · dsimp only
      omega
  cases ok with
  | false =>
    have hov : overB pw = true := by
      cases hq : overB pw
      · rw [hq] at hd1
        cases hd1
      · rfl
    refine ⟨fun _ => ?_, fun h => absurd h (by decide), fun h => absurd h (by decide), fun h => absurd h (by decide), fun h => absurd h (by decide)⟩
    have : overB (plR (plL L s pT pw) s ⟨L.next, acc, price, pl⟩ now).owed = true := by
      unfold plR
      split
      · rename_i hpl
        split
        · simp only
          rw [hlo]
          refine over_mono ?_ hov
          unfold brN
          simp only at hpl ⊢
          split
          · exact Int.mul_nonneg (by omega) (by omega)
          · omega
        · split
          · simp only
            rw [hlo]
            exact hov
          · simp only
            rw [hlo]
            exact hov
      · rw [hlo]
        exact hov
    rw [this]
    rfl
  | true =>
    have hov : overB pw = false := by
      cases hq : overB pw
      · rfl
      · rw [hq] at hd1
        cases hd1
    have he := hd2 rfl
    simp only [Prod.mk.injEq, and_true] at he
    obtain ⟨rfl, rfl, rfl, rfl⟩ := he
    refine ⟨fun h => absurd h (by decide), fun _ hl => ?_, fun _ hl hn hl2 hk => ?_, fun _ hl hn hl2 hk => ?_, fun _ hl hn => ?_⟩
    · have e : plR (plL L s T ow) s ⟨L.next, acc, price, left⟩ now = plL L s T ow := by unfold plR; rw [if_neg hl]
      rw [e, hlo, hov]
      rfl
    · subst hn
      have hb := hbr left hl hl2
      have hD : oweD acc (brA s) (brN s ⟨L.next, acc, price, left⟩) ow = (oweL acc (brA s) (brN s ⟨L.next, acc, price, left⟩) ow, okL acc (brA s) (brN s ⟨L.next, acc, price, left⟩) ow) := by unfold oweD; rw [if_neg (by omega)]
      rw [hD] at hk
      have ho := over_owe (acc := acc) (asset := brA s) (n := brN s ⟨L.next, acc, price, left⟩) hov (by omega)
      simp only at hk
      rw [hk, Bool.not_false] at ho
      have e : (plR (plL L s T ow) s ⟨L.next, acc, price, left⟩ true).owed = oweL acc (brA s) (brN s ⟨L.next, acc, price, left⟩) ow := by unfold plR; rw [if_pos hl, if_pos rfl]; simp only; rw [hlo]
      rw [e, ho]
      rfl
    · subst hn
      have hb := hbr left hl hl2
      have hD : oweD acc (brA s) (brN s ⟨L.next, acc, price, left⟩) ow = (oweL acc (brA s) (brN s ⟨L.next, acc, price, left⟩) ow, okL acc (brA s) (brN s ⟨L.next, acc, price, left⟩) ow) := by unfold oweD; rw [if_neg (by omega)]
      rw [hD] at hk ⊢
      have ho := over_owe (acc := acc) (asset := brA s) (n := brN s ⟨L.next, acc, price, left⟩) hov (by omega)
      simp only at hk
      rw [hk, Bool.not_true] at ho
      have e : plR (plL L s T ow) s ⟨L.next, acc, price, left⟩ true = plL L s T (oweL acc (brA s) (brN s ⟨L.next, acc, price, left⟩) ow) := by
        unfold plR
        rw [if_pos hl, if_pos rfl]
        unfold plL
        split <;> rfl
      have e2 : (plL L s T (oweL acc (brA s) (brN s ⟨L.next, acc, price, left⟩) ow)).owed = oweL acc (brA s) (brN s ⟨L.next, acc, price, left⟩) ow := by unfold plL; split <;> rfl
      rw [e, e2, ho]
      rfl
    · subst hn
      have hsid : sidL s ⟨L.next, acc, price, left⟩ (sideL L s) = laidL (ahB s) ⟨L.next, acc, price, left⟩ (sideL L s) := by
        refine sid_is (fun y hy => ah_tot ?_)
        intro e
        have hid : ∀ {q : Int} {l : List OrdV}, sideB q L.next l = true → y ∈ l → False := fun hsb hm => by
          have := (side_acc hsb).2.1 y hm
          simp only at e
          omega
        unfold sideL at hy
        split at hy
        · exact hid hB.sb hy
        · exact hid hB.sa hy
      have e : plR (plL L s T ow) s ⟨L.next, acc, price, left⟩ false = putL s (plL L s T ow) (sidL s ⟨L.next, acc, price, left⟩ (sideL L s)) := by
        rw [hsid]
        unfold plR putL
        rw [if_pos hl, if_neg (by simp)]
        rcases h2 with rfl | rfl
        · rw [if_pos rfl, if_pos rfl]
          unfold plL sideL
          simp
        · rw [if_neg (by decide), if_neg (by decide)]
          unfold plL sideL
          simp
      have e2 : (putL s (plL L s T ow) (sidL s ⟨L.next, acc, price, left⟩ (sideL L s))).owed = ow := by
        unfold putL
        split <;> exact hlo
      rw [e, e2, hov]
      rfl
theorem doc_place1 {L : LaneV} {acc price n : Int} {now : Bool} (hr : refE L acc 1 price n now = 0) {T : List OrdV} {left : Int} {ow : List OweV} {F : List FillV} {ok : Bool} (hT : docT L 1 ⟨L.next, acc, price, n⟩ = (T, left, ow, F, ok)) (hlf : 0 ≤ left) :
    (ok = false → placeL L acc 1 price n now = (zLane, [], 0, 131)) ∧
    (ok = true → ¬ 0 < left → placeL L acc 1 price n now = (⟨L.call, L.next + 1, L.bids, T, ow⟩, F, L.next, 0)) ∧
    (ok = true → 0 < left → now = true → left ≤ 1000000 → (oweD acc (brA 1) (brN 1 ⟨L.next, acc, price, left⟩) ow).2 = false → placeL L acc 1 price n now = (zLane, [], 0, 131)) ∧
    (ok = true → 0 < left → now = true → left ≤ 1000000 → (oweD acc (brA 1) (brN 1 ⟨L.next, acc, price, left⟩) ow).2 = true → placeL L acc 1 price n now = (⟨L.call, L.next + 1, L.bids, T, (oweD acc (brA 1) (brN 1 ⟨L.next, acc, price, left⟩) ow).1⟩, F, L.next, 0)) ∧
    (ok = true → 0 < left → now = false → placeL L acc 1 price n now = (⟨L.call, L.next + 1, (sidL 1 ⟨L.next, acc, price, left⟩ L.bids), T, ow⟩, F, L.next, 0)) := doc_place hr hT hlf
theorem doc_place2 {L : LaneV} {acc price n : Int} {now : Bool} (hr : refE L acc 2 price n now = 0) {T : List OrdV} {left : Int} {ow : List OweV} {F : List FillV} {ok : Bool} (hT : docT L 2 ⟨L.next, acc, price, n⟩ = (T, left, ow, F, ok)) (hlf : 0 ≤ left) :
    (ok = false → placeL L acc 2 price n now = (zLane, [], 0, 131)) ∧
    (ok = true → ¬ 0 < left → placeL L acc 2 price n now = (⟨L.call, L.next + 1, T, L.asks, ow⟩, F, L.next, 0)) ∧
    (ok = true → 0 < left → now = true → left ≤ 1000000 → (oweD acc (brA 2) (brN 2 ⟨L.next, acc, price, left⟩) ow).2 = false → placeL L acc 2 price n now = (zLane, [], 0, 131)) ∧
    (ok = true → 0 < left → now = true → left ≤ 1000000 → (oweD acc (brA 2) (brN 2 ⟨L.next, acc, price, left⟩) ow).2 = true → placeL L acc 2 price n now = (⟨L.call, L.next + 1, T, L.asks, (oweD acc (brA 2) (brN 2 ⟨L.next, acc, price, left⟩) ow).1⟩, F, L.next, 0)) ∧
    (ok = true → 0 < left → now = false → placeL L acc 2 price n now = (⟨L.call, L.next + 1, T, (sidL 2 ⟨L.next, acc, price, left⟩ L.asks), ow⟩, F, L.next, 0)) := doc_place hr hT hlf
def DpBack (X : LaneV × List FillV × Int × Int) (w : World) (e : Ending) (w' : World) : Prop := ∃ b a o f, e = .returned (.tuple #[laneV X.1 b a o, f, .int .i64 X.2.2.1, .int .i64 X.2.2.2]) ∧ Lan w' X.1 b a o ∧ Fils w' f X.2.1 ∧ Below w.heap.size w w'
theorem CB.keepB {w wx wy : World} {L : LaneV} {b a o : Value} (h : CB w L b a o wx) (hb : Below (w.heap.size + 2) wx wy) : CB w L b a o wy :=
  ⟨(hb.block _ (by omega)).trans h.box, (hb.block _ (by omega)).trans h.res, h.bel.trans (hb.mono (by omega)), Nat.le_trans h.size hb.size⟩
end Go.Proofs.Ytpfdmjphoeljiaa
