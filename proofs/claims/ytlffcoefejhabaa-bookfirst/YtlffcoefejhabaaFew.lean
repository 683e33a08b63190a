/- Orders to be placed: at most so many; one that a mirror shows. -/
import Derived.Test.YtlffcoefejhabaaLive
namespace Go.Proofs.Ytlffcoefejhabaa
open Go.RowKit
set_option linter.all false
structure PutV where
  acc : Int
  side : Int
  price : Int
  n : Int
  now : Bool
def putE (p : PutV) : List Value := [.int .i64 p.acc, .int .i64 p.side, .int .i64 p.price, .int .i64 p.n, .bool p.now]
theorem putK (p : PutV) : (putE p).length = 5 := rfl
abbrev Puts (w : World) (v : Value) (l : List PutV) : Prop := SGot 5 40 putE w v l
theorem SGot.puts {w : World} {v : Value} {l : List PutV} (h : Puts w v l) : ∃ a c, v = .slice a l.length c ∧ l.length * 40 ≤ 140737488355328 ∧ ∀ i (h : i < l.length), ∃ b off, a = some ⟨b, off, none⟩ ∧ b < w.heap.size ∧ w.cell? ⟨b, off + i * 5, none⟩ = some (.int .i64 (l[i]).acc) ∧ w.cell? ⟨b, off + i * 5 + 1, none⟩ = some (.int .i64 (l[i]).side) ∧ w.cell? ⟨b, off + i * 5 + 2, none⟩ = some (.int .i64 (l[i]).price) ∧ w.cell? ⟨b, off + i * 5 + 3, none⟩ = some (.int .i64 (l[i]).n) ∧ w.cell? ⟨b, off + i * 5 + 4, none⟩ = some (.bool (l[i]).now) := by
  obtain ⟨h8, a, c, rfl, _, hr⟩ := h
  refine ⟨a, c, rfl, h8, fun i hi => ?_⟩
  obtain ⟨b, off, rfl, hlt, hc⟩ := hr (by omega)
  have g := celC_get putK l i hi
  exact ⟨b, off, rfl, hlt, (hc (i * 5) (by omega)).trans (g 0 (by omega)), (hc (i * 5 + 1) (by omega)).trans (g 1 (by omega)), (hc (i * 5 + 2) (by omega)).trans (g 2 (by omega)), (hc (i * 5 + 3) (by omega)).trans (g 3 (by omega)), (hc (i * 5 + 4) (by omega)).trans (g 4 (by omega))⟩
theorem SGot.first60 {w : World} {a : Option Addr} {c : Nat} {l : List PutV} (h : Puts w (.slice a l.length c) l) (hl : 60 < l.length) : Puts w (.slice a 60 c) (l.take 60) := by
  have hc := h.cap
  obtain ⟨h8, a', c', e, hcc, hr⟩ := h
  simp only [Value.slice.injEq] at e
  obtain ⟨rfl, _, rfl⟩ := e
  have e60 : (l.take 60).length = 60 := by rw [List.length_take]; omega
  refine ⟨by rw [e60]; omega, a, c, by rw [e60], ⟨by omega, hcc.2⟩, fun _ => ?_⟩
  obtain ⟨b, off, e2, hlt, hcell⟩ := hr (by omega)
  refine ⟨b, off, e2, hlt, fun j hj => ?_⟩
  rw [e60] at hj
  rw [hcell j (by omega), ← celC_take putK l 60, List.getElem?_take, if_pos (by omega)]
set_option maxHeartbeats 4000000 in
theorem few_is (v : Value) (l : List PutV) (w : World) (h : Puts w v l) : Calls Try.prog 15 #[v, .int .i64 60] w fun e w' => (∃ v', e = .returned v' ∧ ∀ w0, Puts w0 v l → Puts w0 v' (l.take 60)) ∧ w' = w := by
  obtain ⟨a, c, rfl⟩ := h.slice
  have hc := h.cap
  have h8 : l.length * 40 ≤ 140737488355328 := h.1
  have hm : maxLen = 9223372036854775807 := by decide
  rw [hm] at hc
  by_cases hl : 60 < l.length
  · have H := hideIt (fun w0 (h0 : Puts w0 (.slice a l.length c) l) => h0.first60 hl)
    have hI : (60 : Int) < (l.length : Int) := by omega
    have h60 : (60 : Int) ≤ (c : Int) := by omega
    clear h
    go_enter Try.func15, Try.ntmps15
    go_wp2
    go_ret
    exact ⟨⟨_, rfl, H.out⟩, rfl⟩
  · have H := hideIt (fun w0 (h0 : Puts w0 (.slice a l.length c) l) => h0)
    have hI : ¬ (60 : Int) < (l.length : Int) := by omega
    have ht : l.take 60 = l := List.take_of_length_le (by omega)
    rw [ht]
    clear h
    go_enter Try.func15, Try.ntmps15
    go_wp2
    go_ret
    exact ⟨⟨_, rfl, H.out⟩, rfl⟩
set_option maxHeartbeats 4000000 in
theorem mirrored_is (p : PutV) (w : World) (hs : 1 ≤ p.side ∧ p.side ≤ 2) (hp : 1 ≤ p.price ∧ p.price ≤ 1000000) : Calls Try.prog 16 #[.agg (putE p).toArray] w fun e w' => e = .returned (.agg #[.int .i64 p.acc, .int .i64 (3 - p.side), .int .i64 (1000001 - p.price), .int .i64 p.n, .bool p.now]) ∧ Below w.heap.size w w' := by
  obtain ⟨acc, side, price, n, now⟩ := p
  unfold putE
  simp only at *
  have s1 := hs.1
  have s2 := hs.2
  have p1 := hp.1
  have p2 := hp.2
  clear hs hp
  go_enter Try.func16, Try.ntmps16
  go_wp2
  have H2 := two_heap w (.cells #[.int .i64 acc, .int .i64 (3 - side), .int .i64 (1000001 - price), .int .i64 n, .bool now] 27) (.cells #[.int .i64 acc, .int .i64 (3 - side), .int .i64 (1000001 - price), .int .i64 n, .bool now] 27)
  exact bodyPost_ret (v := .agg #[.int .i64 acc, .int .i64 (3 - side), .int .i64 (1000001 - price), .int .i64 n, .bool now]) (by simp [results, Try.results16, go_sem, cell_at H2.2.1]) rfl ⟨rfl, below2 w _ _⟩
end Go.Proofs.Ytlffcoefejhabaa
