/- What net's small writers answer: a number, a flag, a piece, a mark, entries. -/
import Derived.Test.YtagfolckodpioaaSeUnf
import Derived.Test.YtagfolckodpioaaMayBe
namespace Go.Proofs.Ytagfolckodpioaa
open Go.RowKit

theorem cells_cat (l : List UInt8) (m : List UInt8) : Lib.byteCells l ++ Lib.strCells ⟨m.toArray⟩ = Lib.byteCells (l ++ m) := by
  rw [Lib.strCells_eq, Lib.byteCells_append]
theorem keepB {T e : TypeId} {B b : Nat} {p : Value} {bs : List Value} {w w' : World} (h : Lib.BuilderAt T e B b p bs w) (hb : Below w.heap.size w w') : Lib.BuilderAt T e B b p bs w' := by
  have hlt := h.lt
  obtain ⟨hB, v, hk, hown, hne⟩ := h
  exact ⟨hB, v, (hb.block b hlt).trans hk, hown.kept (row := none) ⟨hb.os, hb.tape, hb.output, hb.size, fun k hk _ => hb.block k hk⟩ (by cases v.ownBlock <;> simp), hne⟩
theorem keepI {T e : TypeId} {B b : Nat} {bs : List Value} {w w' : World} (h : Lib.IsBuilder T e B b bs w) (hb : Below w.heap.size w w') : Lib.IsBuilder T e B b bs w' := by
  rcases h with h | h
  · exact .inl (keepB h hb)
  · exact .inr (keepB h hb)
theorem sizeL (l : List UInt8) : (⟨l.toArray⟩ : ByteArray).size = l.length := by show l.toArray.size = _; simp
theorem num_any (n : Nat) (w : World) (h : n < 9223372036854775808) :
    Calls Try.prog 64 #[.int .i64 n] w fun e w' => e = .returned (.string ⟨(uintL n).toArray⟩) ∧ Below w.heap.size w w' := by
  go_enter Try.func64, Try.ntmps64
  go_wp2_with fail
  refine (uint_any n _ (by omega)).mono ?_
  rintro e w1 ⟨rfl, hb⟩
  dsimp only
  go_wp2
  go_ret
  exact ⟨rfl, hb⟩
def flagL (b : Bool) : List UInt8 := if b then uintL 1 else uintL 0
theorem flag_any (b : Bool) (w : World) : Calls Try.prog 66 #[.bool b] w fun e w' => e = .returned (.string ⟨(flagL b).toArray⟩) ∧ Below w.heap.size w w' := by
  have H1 := hideIt (fun W => num_any 1 W (by decide))
  have H0 := hideIt (fun W => num_any 0 W (by decide))
  cases b
  · go_enter Try.func66, Try.ntmps66
    go_wp2_with fail
    refine (H0.out _).mono ?_
    rintro e w1 ⟨rfl, hb⟩
    dsimp only
    go_wp2
    go_ret
    exact ⟨rfl, hb⟩
  · go_enter Try.func66, Try.ntmps66
    go_wp2_with fail
    refine (H1.out _).mono ?_
    rintro e w1 ⟨rfl, hb⟩
    dsimp only
    go_wp2
    go_ret
    exact ⟨rfl, hb⟩
theorem piece_any (s : ByteArray) (w : World) (hs : s.size ≤ 60000) : Calls Try.prog 68 #[.string s] w fun e w' => e = .returned (.string ⟨(textL s.data.toList).toArray⟩) ∧ Below w.heap.size w w' := by
  have H := hideIt (text_any s w (by unfold maxLen; omega))
  go_enter Try.func68, Try.ntmps68
  go_wp2_with fail
  refine H.out.mono ?_
  rintro e w1 ⟨rfl, hb⟩
  dsimp only
  go_wp2
  go_ret
  exact ⟨rfl, hb⟩
def spotL (i t : Nat) : List UInt8 := uintL i ++ uintL t
set_option maxHeartbeats 2000000 in
set_option maxRecDepth 100000 in
theorem spot_any (t v : Nat) (w : World) (ht : t < 9223372036854775808) (hv : v < 9223372036854775808) :
    Calls Try.prog 65 #[.agg #[.int .i64 (t : Int), .int .i64 (v : Int)]] w fun e w' => e = .returned (.string ⟨(spotL t v).toArray⟩) ∧ Below w.heap.size w w' := by
  unfold spotL
  have hcat : ¬ 9223372036854775807 < (uintL t).length + (uintL v).length := by have := uintL_len t; have := uintL_len v; omega
  have HC : ∀ (n : Nat), n < 9223372036854775808 → ∀ wx, Below (w.heap.size + 1) (w.alloc (Obj.cells #[.int .i64 (t : Int), .int .i64 (v : Int)] 23)) wx → Calls Try.prog 64 #[.int .i64 (n : Int)] wx fun e w' => e = .returned (.string ⟨(uintL n).toArray⟩) ∧ Below (w.heap.size + 1) (w.alloc (Obj.cells #[.int .i64 (t : Int), .int .i64 (v : Int)] 23)) w' ∧ w'.cell? ⟨w.heap.size, 0, none⟩ = some (.int .i64 (t : Int)) ∧ w'.cell? ⟨w.heap.size, 1, none⟩ = some (.int .i64 (v : Int)) := by
    intro n hn wx hx
    refine (num_any n wx hn).mono ?_
    rintro e w' ⟨rfl, hb⟩
    have hsz := hx.size
    have hb2 := hx.trans (hb.mono (by simpa using hsz))
    exact ⟨rfl, hb2, (hb2.cell (p := ⟨w.heap.size, 0, none⟩) (Nat.lt_succ_self _)).trans (by simp), (hb2.cell (p := ⟨w.heap.size, 1, none⟩) (Nat.lt_succ_self _)).trans (by simp)⟩
  have H1 := hideIt (HC t ht)
  have H2 := hideIt (HC v hv)
  have HF : Hid (∀ wx, Below (w.heap.size + 1) (w.alloc (Obj.cells #[.int .i64 (t : Int), .int .i64 (v : Int)] 23)) wx → Below w.heap.size w wx) := fun wx h => ((Below.refl _ w).alloc (Nat.le_refl _) _).trans (h.mono (Nat.le_succ _))
  clear HC
  go_enter Try.func65, Try.ntmps65
  go_upto_region 1 with fail
  go_cut [2] from 3 to 9 (fun x wx => x = .string ⟨(uintL t ++ uintL v).toArray⟩ ∧ Below w.heap.size w wx)
  case first =>
    go_region_held3 (fun w' => w'.cell? ⟨w.heap.size, 0, none⟩ = some (.int .i64 (t : Int)) ∧ w'.cell? ⟨w.heap.size, 1, none⟩ = some (.int .i64 (v : Int))) (go_keep) (first | (go_at_call 64; first | (refine (H1.out _ (by first | assumption | exact (Below.refl _ _).drew)).mono ?_; rintro e w5 ⟨rfl, hst, j1, j2⟩) | (refine (H2.out _ (by first | assumption | exact (Below.refl _ _).drew)).mono ?_; rintro e w5 ⟨rfl, hst, j1, j2⟩)))
    all_goals go_wp2_with fail
    all_goals go_meet
    all_goals exact ⟨by rw [cat_eq], HF.out _ hst⟩
  case rest =>
  obtain ⟨rfl, hb⟩ := hcut
  go_wp2
  go_ret
  exact ⟨rfl, hb⟩
def entL (e : EntV) : List UInt8 := uintL e.term.toNat ++ uintL e.kind.toNat ++ textL e.text.data.toList
def gathE (l : List EntV) (k : Nat) : List UInt8 := uintL l.length ++ ((l.take k).map entL).flatten
def entsL (l : List EntV) : List UInt8 := gathE l l.length
theorem textL_len (l : List UInt8) : (textL l).length ≤ 60010 := by
  unfold textL
  split
  · have := uintL_len l.length; simp; omega
  · simp
theorem entL_len (e : EntV) : (entL e).length ≤ 60030 := by
  have h1 := uintL_len e.term.toNat
  have h2 := uintL_len e.kind.toNat
  have h3 := textL_len e.text.data.toList
  simp only [entL, List.length_append]
  omega
theorem flatE_len (ls : List EntV) : ((ls.map entL).flatten).length ≤ 60030 * ls.length := by
  induction ls with
  | nil => simp
  | cons l ls ih => have := entL_len l; simp at *; omega
theorem gathE_len (l : List EntV) (k : Nat) (h : l.length ≤ 16) : (gathE l k).length ≤ 1000000 := by
  have h1 := uintL_len l.length
  have h2 := flatE_len (l.take k)
  have h3 : (l.take k).length ≤ 16 := by simp; omega
  have h4 : 60030 * (l.take k).length ≤ 60030 * 16 := Nat.mul_le_mul_left _ h3
  simp only [gathE, List.length_append]
  omega
theorem gathE_step (l : List EntV) (k : Nat) (h : k < l.length) : gathE l (k + 1) = gathE l k ++ entL l[k] := by
  unfold gathE
  rw [List.take_succ_eq_append_getElem h, List.map_append, List.flatten_append, List.append_assoc]
  simp only [List.map_cons, List.map_nil, List.flatten_cons, List.flatten_nil, List.append_nil]
theorem gathE_ne (l : List EntV) (k : Nat) : gathE l k ≠ [] := by
  have := uintL_len l.length
  intro h
  have h2 : (gathE l k).length = 0 := by rw [h]; rfl
  unfold gathE at h2
  rw [List.length_append] at h2
  omega
def EntOk (e : EntV) : Prop := 0 ≤ e.term ∧ e.term < 9223372036854775808 ∧ 0 ≤ e.kind ∧ e.kind < 9223372036854775808 ∧ e.text.size ≤ 60000
end Go.Proofs.Ytagfolckodpioaa
