/- The walk of rialtolaw01.PackWrites: it answers true, whatever the number, the text and the list. -/
import Derived.Test.YtfbdhihhimfaaaaSame
import Derived.Test.YtfbdhihhimfaaaaLive
namespace Go.Proofs.Ytfbdhihhimfaaaa
open Go.RowKit

theorem info9 : (Try.prog.info? 9).map (fun i => (i.zero, i.size, i.bytes)) = some (some (.string ⟨#[]⟩), 1, 16) := by kernel_rfl
theorem strs_of_own {w : World} {base : Nat} {v : Value} {ss : List ByteArray} (h : w.ownsRow base 9 1 v ss.length (ss.map Value.string))
    (hl : ss.length ≤ 9223372036854775807) (hs : ∀ s ∈ ss, s.size ≤ 9223372036854775807) : ∃ a cap, v = .slice a ss.length cap ∧ Strs w a ss := by
  rcases h.2 with ⟨rfl, h0⟩ | ⟨g, cap, cur, rfl, hb, hc, hn, hm, hsz, ht⟩
  · exact ⟨none, 0, by rw [h0], hl, hs, fun i hi => by omega⟩
  · refine ⟨some ⟨g, 0, none⟩, cap, rfl, hl, hs, fun i hi => ⟨g, 0, rfl, (Array.getElem?_eq_some_iff.1 hc).1, ?_⟩⟩
    have := h.cells (g := g) rfl i (.string ss[i]) (by simp [List.getElem?_eq_getElem hi])
    have e : (⟨g, 0, none⟩ : Addr).add i = ⟨g, 0 + i, none⟩ := by cases i <;> simp [Addr.add]
    rw [e] at this
    exact this
theorem run_append_strs (w : World) (ty : TypeId) (a : Option Addr) (cap : Nat) (ss : List ByteArray) (hS : Strs w a ss) (hbytes : ss.length * 16 ≤ 140737488355328) (hnil : a = none → ss = [] ∧ cap = 0) :
    ∃ a' cap' w', (Builtin.append_ #[23, 23] ty #[.slice none 0 0, .slice a ss.length cap]).run Try.prog w = .ok (.slice a' ss.length cap') w' ∧ Strs w' a' ss ∧ Below w.heap.size w w' := by
  obtain ⟨i, hi, hz0, hz1, hz2⟩ := info_parts info9
  cases a with
  | none =>
    obtain ⟨rfl, rfl⟩ := hnil rfl
    have hr := run_append_owned_none (P := Try.prog) (w := w) w.heap.size 23 ty 9 i 1 Try.underlying23 hi (.slice none 0 0) 0 [] (World.ownsRow_nil _ _ _ _)
    exact ⟨none, 0, w, hr, hS, Below.refl _ _⟩
  | some x =>
    have hcell : ∀ j u, (ss.map Value.string)[j]? = some u → w.cell? (x.add j) = some u := by
      intro j u hj
      have hj' : j < ss.length := by
        have := (List.getElem?_eq_some_iff.1 hj).1
        simpa using this
      obtain ⟨b, off, e, hb, hc⟩ := hS.2.2 j hj'
      cases e
      have e2 : (⟨b, off, none⟩ : Addr).add j = ⟨b, off + j, none⟩ := by cases j <;> simp [Addr.add]
      rw [e2, hc]
      simp [List.getElem?_eq_getElem hj'] at hj
      rw [hj]
    obtain ⟨v', w', hr, hown, hg, _⟩ := run_append_own (P := Try.prog) w w.heap.size 23 ty 9 i (.string ⟨#[]⟩) 1 16 Try.underlying23 hi hz0 hz1 hz2 rfl (by decide) (.slice none 0 0) 0 [] (World.ownsRow_nil _ _ _ _)
      x ss.length cap (ss.map Value.string) (by simp) hcell (by intro u hu; simp at hu; obtain ⟨s, _, rfl⟩ := hu; rfl) (by unfold maxLen; omega) (by omega) (Nat.le_refl _)
    simp only [Nat.zero_add, List.nil_append] at hown
    obtain ⟨a', cap', rfl, hS'⟩ := strs_of_own hown hS.1 hS.2.1
    exact ⟨a', cap', w', hr, hS', (Below.refl _ _).grown hg (Nat.le_refl _) (fun k hk => by simp [Value.ownBlock] at hk)⟩
theorem wpList_append_strs (w : World) {ops : Array Oper} {rest : List Oper} {o : Oper} {ac : Act} {Q : Exit → Act → World → Prop} (hgd : o.guard = none) (sl x : Operand)
    (ho : o.op = .call { callee := .builtin .append, args := #[sl, x], argTypes := #[23, 23] })
    (a : Option Addr) (cap : Nat) (ss : List ByteArray) (hs : ac.eval sl = .slice none 0 0) (hx : ac.eval x = .slice a ss.length cap) (hS : Strs w a ss)
    (hbytes : ss.length * 16 ≤ 140737488355328) (hnil : a = none → ss = [] ∧ cap = 0)
    (h : ∀ a' cap' w', Strs w' a' ss → Below w.heap.size w w' → wpList Try.prog ops Q rest (ac.put o.dst (.slice a' ss.length cap')) w') : wpList Try.prog ops Q (o :: rest) ac w := by
  refine wpList_plain hgd fun K hK => ?_
  obtain ⟨a', cap', w', hr, h2, h3⟩ := run_append_strs w o.type a cap ss hS hbytes hnil
  unfold Oper.wp execOp
  simp only [ho, resolve, invoke, builtin, Sem.run_bind, Sem.run_pure, Result.andThen_ok, List.map_toArray, List.map_cons, List.map_nil, hs, hx, hr]
  exact hK _ _ (h a' cap' w' h2 h3)
set_option maxHeartbeats 4000000 in
set_option maxRecDepth 100000 in
theorem writes_walk (n : Nat) (i : Int) (s : ByteArray) (a : Option Addr) (cap : Nat) (ss : List ByteArray) (w : World)
    (hn : n < 18446744073709551616) (hi0 : -9223372036854775808 ≤ i) (hi1 : i < 9223372036854775808) (hs : s.size ≤ maxLen)
    (hS : Strs w a ss) (hbytes : ss.length * 16 ≤ 140737488355328) (hnil : Hid (a = none → ss = [] ∧ cap = 0)) :
    Calls Try.prog 3 #[.int .u64 (n : Int), .int .i64 i, .string s, .slice a ss.length cap] w fun e w' => e = .returned (.bool true) ∧ Below w.heap.size w w' := by
  go_enter Try.func3, Try.ntmps3
  go_wp2_with fail
  refine (text_any s _ hs).mono ?_
  rintro e w1 ⟨rfl, hb1⟩
  go_wp2_with fail
  refine (refText_any s _ hs).mono ?_
  rintro e w2 ⟨rfl, hb2⟩
  have hb02 : Below w.heap.size w w2 := hb1.trans (hb2.mono hb1.size)
  have hS2 := hS.keep hb02
  clear hb1 hb2
  go_wp2_with (at_builtin; refine wpList_append_strs _ rfl _ _ rfl a cap ss rfl rfl hS2 hbytes hnil ?_)
  intro a' cap' w3 hS3 hb3
  have hb03 : Below w.heap.size w w3 := hb02.trans (hb3.mono hb02.size)
  have hSl3 := hS.keep hb03
  clear hb02 hS2 hb3
  go_wp2_with fail
  refine (list_any a' cap' ss _ hS3).mono ?_
  rintro e w4 ⟨rfl, hb4⟩
  have hS4 := hS3.keep hb4
  have hb04 : Below w.heap.size w w4 := hb03.trans (hb4.mono hb03.size)
  have hSl4 := hS.keep hb04
  clear hb03 hSl3 hb4 hS3
  go_wp2_with fail
  refine (refList_any a cap ss _ hSl4).mono ?_
  rintro e w5 ⟨rfl, hb5⟩
  have hS5 := hS4.keep hb5
  have hb05 : Below w.heap.size w w5 := hb04.trans (hb5.mono hb04.size)
  clear hb04 hSl4 hb5 hS4
  go_wp2_with fail
  refine (live_any _).mono ?_
  rintro e w6 ⟨rfl, hb6⟩
  have hS6 := hS5.keep hb6
  have hb06 : Below w.heap.size w w6 := hb05.trans (hb6.mono hb05.size)
  clear hb05 hb6 hS5
  go_wp2_with fail
  refine (uint_any n _ hn).mono ?_
  rintro e w7 ⟨rfl, hb7⟩
  have hS7 := hS6.keep hb7
  have hb07 : Below w.heap.size w w7 := hb06.trans (hb7.mono hb06.size)
  clear hb06 hb7 hS6
  go_wp2_with fail
  refine (refUint_any n _ hn).mono ?_
  rintro e w8 ⟨rfl, hb8⟩
  have hS8 := hS7.keep hb8
  have hb08 : Below w.heap.size w w8 := hb07.trans (hb8.mono hb07.size)
  clear hb07 hb8 hS7
  go_wp2_with fail
  refine (int_any i _ hi0 hi1).mono ?_
  rintro e w9 ⟨rfl, hb9⟩
  have hS9 := hS8.keep hb9
  have hb09 : Below w.heap.size w w9 := hb08.trans (hb9.mono hb08.size)
  clear hb08 hb9 hS8
  go_wp2_with fail
  refine (refInt_any i _ hi0 hi1).mono ?_
  rintro e w10 ⟨rfl, hb10⟩
  have hS10 := hS9.keep hb10
  have hb010 : Below w.heap.size w w10 := hb09.trans (hb10.mono hb09.size)
  have hSl := hS.keep hb010
  clear hb09 hb10 hS9
  go_wp2_with fail
  refine (same_any a' a cap' cap ss _ hS10 hSl).mono ?_
  rintro e w11 ⟨rfl, hb11⟩
  go_wp2
  go_ret
  exact ⟨rfl, hb010.trans (hb11.mono hb010.size)⟩
end Go.Proofs.Ytfbdhihhimfaaaa
