/- Texts of my own, laid together. -/
import Derived.Test.YtcaehfkfohianaaGreatZq
import Derived.Test.YtcaehfkfohianaaGreatPz17
import Derived.Test.YtcaehfkfohianaaGreatPz19
import Derived.Test.YtcaehfkfohianaaGreatPz20
import Derived.Test.YtcaehfkfohianaaGreatPz15
set_option linter.all false
namespace Go.Proofs.YtcaehfkfohianaaGreat
open Go.RowKit
theorem sent3 {m : MsgW} (h : sentB m = true) (hk : m.kind = 3) : 0 ≤ m.pi ∧ m.pi ≤ 1000000 := by
 unfold sentB Nt.mayB at h;simp only [Bool.and_eq_true, msgN] at h;have h5 := h.2;unfold Nt.bodyB at h5;simp only at h5;rw [if_neg (by omega), if_neg (by omega), if_pos hk] at h5;simp only [Bool.and_eq_true, Nt.mkB, Nt.wiB, decide_eq_true_eq] at h5;exact h5.1.1.2.1.1
theorem enter_of {f : FuncId} {fn : Func} (hf : Tryz.prog.funcs[f]? = some fn) (hname : (fn.name == "runtime.NumGoroutine") = false) (hb : fn.body.isNone = false) (args : Array Value) (w : World) : (callFunc f args).run Tryz.prog w = .ok (.enter f args) w := by
 have h1 : fn.name ≠ "runtime.NumGoroutine" := by simpa using hname
 cases h : fn.body with
 | none => rw [h] at hb; cases hb
 | some c => simp [callFunc, hf, h1, h]
theorem hear_rs (W : WkV) (t : Int) : (hearW W t).rs = W.rs := by
 unfold hearW
 split
 ·rfl
 ·rfl
set_option maxRecDepth 100000 in
set_option maxHeartbeats 16000000 in
theorem messK_is {X : WkX} {K : Nat} {w wx : World} {d0 : NodeV} (h : WK w K X wx) (e : EvV) (y : MsgX) (he : e.m = y.m) (hm : EGot w (.slice y.a y.m.es.length y.c) y.m.es) (hfw : FW d0 X.d) (hl : Led X.d) (hM : X.M.length + 10 ≤ 1000000) (hR : X.R.length + 10 ≤ 1000000) : Calls Tryz.prog 55 #[.pointer (some ⟨K, 0, none⟩), .agg (evC e y.a y.c).toArray] wx fun r w' => ∃ Y' : WkX, r = .returned (.int .i64 (messW X.v y.m).2) ∧ Y'.v = (messW X.v y.m).1 ∧ WK w K Y' w' := by
 have HX0 := hideIt (h.keep (below1 wx (.cells (evC e y.a y.c).toArray 52)));have HP := hideIt (heap_alloc_new wx (.cells (evC e y.a y.c).toArray 52));have HV : Hid (messW X.v y.m = if sentB y.m = false ∨ y.m.dst ≠ X.d.me ∨ X.d.n < y.m.frm then (X.v, 1) else if y.m.kind = 1 then (pollED (hearW X.v y.m.term) y.m, 0) else if y.m.kind = 2 then granED (hearW X.v y.m.term) y.m else if y.m.kind = 4 then (appdW (hearW X.v y.m.term) y.m, 0) else (ledW (hearW X.v y.m.term) y.m, 0)) := hideIt rfl;have hKP : K ≠ wx.heap.size := by
  have := (Array.getElem?_eq_some_iff.1 h.box).1;omega
 clear h;unfold evC msgE at *;simp only [he] at *;clear he
 go_enter Tryz.func55, Tryz.ntmps55
 go_upto_region 1 with fail
 generalize (World.alloc wx _) = W0 at *;generalize wx.heap.size = P at *;obtain ⟨⟨q0, q1, q2, q3, q4, q5, q6, q7, q8, q9, q10, q11, q12, q13, q14, q15⟩, qf, qz⟩ := at16 HP.out;have HX1 := hideIt (HX0.out.keep (below1 W0 (.cells #[.int .i64 y.m.kind, .int .i64 y.m.frm, .int .i64 y.m.dst, .int .i64 y.m.term, .int .i64 y.m.pi, .int .i64 y.m.pt, .slice y.a y.m.es.length y.c, .int .i64 y.m.cm, .bool y.m.ok, .int .i64 y.m.mtch, .int .i64 y.m.si, .int .i64 y.m.st, .string y.m.tx] 50)));have HQ := hideIt (heap_alloc_new W0 (.cells #[.int .i64 y.m.kind, .int .i64 y.m.frm, .int .i64 y.m.dst, .int .i64 y.m.term, .int .i64 y.m.pi, .int .i64 y.m.pt, .slice y.a y.m.es.length y.c, .int .i64 y.m.cm, .bool y.m.ok, .int .i64 y.m.mtch, .int .i64 y.m.si, .int .i64 y.m.st, .string y.m.tx] 50));have hKQ : K ≠ W0.heap.size := by
  have := (Array.getElem?_eq_some_iff.1 HX0.out.box).1;omega
 go_upto_region 2 with fail
 generalize (World.alloc W0 _) = W1 at *;generalize W0.heap.size = Q at *;clear q0 q1 q2 q3 q4 q5 q6 q7 q8 q9 q10 q11 q12 q13 q14 q15 qf qz HX0 HP;have hQK : Q ≠ K := fun e1 => hKQ e1.symm
 have HSE : Hid (∀ W, Below W1.heap.size W1 W → Calls Tryz.prog 96 #[.agg #[.int .i64 y.m.kind, .int .i64 y.m.frm, .int .i64 y.m.dst, .int .i64 y.m.term, .int .i64 y.m.pi, .int .i64 y.m.pt, .slice y.a y.m.es.length y.c, .int .i64 y.m.cm, .bool y.m.ok, .int .i64 y.m.mtch, .int .i64 y.m.si, .int .i64 y.m.st, .string y.m.tx]] W fun r w' => r = .returned (.bool (sentB y.m)) ∧ Hid (Below W1.heap.size W1 w') ∧ (w'.cell? ⟨Q, 1, none⟩ = some (.int .i64 y.m.frm) ∧ w'.cell? ⟨Q, 2, none⟩ = some (.int .i64 y.m.dst) ∧ w'.cell? ⟨K, 0, none⟩ = some (.int .i64 X.d.me) ∧ w'.cell? ⟨K, 1, none⟩ = some (.int .i64 X.d.n))) := by
  intro W hW;refine (sentW_is y W (hm.keep (HX1.out.keep hW).bel)).mono ?_;rintro r w' ⟨rfl, hbl⟩;have hb2 := below_via hW hbl;obtain ⟨⟨k0, k1, k2, k3, k4, k5, k6, k7, k8, k9, k10, k11, k12, k13, k14, k15, k16, k17⟩, kf, kz⟩ := at18 (HX1.out.keep hb2).box;obtain ⟨⟨m0, m1, m2, m3, m4, m5, m6, m7, m8, m9, m10, m11, m12⟩, mf, mz⟩ := at13 (blkK HQ.out hb2)
  exact ⟨rfl, hideIt hb2, m1, m2, k0, k1⟩
 obtain ⟨⟨k0, k1, k2, k3, k4, k5, k6, k7, k8, k9, k10, k11, k12, k13, k14, k15, k16, k17⟩, kf, kz⟩ := at18 HX1.out.box;clear k2 k3 k4 k5 k6 k7 k8 k9 k10 k11 k12 k13 k14 k15 k16 k17;obtain ⟨⟨m0, m1, m2, m3, m4, m5, m6, m7, m8, m9, m10, m11, m12⟩, mf, mz⟩ := at13 HQ.out;cases hs : sentB y.m
 ·rw [hs] at HSE;rw [if_pos (.inl hs)] at HV;clear hs
  go_cut [30] from 8 to 30 (fun x wy => x = .bool true ∧ Hid (Below W1.heap.size W1 wy))
  case first =>
   clear HV;refine wp_region_held_drew (S := fun W => W.cell? ⟨Q, 1, none⟩ = some (.int .i64 y.m.frm) ∧ W.cell? ⟨Q, 2, none⟩ = some (.int .i64 y.m.dst) ∧ W.cell? ⟨K, 0, none⟩ = some (.int .i64 X.d.me) ∧ W.cell? ⟨K, 1, none⟩ = some (.int .i64 X.d.n)) (by rfl) ⟨m1, m2, k0, k1⟩ (fun hHeld => ?_);refine wpAnyH_ready (rs := [0]) (by kernel_rfl) (by simp) ?_;refine AllReadyH.cons (o := ⟨some 8, _, _, _, _, _⟩) rfl (fun Kx hK => ?_) AllReadyH.nil;go_simp;refine hK.out _ _ hHeld (fun hHeld => ?_);clear hK Kx
   try simp only [aP, aQ, aA, aB, aC]
   refine wpAnyH_ready (rs := [1]) (by kernel_rfl) (by simp) ?_;refine AllReadyH.cons (o := ⟨some 9, _, _, _, _, _⟩) rfl (fun Kx hK => ?_) AllReadyH.nil;go_simp
   go_at_call 96
   refine (HSE.out _ (by first | exact (Below.refl _ _).drew | exact Below.refl _ _)).mono ?_;rintro r5 w5 ⟨rfl, HB5, hS5⟩;refine hK.out _ _ hS5 (fun hHeld => ?_);clear hK Kx
   try simp only [aP, aQ, aA, aB, aC]
   refine wpAnyH_take (i := 2) (oi := ⟨some 10, _, _, _, _, _⟩) (v := ?_) rfl (by kernel_rfl) (by kernel_rfl) (by kernel_rfl) (fun _ _ _ h => h) (Or.inl ⟨by rfl, ?_⟩) (by assumption) ?_
   rotate_left
   ·intro w5 hSw
    (try dsimp only at hSw)
    go_simp
    (try with_reducible rfl)
   try simp only [aP, aQ, aA, aB, aC]
   refine wpAnyH_take (i := 3) (oi := ⟨some 11, _, _, _, _, _⟩) (v := ?_) rfl (by kernel_rfl) (by kernel_rfl) (by kernel_rfl) (fun _ _ _ h => h) (Or.inl ⟨by rfl, ?_⟩) (by assumption) ?_
   rotate_left
   ·intro w5 hSw
    (try dsimp only at hSw)
    go_simp
    (try with_reducible rfl)
   try simp only [aP, aQ, aA, aB, aC]
   refine wpAnyH_take (i := 4) (oi := ⟨some 12, _, _, _, _, _⟩) (v := undef) rfl (by kernel_rfl) (by kernel_rfl) (by kernel_rfl) (fun _ _ _ h => h) (Or.inr ⟨by rfl, rfl⟩) (by assumption) ?_
   try simp only [aP, aQ, aA, aB, aC]
   refine wpAnyH_take (i := 5) (oi := ⟨some 13, _, _, _, _, _⟩) (v := undef) rfl (by kernel_rfl) (by kernel_rfl) (by kernel_rfl) (fun _ _ _ h => h) (Or.inr ⟨by rfl, rfl⟩) (by assumption) ?_
   try simp only [aP, aQ, aA, aB, aC]
   refine wpAnyH_take (i := 6) (oi := ⟨some 14, _, _, _, _, _⟩) (v := undef) rfl (by kernel_rfl) (by kernel_rfl) (by kernel_rfl) (fun _ _ _ h => h) (Or.inr ⟨by rfl, rfl⟩) (by assumption) ?_
   try simp only [aP, aQ, aA, aB, aC]
   refine wpAnyH_take (i := 7) (oi := ⟨some 15, _, _, _, _, _⟩) (v := undef) rfl (by kernel_rfl) (by kernel_rfl) (by kernel_rfl) (fun _ _ _ h => h) (Or.inr ⟨by rfl, rfl⟩) (by assumption) ?_
   try simp only [aP, aQ, aA, aB, aC]
   refine wpAnyH_take (i := 8) (oi := ⟨some 16, _, _, _, _, _⟩) (v := undef) rfl (by kernel_rfl) (by kernel_rfl) (by kernel_rfl) (fun _ _ _ h => h) (Or.inr ⟨by rfl, rfl⟩) (by assumption) ?_
   try simp only [aP, aQ, aA, aB, aC]
   refine wpAnyH_take (i := 9) (oi := ⟨some 17, _, _, _, _, _⟩) (v := undef) rfl (by kernel_rfl) (by kernel_rfl) (by kernel_rfl) (fun _ _ _ h => h) (Or.inr ⟨by rfl, rfl⟩) (by assumption) ?_
   try simp only [aP, aQ, aA, aB, aC]
   refine wpAnyH_take (i := 10) (oi := ⟨some 18, _, _, _, _, _⟩) (v := undef) rfl (by kernel_rfl) (by kernel_rfl) (by kernel_rfl) (fun _ _ _ h => h) (Or.inr ⟨by rfl, rfl⟩) (by assumption) ?_
   try simp only [aP, aQ, aA, aB, aC]
   refine wpAnyH_take (i := 11) (oi := ⟨some 19, _, _, _, _, _⟩) (v := undef) rfl (by kernel_rfl) (by kernel_rfl) (by kernel_rfl) (fun _ _ _ h => h) (Or.inr ⟨by rfl, rfl⟩) (by assumption) ?_
   try simp only [aP, aQ, aA, aB, aC]
   refine wpAnyH_take (i := 12) (oi := ⟨some 20, _, _, _, _, _⟩) (v := ?_) rfl (by kernel_rfl) (by kernel_rfl) (by kernel_rfl) (fun _ _ _ h => h) (Or.inl ⟨by rfl, ?_⟩) (by assumption) ?_
   rotate_left
   ·intro w5 hSw
    (try dsimp only at hSw)
    go_simp
    (try with_reducible rfl)
   try simp only [aP, aQ, aA, aB, aC]
   refine wpAnyH_take (i := 13) (oi := ⟨some 21, _, _, _, _, _⟩) (v := ?_) rfl (by kernel_rfl) (by kernel_rfl) (by kernel_rfl) (fun _ _ _ h => h) (Or.inl ⟨by rfl, ?_⟩) (by assumption) ?_
   rotate_left
   ·intro w5 hSw
    (try dsimp only at hSw)
    go_simp
    (try with_reducible rfl)
   try simp only [aP, aQ, aA, aB, aC]
   refine wpAnyH_take (i := 14) (oi := ⟨some 22, _, _, _, _, _⟩) (v := undef) rfl (by kernel_rfl) (by kernel_rfl) (by kernel_rfl) (fun _ _ _ h => h) (Or.inr ⟨by rfl, rfl⟩) (by assumption) ?_
   try simp only [aP, aQ, aA, aB, aC]
   refine wpAnyH_take (i := 15) (oi := ⟨some 23, _, _, _, _, _⟩) (v := undef) rfl (by kernel_rfl) (by kernel_rfl) (by kernel_rfl) (fun _ _ _ h => h) (Or.inr ⟨by rfl, rfl⟩) (by assumption) ?_
   try simp only [aP, aQ, aA, aB, aC]
   refine wpAnyH_take (i := 16) (oi := ⟨some 24, _, _, _, _, _⟩) (v := undef) rfl (by kernel_rfl) (by kernel_rfl) (by kernel_rfl) (fun _ _ _ h => h) (Or.inr ⟨by rfl, rfl⟩) (by assumption) ?_
   try simp only [aP, aQ, aA, aB, aC]
   refine wpAnyH_take (i := 17) (oi := ⟨some 25, _, _, _, _, _⟩) (v := undef) rfl (by kernel_rfl) (by kernel_rfl) (by kernel_rfl) (fun _ _ _ h => h) (Or.inr ⟨by rfl, rfl⟩) (by assumption) ?_
   try simp only [aP, aQ, aA, aB, aC]
   refine wpAnyH_take (i := 18) (oi := ⟨some 26, _, _, _, _, _⟩) (v := undef) rfl (by kernel_rfl) (by kernel_rfl) (by kernel_rfl) (fun _ _ _ h => h) (Or.inr ⟨by rfl, rfl⟩) (by assumption) ?_
   try simp only [aP, aQ, aA, aB, aC]
   refine wpAnyH_take (i := 19) (oi := ⟨some 27, _, _, _, _, _⟩) (v := undef) rfl (by kernel_rfl) (by kernel_rfl) (by kernel_rfl) (fun _ _ _ h => h) (Or.inr ⟨by rfl, rfl⟩) (by assumption) ?_
   try simp only [aP, aQ, aA, aB, aC]
   refine wpAnyH_take (i := 20) (oi := ⟨some 28, _, _, _, _, _⟩) (v := undef) rfl (by kernel_rfl) (by kernel_rfl) (by kernel_rfl) (fun _ _ _ h => h) (Or.inr ⟨by rfl, rfl⟩) (by assumption) ?_
   try simp only [aP, aQ, aA, aB, aC]
   refine wpAnyH_take (i := 21) (oi := ⟨some 29, _, _, _, _, _⟩) (v := undef) rfl (by kernel_rfl) (by kernel_rfl) (by kernel_rfl) (fun _ _ _ h => h) (Or.inr ⟨by rfl, rfl⟩) (by assumption) ?_
   try simp only [aP, aQ, aA, aB, aC]
   refine wpAnyH_take (i := 22) (oi := ⟨some 30, _, _, _, _, _⟩) (v := ?_) rfl (by kernel_rfl) (by kernel_rfl) (by kernel_rfl) (fun _ _ _ h => h) (Or.inl ⟨by rfl, ?_⟩) (by assumption) ?_
   rotate_left
   ·intro w5 hSw
    (try dsimp only at hSw)
    go_simp
    (try with_reducible rfl)
   try simp only [aP, aQ, aA, aB, aC]
   refine wpAnyH_done (by kernel_rfl) ?_ _;clear hHeld
   go_wp2_with fail
   go_meet
   exact ⟨rfl, HB5⟩
  case rest =>
   obtain ⟨rfl, HB⟩ := hcut;have HX2 := hideIt (HX1.out.keep HB.out);have HQ2 := hideIt (blkK HQ.out HB.out);clear HSE HX1 HQ HB m0 m1 m2 m3 m4 m5 m6 m7 m8 m9 m10 m11 m12 mf mz k0 k1 kf kz;go_wp2;go_ret;have hh : X.v = (messW X.v y.m).1 := by rw [HV.out]
   have h2 : (messW X.v y.m).2 = 1 := by rw [HV.out]
   first
    | exact ⟨X, by rw [h2]; rfl, hh, HX2.out⟩
    | exact ⟨by rw [h2]; rfl, X, hh, HX2.out⟩
 ·rw [hs] at HSE
  by_cases hd : y.m.dst = X.d.me
  ·have HDD := hideIt hd;have hdd : (y.m.dst != X.d.me) = false := by simp [hd]
   clear hd
   by_cases hn : X.d.n < y.m.frm
   ·rw [if_pos (.inr (.inr hn))] at HV;have hnn : decide (X.d.n < y.m.frm) = true := decide_eq_true hn
    go_cut [30] from 8 to 30 (fun x wy => x = .bool true ∧ Hid (Below W1.heap.size W1 wy))
    case first =>
     clear HV;refine wp_region_held_drew (S := fun W => W.cell? ⟨Q, 1, none⟩ = some (.int .i64 y.m.frm) ∧ W.cell? ⟨Q, 2, none⟩ = some (.int .i64 y.m.dst) ∧ W.cell? ⟨K, 0, none⟩ = some (.int .i64 X.d.me) ∧ W.cell? ⟨K, 1, none⟩ = some (.int .i64 X.d.n)) (by rfl) ⟨m1, m2, k0, k1⟩ (fun hHeld => ?_);refine wpAnyH_ready (rs := [0]) (by kernel_rfl) (by simp) ?_;refine AllReadyH.cons (o := ⟨some 8, _, _, _, _, _⟩) rfl (fun Kx hK => ?_) AllReadyH.nil;go_simp;refine hK.out _ _ hHeld (fun hHeld => ?_);clear hK Kx
     try simp only [aP, aQ, aA, aB, aC]
     refine wpAnyH_ready (rs := [1]) (by kernel_rfl) (by simp) ?_;refine AllReadyH.cons (o := ⟨some 9, _, _, _, _, _⟩) rfl (fun Kx hK => ?_) AllReadyH.nil;go_simp
     go_at_call 96
     refine (HSE.out _ (by first | exact (Below.refl _ _).drew | exact Below.refl _ _)).mono ?_;rintro r5 w5 ⟨rfl, HB5, hS5⟩;refine hK.out _ _ hS5 (fun hHeld => ?_);clear hK Kx
     try simp only [aP, aQ, aA, aB, aC]
     refine wpAnyH_take (i := 2) (oi := ⟨some 10, _, _, _, _, _⟩) (v := ?_) rfl (by kernel_rfl) (by kernel_rfl) (by kernel_rfl) (fun _ _ _ h => h) (Or.inl ⟨by rfl, ?_⟩) (by assumption) ?_
     rotate_left
     ·intro w5 hSw
      (try dsimp only at hSw)
      go_simp
      (try with_reducible rfl)
     try simp only [aP, aQ, aA, aB, aC]
     refine wpAnyH_take (i := 3) (oi := ⟨some 11, _, _, _, _, _⟩) (v := ?_) rfl (by kernel_rfl) (by kernel_rfl) (by kernel_rfl) (fun _ _ _ h => h) (Or.inl ⟨by rfl, ?_⟩) (by assumption) ?_
     rotate_left
     ·intro w5 hSw
      (try dsimp only at hSw)
      go_simp
      (try with_reducible rfl)
     try simp only [aP, aQ, aA, aB, aC]
     refine wpAnyH_take (i := 4) (oi := ⟨some 12, _, _, _, _, _⟩) (v := ?_) rfl (by kernel_rfl) (by kernel_rfl) (by kernel_rfl) (fun _ _ _ h => h) (Or.inl ⟨by rfl, ?_⟩) (by assumption) ?_
     rotate_left
     ·intro w5 hSw
      (try dsimp only at hSw)
      go_simp
      (try with_reducible rfl)
     try simp only [aP, aQ, aA, aB, aC]
     refine wpAnyH_take (i := 5) (oi := ⟨some 13, _, _, _, _, _⟩) (v := ?_) rfl (by kernel_rfl) (by kernel_rfl) (by kernel_rfl) (fun _ _ _ h => h) (Or.inl ⟨by rfl, ?_⟩) (by assumption) ?_
     rotate_left
     ·intro w5 hSw
      (try dsimp only at hSw)
      go_simp
      (try with_reducible rfl)
     try simp only [aP, aQ, aA, aB, aC]
     refine wpAnyH_take (i := 6) (oi := ⟨some 14, _, _, _, _, _⟩) (v := ?_) rfl (by kernel_rfl) (by kernel_rfl) (by kernel_rfl) (fun _ _ _ h => h) (Or.inl ⟨by rfl, ?_⟩) (by assumption) ?_
     rotate_left
     ·intro w5 hSw
      (try dsimp only at hSw)
      go_simp
      (try with_reducible rfl)
     try simp only [aP, aQ, aA, aB, aC]
     refine wpAnyH_take (i := 7) (oi := ⟨some 15, _, _, _, _, _⟩) (v := ?_) rfl (by kernel_rfl) (by kernel_rfl) (by kernel_rfl) (fun _ _ _ h => h) (Or.inl ⟨by rfl, ?_⟩) (by assumption) ?_
     rotate_left
     ·intro w5 hSw
      (try dsimp only at hSw)
      go_simp
      (try with_reducible rfl)
     try simp only [aP, aQ, aA, aB, aC]
     refine wpAnyH_take (i := 8) (oi := ⟨some 16, _, _, _, _, _⟩) (v := ?_) rfl (by kernel_rfl) (by kernel_rfl) (by kernel_rfl) (fun _ _ _ h => h) (Or.inl ⟨by rfl, ?_⟩) (by assumption) ?_
     rotate_left
     ·intro w5 hSw
      (try dsimp only at hSw)
      go_simp
      (try with_reducible rfl)
     try simp only [aP, aQ, aA, aB, aC]
     refine wpAnyH_take (i := 9) (oi := ⟨some 17, _, _, _, _, _⟩) (v := ?_) rfl (by kernel_rfl) (by kernel_rfl) (by kernel_rfl) (fun _ _ _ h => h) (Or.inl ⟨by rfl, ?_⟩) (by assumption) ?_
     rotate_left
     ·intro w5 hSw
      (try dsimp only at hSw)
      go_simp
      (try with_reducible rfl)
     try simp only [aP, aQ, aA, aB, aC]
     refine wpAnyH_take (i := 10) (oi := ⟨some 18, _, _, _, _, _⟩) (v := ?_) rfl (by kernel_rfl) (by kernel_rfl) (by kernel_rfl) (fun _ _ _ h => h) (Or.inl ⟨by rfl, ?_⟩) (by assumption) ?_
     rotate_left
     ·intro w5 hSw
      (try dsimp only at hSw)
      go_simp
      (try with_reducible rfl)
     try simp only [aP, aQ, aA, aB, aC]
     refine wpAnyH_take (i := 11) (oi := ⟨some 19, _, _, _, _, _⟩) (v := ?_) rfl (by kernel_rfl) (by kernel_rfl) (by kernel_rfl) (fun _ _ _ h => h) (Or.inl ⟨by rfl, ?_⟩) (by assumption) ?_
     rotate_left
     ·intro w5 hSw
      (try dsimp only at hSw)
      go_simp
      (try with_reducible rfl)
     try simp only [aP, aQ, aA, aB, aC]
     refine wpAnyH_take (i := 12) (oi := ⟨some 20, _, _, _, _, _⟩) (v := ?_) rfl (by kernel_rfl) (by kernel_rfl) (by kernel_rfl) (fun _ _ _ h => h) (Or.inl ⟨by rfl, ?_⟩) (by assumption) ?_
     rotate_left
     ·intro w5 hSw
      (try dsimp only at hSw)
      go_simp
      (try with_reducible rfl)
     try simp only [aP, aQ, aA, aB, aC]
     refine wpAnyH_take (i := 13) (oi := ⟨some 21, _, _, _, _, _⟩) (v := ?_) rfl (by kernel_rfl) (by kernel_rfl) (by kernel_rfl) (fun _ _ _ h => h) (Or.inl ⟨by rfl, ?_⟩) (by assumption) ?_
     rotate_left
     ·intro w5 hSw
      (try dsimp only at hSw)
      go_simp
      (try with_reducible rfl)
     try simp only [aP, aQ, aA, aB, aC]
     refine wpAnyH_take (i := 14) (oi := ⟨some 22, _, _, _, _, _⟩) (v := ?_) rfl (by kernel_rfl) (by kernel_rfl) (by kernel_rfl) (fun _ _ _ h => h) (Or.inl ⟨by rfl, ?_⟩) (by assumption) ?_
     rotate_left
     ·intro w5 hSw
      (try dsimp only at hSw)
      go_simp
      (try with_reducible rfl)
     try simp only [aP, aQ, aA, aB, aC]
     refine wpAnyH_take (i := 15) (oi := ⟨some 23, _, _, _, _, _⟩) (v := ?_) rfl (by kernel_rfl) (by kernel_rfl) (by kernel_rfl) (fun _ _ _ h => h) (Or.inl ⟨by rfl, ?_⟩) (by assumption) ?_
     rotate_left
     ·intro w5 hSw
      (try dsimp only at hSw)
      go_simp
      (try with_reducible rfl)
     try simp only [aP, aQ, aA, aB, aC]
     refine wpAnyH_take (i := 16) (oi := ⟨some 24, _, _, _, _, _⟩) (v := ?_) rfl (by kernel_rfl) (by kernel_rfl) (by kernel_rfl) (fun _ _ _ h => h) (Or.inl ⟨by rfl, ?_⟩) (by assumption) ?_
     rotate_left
     ·intro w5 hSw
      (try dsimp only at hSw)
      go_simp
      (try with_reducible rfl)
     try simp only [aP, aQ, aA, aB, aC]
     refine wpAnyH_take (i := 17) (oi := ⟨some 25, _, _, _, _, _⟩) (v := ?_) rfl (by kernel_rfl) (by kernel_rfl) (by kernel_rfl) (fun _ _ _ h => h) (Or.inl ⟨by rfl, ?_⟩) (by assumption) ?_
     rotate_left
     ·intro w5 hSw
      (try dsimp only at hSw)
      go_simp
      (try with_reducible rfl)
     try simp only [aP, aQ, aA, aB, aC]
     refine wpAnyH_take (i := 18) (oi := ⟨some 26, _, _, _, _, _⟩) (v := ?_) rfl (by kernel_rfl) (by kernel_rfl) (by kernel_rfl) (fun _ _ _ h => h) (Or.inl ⟨by rfl, ?_⟩) (by assumption) ?_
     rotate_left
     ·intro w5 hSw
      (try dsimp only at hSw)
      go_simp
      (try with_reducible rfl)
     try simp only [aP, aQ, aA, aB, aC]
     refine wpAnyH_take (i := 19) (oi := ⟨some 27, _, _, _, _, _⟩) (v := ?_) rfl (by kernel_rfl) (by kernel_rfl) (by kernel_rfl) (fun _ _ _ h => h) (Or.inl ⟨by rfl, ?_⟩) (by assumption) ?_
     rotate_left
     ·intro w5 hSw
      (try dsimp only at hSw)
      go_simp
      (try with_reducible rfl)
     try simp only [aP, aQ, aA, aB, aC]
     refine wpAnyH_take (i := 20) (oi := ⟨some 28, _, _, _, _, _⟩) (v := ?_) rfl (by kernel_rfl) (by kernel_rfl) (by kernel_rfl) (fun _ _ _ h => h) (Or.inl ⟨by rfl, ?_⟩) (by assumption) ?_
     rotate_left
     ·intro w5 hSw
      (try dsimp only at hSw)
      go_simp
      (try with_reducible rfl)
     try simp only [aP, aQ, aA, aB, aC]
     refine wpAnyH_take (i := 21) (oi := ⟨some 29, _, _, _, _, _⟩) (v := ?_) rfl (by kernel_rfl) (by kernel_rfl) (by kernel_rfl) (fun _ _ _ h => h) (Or.inl ⟨by rfl, ?_⟩) (by assumption) ?_
     rotate_left
     ·intro w5 hSw
      (try dsimp only at hSw)
      go_simp
      (try with_reducible rfl)
     try simp only [aP, aQ, aA, aB, aC]
     refine wpAnyH_take (i := 22) (oi := ⟨some 30, _, _, _, _, _⟩) (v := ?_) rfl (by kernel_rfl) (by kernel_rfl) (by kernel_rfl) (fun _ _ _ h => h) (Or.inl ⟨by rfl, ?_⟩) (by assumption) ?_
     rotate_left
     ·intro w5 hSw
      (try dsimp only at hSw)
      go_simp
      (try with_reducible rfl)
     try simp only [aP, aQ, aA, aB, aC]
     refine wpAnyH_done (by kernel_rfl) ?_ _;clear hHeld
     go_wp2_with fail
     go_meet
     exact ⟨rfl, HB5⟩
    case rest =>
     obtain ⟨rfl, HB⟩ := hcut;have HX2 := hideIt (HX1.out.keep HB.out);have HQ2 := hideIt (blkK HQ.out HB.out);clear HSE HX1 HQ HB m0 m1 m2 m3 m4 m5 m6 m7 m8 m9 m10 m11 m12 mf mz k0 k1 kf kz;go_wp2;go_ret;have hh : X.v = (messW X.v y.m).1 := by rw [HV.out]
     have h2 : (messW X.v y.m).2 = 1 := by rw [HV.out]
     first
      | exact ⟨X, by rw [h2]; rfl, hh, HX2.out⟩
      | exact ⟨by rw [h2]; rfl, X, hh, HX2.out⟩
   ·rw [if_neg (fun hh => by rcases hh with hh | hh | hh; rw [hs] at hh; cases hh; exact hh HDD.out; exact hn hh)] at HV
    have hnn : decide (X.d.n < y.m.frm) = false := decide_eq_false hn
    go_cut [30] from 8 to 30 (fun x wy => x = .bool false ∧ Hid (Below W1.heap.size W1 wy))
    case first =>
     clear HV;refine wp_region_held_drew (S := fun W => W.cell? ⟨Q, 1, none⟩ = some (.int .i64 y.m.frm) ∧ W.cell? ⟨Q, 2, none⟩ = some (.int .i64 y.m.dst) ∧ W.cell? ⟨K, 0, none⟩ = some (.int .i64 X.d.me) ∧ W.cell? ⟨K, 1, none⟩ = some (.int .i64 X.d.n)) (by rfl) ⟨m1, m2, k0, k1⟩ (fun hHeld => ?_);refine wpAnyH_ready (rs := [0]) (by kernel_rfl) (by simp) ?_;refine AllReadyH.cons (o := ⟨some 8, _, _, _, _, _⟩) rfl (fun Kx hK => ?_) AllReadyH.nil;go_simp;refine hK.out _ _ hHeld (fun hHeld => ?_);clear hK Kx
     try simp only [aP, aQ, aA, aB, aC]
     refine wpAnyH_ready (rs := [1]) (by kernel_rfl) (by simp) ?_;refine AllReadyH.cons (o := ⟨some 9, _, _, _, _, _⟩) rfl (fun Kx hK => ?_) AllReadyH.nil;go_simp
     go_at_call 96
     refine (HSE.out _ (by first | exact (Below.refl _ _).drew | exact Below.refl _ _)).mono ?_;rintro r5 w5 ⟨rfl, HB5, hS5⟩;refine hK.out _ _ hS5 (fun hHeld => ?_);clear hK Kx
     try simp only [aP, aQ, aA, aB, aC]
     refine wpAnyH_take (i := 2) (oi := ⟨some 10, _, _, _, _, _⟩) (v := ?_) rfl (by kernel_rfl) (by kernel_rfl) (by kernel_rfl) (fun _ _ _ h => h) (Or.inl ⟨by rfl, ?_⟩) (by assumption) ?_
     rotate_left
     ·intro w5 hSw
      (try dsimp only at hSw)
      go_simp
      (try with_reducible rfl)
     try simp only [aP, aQ, aA, aB, aC]
     refine wpAnyH_take (i := 3) (oi := ⟨some 11, _, _, _, _, _⟩) (v := ?_) rfl (by kernel_rfl) (by kernel_rfl) (by kernel_rfl) (fun _ _ _ h => h) (Or.inl ⟨by rfl, ?_⟩) (by assumption) ?_
     rotate_left
     ·intro w5 hSw
      (try dsimp only at hSw)
      go_simp
      (try with_reducible rfl)
     try simp only [aP, aQ, aA, aB, aC]
     refine wpAnyH_take (i := 4) (oi := ⟨some 12, _, _, _, _, _⟩) (v := ?_) rfl (by kernel_rfl) (by kernel_rfl) (by kernel_rfl) (fun _ _ _ h => h) (Or.inl ⟨by rfl, ?_⟩) (by assumption) ?_
     rotate_left
     ·intro w5 hSw
      (try dsimp only at hSw)
      go_simp
      (try with_reducible rfl)
     try simp only [aP, aQ, aA, aB, aC]
     refine wpAnyH_take (i := 5) (oi := ⟨some 13, _, _, _, _, _⟩) (v := ?_) rfl (by kernel_rfl) (by kernel_rfl) (by kernel_rfl) (fun _ _ _ h => h) (Or.inl ⟨by rfl, ?_⟩) (by assumption) ?_
     rotate_left
     ·intro w5 hSw
      (try dsimp only at hSw)
      go_simp
      (try with_reducible rfl)
     try simp only [aP, aQ, aA, aB, aC]
     refine wpAnyH_take (i := 6) (oi := ⟨some 14, _, _, _, _, _⟩) (v := ?_) rfl (by kernel_rfl) (by kernel_rfl) (by kernel_rfl) (fun _ _ _ h => h) (Or.inl ⟨by rfl, ?_⟩) (by assumption) ?_
     rotate_left
     ·intro w5 hSw
      (try dsimp only at hSw)
      go_simp
      (try with_reducible rfl)
     try simp only [aP, aQ, aA, aB, aC]
     refine wpAnyH_take (i := 7) (oi := ⟨some 15, _, _, _, _, _⟩) (v := ?_) rfl (by kernel_rfl) (by kernel_rfl) (by kernel_rfl) (fun _ _ _ h => h) (Or.inl ⟨by rfl, ?_⟩) (by assumption) ?_
     rotate_left
     ·intro w5 hSw
      (try dsimp only at hSw)
      go_simp
      (try with_reducible rfl)
     try simp only [aP, aQ, aA, aB, aC]
     refine wpAnyH_take (i := 8) (oi := ⟨some 16, _, _, _, _, _⟩) (v := ?_) rfl (by kernel_rfl) (by kernel_rfl) (by kernel_rfl) (fun _ _ _ h => h) (Or.inl ⟨by rfl, ?_⟩) (by assumption) ?_
     rotate_left
     ·intro w5 hSw
      (try dsimp only at hSw)
      go_simp
      (try with_reducible rfl)
     try simp only [aP, aQ, aA, aB, aC]
     refine wpAnyH_take (i := 9) (oi := ⟨some 17, _, _, _, _, _⟩) (v := ?_) rfl (by kernel_rfl) (by kernel_rfl) (by kernel_rfl) (fun _ _ _ h => h) (Or.inl ⟨by rfl, ?_⟩) (by assumption) ?_
     rotate_left
     ·intro w5 hSw
      (try dsimp only at hSw)
      go_simp
      (try with_reducible rfl)
     try simp only [aP, aQ, aA, aB, aC]
     refine wpAnyH_take (i := 10) (oi := ⟨some 18, _, _, _, _, _⟩) (v := ?_) rfl (by kernel_rfl) (by kernel_rfl) (by kernel_rfl) (fun _ _ _ h => h) (Or.inl ⟨by rfl, ?_⟩) (by assumption) ?_
     rotate_left
     ·intro w5 hSw
      (try dsimp only at hSw)
      go_simp
      (try with_reducible rfl)
     try simp only [aP, aQ, aA, aB, aC]
     refine wpAnyH_take (i := 11) (oi := ⟨some 19, _, _, _, _, _⟩) (v := ?_) rfl (by kernel_rfl) (by kernel_rfl) (by kernel_rfl) (fun _ _ _ h => h) (Or.inl ⟨by rfl, ?_⟩) (by assumption) ?_
     rotate_left
     ·intro w5 hSw
      (try dsimp only at hSw)
      go_simp
      (try with_reducible rfl)
     try simp only [aP, aQ, aA, aB, aC]
     refine wpAnyH_take (i := 12) (oi := ⟨some 20, _, _, _, _, _⟩) (v := ?_) rfl (by kernel_rfl) (by kernel_rfl) (by kernel_rfl) (fun _ _ _ h => h) (Or.inl ⟨by rfl, ?_⟩) (by assumption) ?_
     rotate_left
     ·intro w5 hSw
      (try dsimp only at hSw)
      go_simp
      (try with_reducible rfl)
     try simp only [aP, aQ, aA, aB, aC]
     refine wpAnyH_take (i := 13) (oi := ⟨some 21, _, _, _, _, _⟩) (v := ?_) rfl (by kernel_rfl) (by kernel_rfl) (by kernel_rfl) (fun _ _ _ h => h) (Or.inl ⟨by rfl, ?_⟩) (by assumption) ?_
     rotate_left
     ·intro w5 hSw
      (try dsimp only at hSw)
      go_simp
      (try with_reducible rfl)
     try simp only [aP, aQ, aA, aB, aC]
     refine wpAnyH_take (i := 14) (oi := ⟨some 22, _, _, _, _, _⟩) (v := ?_) rfl (by kernel_rfl) (by kernel_rfl) (by kernel_rfl) (fun _ _ _ h => h) (Or.inl ⟨by rfl, ?_⟩) (by assumption) ?_
     rotate_left
     ·intro w5 hSw
      (try dsimp only at hSw)
      go_simp
      (try with_reducible rfl)
     try simp only [aP, aQ, aA, aB, aC]
     refine wpAnyH_take (i := 15) (oi := ⟨some 23, _, _, _, _, _⟩) (v := ?_) rfl (by kernel_rfl) (by kernel_rfl) (by kernel_rfl) (fun _ _ _ h => h) (Or.inl ⟨by rfl, ?_⟩) (by assumption) ?_
     rotate_left
     ·intro w5 hSw
      (try dsimp only at hSw)
      go_simp
      (try with_reducible rfl)
     try simp only [aP, aQ, aA, aB, aC]
     refine wpAnyH_take (i := 16) (oi := ⟨some 24, _, _, _, _, _⟩) (v := ?_) rfl (by kernel_rfl) (by kernel_rfl) (by kernel_rfl) (fun _ _ _ h => h) (Or.inl ⟨by rfl, ?_⟩) (by assumption) ?_
     rotate_left
     ·intro w5 hSw
      (try dsimp only at hSw)
      go_simp
      (try with_reducible rfl)
     try simp only [aP, aQ, aA, aB, aC]
     refine wpAnyH_take (i := 17) (oi := ⟨some 25, _, _, _, _, _⟩) (v := ?_) rfl (by kernel_rfl) (by kernel_rfl) (by kernel_rfl) (fun _ _ _ h => h) (Or.inl ⟨by rfl, ?_⟩) (by assumption) ?_
     rotate_left
     ·intro w5 hSw
      (try dsimp only at hSw)
      go_simp
      (try with_reducible rfl)
     try simp only [aP, aQ, aA, aB, aC]
     refine wpAnyH_take (i := 18) (oi := ⟨some 26, _, _, _, _, _⟩) (v := ?_) rfl (by kernel_rfl) (by kernel_rfl) (by kernel_rfl) (fun _ _ _ h => h) (Or.inl ⟨by rfl, ?_⟩) (by assumption) ?_
     rotate_left
     ·intro w5 hSw
      (try dsimp only at hSw)
      go_simp
      (try with_reducible rfl)
     try simp only [aP, aQ, aA, aB, aC]
     refine wpAnyH_take (i := 19) (oi := ⟨some 27, _, _, _, _, _⟩) (v := ?_) rfl (by kernel_rfl) (by kernel_rfl) (by kernel_rfl) (fun _ _ _ h => h) (Or.inl ⟨by rfl, ?_⟩) (by assumption) ?_
     rotate_left
     ·intro w5 hSw
      (try dsimp only at hSw)
      go_simp
      (try with_reducible rfl)
     try simp only [aP, aQ, aA, aB, aC]
     refine wpAnyH_take (i := 20) (oi := ⟨some 28, _, _, _, _, _⟩) (v := ?_) rfl (by kernel_rfl) (by kernel_rfl) (by kernel_rfl) (fun _ _ _ h => h) (Or.inl ⟨by rfl, ?_⟩) (by assumption) ?_
     rotate_left
     ·intro w5 hSw
      (try dsimp only at hSw)
      go_simp
      (try with_reducible rfl)
     try simp only [aP, aQ, aA, aB, aC]
     refine wpAnyH_take (i := 21) (oi := ⟨some 29, _, _, _, _, _⟩) (v := ?_) rfl (by kernel_rfl) (by kernel_rfl) (by kernel_rfl) (fun _ _ _ h => h) (Or.inl ⟨by rfl, ?_⟩) (by assumption) ?_
     rotate_left
     ·intro w5 hSw
      (try dsimp only at hSw)
      go_simp
      (try with_reducible rfl)
     try simp only [aP, aQ, aA, aB, aC]
     refine wpAnyH_take (i := 22) (oi := ⟨some 30, _, _, _, _, _⟩) (v := ?_) rfl (by kernel_rfl) (by kernel_rfl) (by kernel_rfl) (fun _ _ _ h => h) (Or.inl ⟨by rfl, ?_⟩) (by assumption) ?_
     rotate_left
     ·intro w5 hSw
      (try dsimp only at hSw)
      go_simp
      (try with_reducible rfl)
     try simp only [aP, aQ, aA, aB, aC]
     refine wpAnyH_done (by kernel_rfl) ?_ _;clear hHeld
     go_wp2_with fail
     go_meet
     exact ⟨rfl, HB5⟩
    case rest =>
     obtain ⟨rfl, HB⟩ := hcut;have HX2 := hideIt (HX1.out.keep HB.out);have HQ2 := hideIt (blkK HQ.out HB.out);clear HSE HX1 HQ HB m0 m1 m2 m3 m4 m5 m6 m7 m8 m9 m10 m11 m12 mf mz k0 k1 kf kz;obtain ⟨s1, s2, s3, s4, s5, s6, s7, s8⟩ := sent_in hs;have HH := hideIt (hearW_is2 HX2.out y.m.term);obtain ⟨g1, g2, g3⟩ := hear_go (W := X.v) hfw hl s4;have hms := hear_ms X.v y.m.term;have hrs := hear_rs X.v y.m.term;obtain ⟨⟨m0, m1, m2, m3, m4, m5, m6, m7, m8, m9, m10, m11, m12⟩, mf, mz⟩ := at13 HQ2.out
     go_wp2_with fail
     refine HH.out.mono ?_;rintro r w4 ⟨X4, rfl, hv4, hw4, hkp⟩;dsimp only;have HX4 := hideIt hw4;have HQ4 := hideIt (hkp Q _ _ HQ2.out hQK (by decide));have hM3 : X4.M.length < 1000000 := by
      have := X4.mlen;rw [hv4, hms, X.mlen] at this;omega
     have hM4 : X4.M.length = X.M.length := by
      have := X4.mlen;rw [hv4, hms, X.mlen] at this;omega
     have hR4 : X4.R.length = X.R.length := by
      have := X4.rlen;rw [hv4, hrs, X.rlen] at this;omega
     have hd4 : (hearW X.v y.m.term).d = X4.d := by rw [← hv4]; rfl
     rw [hd4] at g1 g2 g3;have hfn : y.m.frm ≤ X4.d.n := by
      have e1 := g1.n;have e2 := hfw.n;omega
     have hcnt : (Tm.countL X4.d.b y.m.frm y.m.term y.m.ok X4.d.n).1.r = 3 → Tm.mayB (Tm.countL X4.d.b y.m.frm y.m.term y.m.ok X4.d.n).1 = true := fun _ => by
      rcases count_bal (ok := y.m.ok) g1.nb.b (x := y.m.frm) (n := X4.d.n) ⟨s1.1, hfn, g1.nb.n.2⟩ s4 g3 with e | ⟨r2, e, m1, l1, c1⟩
      ·rw [e];exact g1.nb.b
      ·rw [e];exact m1
     clear hw4 hkp HH HX2 HQ2 m0 m1 m2 m3 m4 m5 m6 m7 m8 m9 m10 m11 m12 mf mz
     go_upto_region 5 with fail
     obtain ⟨fk, hfk, hcf, HHD⟩ : ∃ fk : Nat, msF y.m.kind = some (fnV fk) ∧ (∀ (args : Array Value) (w : World), (callFunc fk args).run Tryz.prog w = .ok (.enter fk args) w) ∧ Hid (∀ W, Below w4.heap.size w4 W → Calls Tryz.prog fk #[.pointer (some ⟨K, 0, none⟩), .agg (msgE y).toArray] W fun r w' => r = .returned (.int .i64 (messW X.v y.m).2) ∧ Hid (∃ Y' : WkX, Y'.v = (messW X.v y.m).1 ∧ WK w K Y' w')) := by
      rcases s5 with hk | hk | hk | hk | hk
      ·have hkk := hk;have hres : messW X.v y.m = (pollED (hearW X.v y.m.term) y.m, 0) := by
        rw [HV.out, if_pos hk]
       have hres1 : (messW X.v y.m).1 = ((pollED (hearW X.v y.m.term) y.m, 0)).1 := by rw [hres]
       have hres2 : (messW X.v y.m).2 = ((pollED (hearW X.v y.m.term) y.m, 0)).2 := by rw [hres]
       refine ⟨141, by rw [hk]; simp [msF, updF], enter_of Tryz.func141 (by kernel_rfl) (by kernel_rfl), hideIt ?_⟩
       intro W hW;refine (polledK_is (HX4.out.keep hW) y hM3).mono ?_;rintro r w' ⟨Y', rfl, hv, hw⟩
       exact ⟨by rw [hres2], hideIt ⟨Y', by rw [hv, hres1, hv4], hw⟩⟩
      ·have hkk := hk;have hres : messW X.v y.m = granED (hearW X.v y.m.term) y.m := by
        rw [HV.out, if_neg (by omega), if_pos hk]
       have hres1 : (messW X.v y.m).1 = (granED (hearW X.v y.m.term) y.m).1 := by rw [hres]
       have hres2 : (messW X.v y.m).2 = (granED (hearW X.v y.m.term) y.m).2 := by rw [hres]
       refine ⟨142, by rw [hk]; simp [msF, updF], enter_of Tryz.func142 (by kernel_rfl) (by kernel_rfl), hideIt ?_⟩
       intro W hW;refine (grantedK_is (HX4.out.keep hW) y g1.nb (by have := g1.bl; have := g1.nb.n; omega) hcnt (by omega) (by omega)).mono ?_
       rintro r w' ⟨Y', rfl, hv, hw⟩
       exact ⟨by rw [hres2, hv4], hideIt ⟨Y', by rw [hv, hres1, hv4], hw⟩⟩
      ·have hkk := hk;have hres : messW X.v y.m = (ledW (hearW X.v y.m.term) y.m, 0) := by
        rw [HV.out, if_neg (by omega), if_neg (by omega), if_neg (by omega)]
       have hres1 : (messW X.v y.m).1 = ((ledW (hearW X.v y.m.term) y.m, 0)).1 := by rw [hres]
       have hres2 : (messW X.v y.m).2 = ((ledW (hearW X.v y.m.term) y.m, 0)).2 := by rw [hres]
       refine ⟨143, by rw [hk]; simp [msF, updF], enter_of Tryz.func143 (by kernel_rfl) (by kernel_rfl), hideIt ?_⟩
       intro W hW;refine (ledK_is (HX4.out.keep hW) y hm g1.nb.L (fun h3 => sent3 hs h3) (fun h3 => by first | exact absurd hk h3 | exact Nat.le_trans (s7 hk).2.2 (by omega)) hM3 (by omega)).mono ?_;rintro r w' ⟨Y', rfl, hv, hw⟩
       exact ⟨by rw [hres2], hideIt ⟨Y', by rw [hv, hres1, hv4], hw⟩⟩
      ·have hkk := hk;have hres : messW X.v y.m = (appdW (hearW X.v y.m.term) y.m, 0) := by
        rw [HV.out, if_neg (by omega), if_neg (by omega), if_pos hk]
       have hres1 : (messW X.v y.m).1 = ((appdW (hearW X.v y.m.term) y.m, 0)).1 := by rw [hres]
       have hres2 : (messW X.v y.m).2 = ((appdW (hearW X.v y.m.term) y.m, 0)).2 := by rw [hres]
       refine ⟨144, by rw [hk]; simp [msF, updF], enter_of Tryz.func144 (by kernel_rfl) (by kernel_rfl), hideIt ?_⟩
       intro W hW;refine (appdK_is (HX4.out.keep hW) y g1.nb g2 ⟨s1.1, hfn⟩ (s8 hk) (by omega)).mono ?_;rintro r w' ⟨Y', rfl, hv, hw⟩
       exact ⟨by rw [hres2], hideIt ⟨Y', by rw [hv, hres1, hv4], hw⟩⟩
      ·have hkk := hk;have hres : messW X.v y.m = (ledW (hearW X.v y.m.term) y.m, 0) := by
        rw [HV.out, if_neg (by omega), if_neg (by omega), if_neg (by omega)]
       have hres1 : (messW X.v y.m).1 = ((ledW (hearW X.v y.m.term) y.m, 0)).1 := by rw [hres]
       have hres2 : (messW X.v y.m).2 = ((ledW (hearW X.v y.m.term) y.m, 0)).2 := by rw [hres]
       refine ⟨143, by rw [hk]; simp [msF, updF], enter_of Tryz.func143 (by kernel_rfl) (by kernel_rfl), hideIt ?_⟩
       intro W hW;refine (ledK_is (HX4.out.keep hW) y hm g1.nb.L (fun h3 => sent3 hs h3) (fun h3 => by first | exact absurd hk h3 | exact Nat.le_trans (s7 hk).2.2 (by omega)) hM3 (by omega)).mono ?_;rintro r w' ⟨Y', rfl, hv, hw⟩
       exact ⟨by rw [hres2], hideIt ⟨Y', by rw [hv, hres1, hv4], hw⟩⟩
     have HMS : Hid (∀ W, Below w4.heap.size w4 W → Calls Tryz.prog 98 #[] W fun r w' => ∃ mb, r = .returned (.map (some mb)) ∧ Hid (Below w4.heap.size w4 w') ∧ ((Instr.lookup 130 (.map (some mb)) (.int .i64 y.m.kind) false).run Tryz.prog w' = .ok (.func (.func fk) #[] #[]) w') ∧ (∀ V : World, Below w4.heap.size w4 V → Hid (V.heap[Q]? = some (.cells #[.int .i64 y.m.kind, .int .i64 y.m.frm, .int .i64 y.m.dst, .int .i64 y.m.term, .int .i64 y.m.pi, .int .i64 y.m.pt, .slice y.a y.m.es.length y.c, .int .i64 y.m.cm, .bool y.m.ok, .int .i64 y.m.mtch, .int .i64 y.m.si, .int .i64 y.m.st, .string y.m.tx] 50 (0, 0))))) := hideIt (by
      intro W hW;refine (messages_is W).mono ?_;rintro r w' ⟨mb, rfl, HF, hmb, hbl⟩
      exact ⟨mb, rfl, hideIt (below_via hW hbl), HF.look Tryz.underlying130 (by first | rfl | kernel_rfl | simp [zeroValue, go_sem]) y.m.kind (wf64 y.m.kind (by omega) (by omega)) (fnV fk) hfk, fun V hV => hideIt (blkK HQ4.out hV)⟩)
     unfold msgE at HHD;obtain ⟨⟨m0, m1, m2, m3, m4, m5, m6, m7, m8, m9, m10, m11, m12⟩, mf, mz⟩ := at13 HQ4.out;clear HV hcnt hd4 hms hrs hv4 hM3 hM4 hR4 g1 g2 g3 hfn s1 s2 s3 s4 s5 s6 s7 s8 hnn hn hdd HDD HX4 HQ4 hfk hm hfw hl
     go_region_law (first
      | (go_simp; refine (HMS.out _ (by first | exact (Below.refl _ _).drew | exact Below.refl _ _)).mono ?_; rintro r w5 ⟨mb, rfl, HB5, hlk, hq⟩; dsimp only; obtain ⟨⟨p0, p1, p2, p3, p4, p5, p6, p7, p8, p9, p10, p11, p12⟩, pf, pz⟩ := at13 (hq w5 HB5.out).out)
      | (go_simp; refine (HHD.out _ HB5.out).mono ?_; rintro r w6 ⟨rfl, HW⟩; dsimp only))
     all_goals go_wp2
     all_goals go_ret
     all_goals (obtain ⟨Y', hv', hw'⟩ := HW.out)
     all_goals first
      | exact ⟨Y', rfl, hv', hw'⟩
      | exact ⟨rfl, Y', hv', hw'⟩
  ·rw [if_pos (.inr (.inl hd))] at HV;have hdd : (y.m.dst != X.d.me) = true := by simp [hd]
   go_cut [30] from 8 to 30 (fun x wy => x = .bool true ∧ Hid (Below W1.heap.size W1 wy))
   case first =>
    clear HV;refine wp_region_held_drew (S := fun W => W.cell? ⟨Q, 1, none⟩ = some (.int .i64 y.m.frm) ∧ W.cell? ⟨Q, 2, none⟩ = some (.int .i64 y.m.dst) ∧ W.cell? ⟨K, 0, none⟩ = some (.int .i64 X.d.me) ∧ W.cell? ⟨K, 1, none⟩ = some (.int .i64 X.d.n)) (by rfl) ⟨m1, m2, k0, k1⟩ (fun hHeld => ?_);refine wpAnyH_ready (rs := [0]) (by kernel_rfl) (by simp) ?_;refine AllReadyH.cons (o := ⟨some 8, _, _, _, _, _⟩) rfl (fun Kx hK => ?_) AllReadyH.nil;go_simp;refine hK.out _ _ hHeld (fun hHeld => ?_);clear hK Kx
    try simp only [aP, aQ, aA, aB, aC]
    refine wpAnyH_ready (rs := [1]) (by kernel_rfl) (by simp) ?_;refine AllReadyH.cons (o := ⟨some 9, _, _, _, _, _⟩) rfl (fun Kx hK => ?_) AllReadyH.nil;go_simp
    go_at_call 96
    refine (HSE.out _ (by first | exact (Below.refl _ _).drew | exact Below.refl _ _)).mono ?_;rintro r5 w5 ⟨rfl, HB5, hS5⟩;refine hK.out _ _ hS5 (fun hHeld => ?_);clear hK Kx
    try simp only [aP, aQ, aA, aB, aC]
    refine wpAnyH_take (i := 2) (oi := ⟨some 10, _, _, _, _, _⟩) (v := ?_) rfl (by kernel_rfl) (by kernel_rfl) (by kernel_rfl) (fun _ _ _ h => h) (Or.inl ⟨by rfl, ?_⟩) (by assumption) ?_
    rotate_left
    ·intro w5 hSw
     (try dsimp only at hSw)
     go_simp
     (try with_reducible rfl)
    try simp only [aP, aQ, aA, aB, aC]
    refine wpAnyH_take (i := 3) (oi := ⟨some 11, _, _, _, _, _⟩) (v := ?_) rfl (by kernel_rfl) (by kernel_rfl) (by kernel_rfl) (fun _ _ _ h => h) (Or.inl ⟨by rfl, ?_⟩) (by assumption) ?_
    rotate_left
    ·intro w5 hSw
     (try dsimp only at hSw)
     go_simp
     (try with_reducible rfl)
    try simp only [aP, aQ, aA, aB, aC]
    refine wpAnyH_take (i := 4) (oi := ⟨some 12, _, _, _, _, _⟩) (v := ?_) rfl (by kernel_rfl) (by kernel_rfl) (by kernel_rfl) (fun _ _ _ h => h) (Or.inl ⟨by rfl, ?_⟩) (by assumption) ?_
    rotate_left
    ·intro w5 hSw
     (try dsimp only at hSw)
     go_simp
     (try with_reducible rfl)
    try simp only [aP, aQ, aA, aB, aC]
    refine wpAnyH_take (i := 5) (oi := ⟨some 13, _, _, _, _, _⟩) (v := ?_) rfl (by kernel_rfl) (by kernel_rfl) (by kernel_rfl) (fun _ _ _ h => h) (Or.inl ⟨by rfl, ?_⟩) (by assumption) ?_
    rotate_left
    ·intro w5 hSw
     (try dsimp only at hSw)
     go_simp
     (try with_reducible rfl)
    try simp only [aP, aQ, aA, aB, aC]
    refine wpAnyH_take (i := 6) (oi := ⟨some 14, _, _, _, _, _⟩) (v := ?_) rfl (by kernel_rfl) (by kernel_rfl) (by kernel_rfl) (fun _ _ _ h => h) (Or.inl ⟨by rfl, ?_⟩) (by assumption) ?_
    rotate_left
    ·intro w5 hSw
     (try dsimp only at hSw)
     go_simp
     (try with_reducible rfl)
    try simp only [aP, aQ, aA, aB, aC]
    refine wpAnyH_take (i := 7) (oi := ⟨some 15, _, _, _, _, _⟩) (v := ?_) rfl (by kernel_rfl) (by kernel_rfl) (by kernel_rfl) (fun _ _ _ h => h) (Or.inl ⟨by rfl, ?_⟩) (by assumption) ?_
    rotate_left
    ·intro w5 hSw
     (try dsimp only at hSw)
     go_simp
     (try with_reducible rfl)
    try simp only [aP, aQ, aA, aB, aC]
    refine wpAnyH_take (i := 8) (oi := ⟨some 16, _, _, _, _, _⟩) (v := ?_) rfl (by kernel_rfl) (by kernel_rfl) (by kernel_rfl) (fun _ _ _ h => h) (Or.inl ⟨by rfl, ?_⟩) (by assumption) ?_
    rotate_left
    ·intro w5 hSw
     (try dsimp only at hSw)
     go_simp
     (try with_reducible rfl)
    try simp only [aP, aQ, aA, aB, aC]
    refine wpAnyH_take (i := 9) (oi := ⟨some 17, _, _, _, _, _⟩) (v := ?_) rfl (by kernel_rfl) (by kernel_rfl) (by kernel_rfl) (fun _ _ _ h => h) (Or.inl ⟨by rfl, ?_⟩) (by assumption) ?_
    rotate_left
    ·intro w5 hSw
     (try dsimp only at hSw)
     go_simp
     (try with_reducible rfl)
    try simp only [aP, aQ, aA, aB, aC]
    refine wpAnyH_take (i := 10) (oi := ⟨some 18, _, _, _, _, _⟩) (v := ?_) rfl (by kernel_rfl) (by kernel_rfl) (by kernel_rfl) (fun _ _ _ h => h) (Or.inl ⟨by rfl, ?_⟩) (by assumption) ?_
    rotate_left
    ·intro w5 hSw
     (try dsimp only at hSw)
     go_simp
     (try with_reducible rfl)
    try simp only [aP, aQ, aA, aB, aC]
    refine wpAnyH_take (i := 11) (oi := ⟨some 19, _, _, _, _, _⟩) (v := ?_) rfl (by kernel_rfl) (by kernel_rfl) (by kernel_rfl) (fun _ _ _ h => h) (Or.inl ⟨by rfl, ?_⟩) (by assumption) ?_
    rotate_left
    ·intro w5 hSw
     (try dsimp only at hSw)
     go_simp
     (try with_reducible rfl)
    try simp only [aP, aQ, aA, aB, aC]
    refine wpAnyH_take (i := 12) (oi := ⟨some 20, _, _, _, _, _⟩) (v := ?_) rfl (by kernel_rfl) (by kernel_rfl) (by kernel_rfl) (fun _ _ _ h => h) (Or.inl ⟨by rfl, ?_⟩) (by assumption) ?_
    rotate_left
    ·intro w5 hSw
     (try dsimp only at hSw)
     go_simp
     (try with_reducible rfl)
    try simp only [aP, aQ, aA, aB, aC]
    refine wpAnyH_take (i := 13) (oi := ⟨some 21, _, _, _, _, _⟩) (v := ?_) rfl (by kernel_rfl) (by kernel_rfl) (by kernel_rfl) (fun _ _ _ h => h) (Or.inl ⟨by rfl, ?_⟩) (by assumption) ?_
    rotate_left
    ·intro w5 hSw
     (try dsimp only at hSw)
     go_simp
     (try with_reducible rfl)
    try simp only [aP, aQ, aA, aB, aC]
    refine wpAnyH_take (i := 14) (oi := ⟨some 22, _, _, _, _, _⟩) (v := undef) rfl (by kernel_rfl) (by kernel_rfl) (by kernel_rfl) (fun _ _ _ h => h) (Or.inr ⟨by rfl, rfl⟩) (by assumption) ?_
    try simp only [aP, aQ, aA, aB, aC]
    refine wpAnyH_take (i := 15) (oi := ⟨some 23, _, _, _, _, _⟩) (v := undef) rfl (by kernel_rfl) (by kernel_rfl) (by kernel_rfl) (fun _ _ _ h => h) (Or.inr ⟨by rfl, rfl⟩) (by assumption) ?_
    try simp only [aP, aQ, aA, aB, aC]
    refine wpAnyH_take (i := 16) (oi := ⟨some 24, _, _, _, _, _⟩) (v := undef) rfl (by kernel_rfl) (by kernel_rfl) (by kernel_rfl) (fun _ _ _ h => h) (Or.inr ⟨by rfl, rfl⟩) (by assumption) ?_
    try simp only [aP, aQ, aA, aB, aC]
    refine wpAnyH_take (i := 17) (oi := ⟨some 25, _, _, _, _, _⟩) (v := undef) rfl (by kernel_rfl) (by kernel_rfl) (by kernel_rfl) (fun _ _ _ h => h) (Or.inr ⟨by rfl, rfl⟩) (by assumption) ?_
    try simp only [aP, aQ, aA, aB, aC]
    refine wpAnyH_take (i := 18) (oi := ⟨some 26, _, _, _, _, _⟩) (v := undef) rfl (by kernel_rfl) (by kernel_rfl) (by kernel_rfl) (fun _ _ _ h => h) (Or.inr ⟨by rfl, rfl⟩) (by assumption) ?_
    try simp only [aP, aQ, aA, aB, aC]
    refine wpAnyH_take (i := 19) (oi := ⟨some 27, _, _, _, _, _⟩) (v := undef) rfl (by kernel_rfl) (by kernel_rfl) (by kernel_rfl) (fun _ _ _ h => h) (Or.inr ⟨by rfl, rfl⟩) (by assumption) ?_
    try simp only [aP, aQ, aA, aB, aC]
    refine wpAnyH_take (i := 20) (oi := ⟨some 28, _, _, _, _, _⟩) (v := undef) rfl (by kernel_rfl) (by kernel_rfl) (by kernel_rfl) (fun _ _ _ h => h) (Or.inr ⟨by rfl, rfl⟩) (by assumption) ?_
    try simp only [aP, aQ, aA, aB, aC]
    refine wpAnyH_take (i := 21) (oi := ⟨some 29, _, _, _, _, _⟩) (v := undef) rfl (by kernel_rfl) (by kernel_rfl) (by kernel_rfl) (fun _ _ _ h => h) (Or.inr ⟨by rfl, rfl⟩) (by assumption) ?_
    try simp only [aP, aQ, aA, aB, aC]
    refine wpAnyH_take (i := 22) (oi := ⟨some 30, _, _, _, _, _⟩) (v := ?_) rfl (by kernel_rfl) (by kernel_rfl) (by kernel_rfl) (fun _ _ _ h => h) (Or.inl ⟨by rfl, ?_⟩) (by assumption) ?_
    rotate_left
    ·intro w5 hSw
     (try dsimp only at hSw)
     go_simp
     (try with_reducible rfl)
    try simp only [aP, aQ, aA, aB, aC]
    refine wpAnyH_done (by kernel_rfl) ?_ _;clear hHeld
    go_wp2_with fail
    go_meet
    exact ⟨rfl, HB5⟩
   case rest =>
    obtain ⟨rfl, HB⟩ := hcut;have HX2 := hideIt (HX1.out.keep HB.out);have HQ2 := hideIt (blkK HQ.out HB.out);clear HSE HX1 HQ HB m0 m1 m2 m3 m4 m5 m6 m7 m8 m9 m10 m11 m12 mf mz k0 k1 kf kz;go_wp2;go_ret;have hh : X.v = (messW X.v y.m).1 := by rw [HV.out]
    have h2 : (messW X.v y.m).2 = 1 := by rw [HV.out]
    first
     | exact ⟨X, by rw [h2]; rfl, hh, HX2.out⟩
     | exact ⟨by rw [h2]; rfl, X, hh, HX2.out⟩
end Go.Proofs.YtcaehfkfohianaaGreat
