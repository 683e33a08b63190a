/- Texts of my own, laid together. -/
import Derived.Test.YtiinigifjdpicaaGreatDoorMb09
import Derived.Test.YtiinigifjdpicaaGreatDoorMb08
import Derived.Test.YtiinigifjdpicaaGreatDoorMb07
import Derived.Deep.RegionLaw
namespace Go.Proofs.YtiinigifjdpicaaGreatDoor
open Go.RowKit Go.Maps
set_option linter.all false
def lok (x a : Int) (l : List OweV) : Int := (l.map (fun y => if y.acc = x ∧ y.asset = a then y.n else 0)).sum
theorem lok_cons (x a : Int) (y : OweV) (l : List OweV) : lok x a (y :: l) = (if y.acc = x ∧ y.asset = a then y.n else 0) + lok x a l := by simp [lok]
theorem lok_app (x a : Int) (l m : List OweV) : lok x a (l ++ m) = lok x a l + lok x a m := by simp [lok]
theorem lok_modify (x a n : Int) : ∀ (l : List OweV) (i : Nat) (h : i < l.length), lok x a (l.modify i (fun y => ⟨y.acc, y.asset, y.n + n⟩)) = lok x a l + (if l[i].acc = x ∧ l[i].asset = a then n else 0)
 | [], i, h => absurd h (by simp)
 | y :: l, 0, h => by
  rw [List.modify_zero_cons];simp only [lok, List.map_cons, List.sum_cons, List.getElem_cons_zero]
  split <;> omega
 | y :: l, i + 1, h => by
  rw [List.modify_succ_cons];have ih := lok_modify x a n l i (by simpa using h);simp only [lok, List.map_cons, List.sum_cons, List.getElem_cons_succ] at ih ⊢;omega
theorem lok_owe (x a acc asset n : Int) (l : List OweV) : lok x a (oweL acc asset n l) = lok x a l + (if acc = x ∧ asset = a then n else 0) := by
 unfold oweL
 split
 ·rename_i i hi
  rw [List.findIdx?_eq_some_iff_getElem] at hi;obtain ⟨h1, h2, _⟩ := hi;rw [lok_modify x a n l i h1];unfold oweP at h2;simp only [Bool.and_eq_true, decide_eq_true_eq] at h2;rw [h2.1, h2.2]
 ·have := sum_perm ((laid_perm (r := owB) (x := (⟨acc, asset, n⟩ : OweV)) (l := l)).map (fun y => if y.acc = x ∧ y.asset = a then y.n else 0));unfold lok;rw [this];simp only [List.map_cons, List.sum_cons];omega
structure Rep (l : List OweV) (f : Cls) : Prop where
 ok : OwOk l
 eq : ∀ x a, Cl2 x a → cg f x a = lok x a l
theorem rep_add {l : List OweV} {f : Cls} (h : Rep l f) {x a n : Int} (hx : Cl2 x a) (hn : 1 ≤ n) : Rep (oweL x a n l) (addC f x a n) := by
 refine ⟨owok_owe h.ok hx.1 hx.2 hn, fun y b hy => ?_⟩;rw [cg_add, lok_owe, h.eq y b hy]
 by_cases e : y = x ∧ b = a
 ·rw [if_pos e, if_pos ⟨e.1.symm, e.2.symm⟩]
 ·rw [if_neg e, if_neg (fun c => e ⟨c.1.symm, c.2.symm⟩)]
theorem owB_trans {a b c : OweV} (h : owB a b = true) (k : owB b c = true) : owB a c = true := by
 unfold owB at *;simp only [Bool.or_eq_true, Bool.and_eq_true, decide_eq_true_eq] at *;omega
theorem ow_pairC : ∀ {l : List OweV}, srtB owB l = true → l.Pairwise (fun x y => owB x y = true)
 | [], _ => List.Pairwise.nil
 | [x], _ => by simp
 | x :: y :: l, h => by
  have ih := ow_pairC (srt_tail h);have hxy := srt_head h;rw [List.pairwise_cons];refine ⟨fun z hz => ?_, ih⟩;rw [List.mem_cons] at hz
  rcases hz with rfl | hz
  ·exact hxy
  ·exact owB_trans hxy ((List.pairwise_cons.1 ih).1 z hz)
theorem pair_ow : ∀ {l : List OweV}, l.Pairwise (fun x y => owB x y = true) → srtB owB l = true
 | [], _ => rfl
 | [x], _ => rfl
 | x :: y :: l, h => by
  rw [List.pairwise_cons] at h;unfold srtB;rw [h.1 y (List.mem_cons_self ..), pair_ow h.2]
  rfl
theorem lok_none {x a : Int} {l : List OweV} (h : ∀ y ∈ l, ¬ (y.acc = x ∧ y.asset = a)) : lok x a l = 0 := by
 induction l with
 | nil => rfl
 | cons y l ih =>
  rw [lok_cons, if_neg (h y (List.mem_cons_self ..)), ih (fun z hz => h z (List.mem_cons_of_mem _ hz))]
  rfl
theorem lok_beyond {y : OweV} {l : List OweV} (h : ∀ z ∈ l, owB y z = true) : lok y.acc y.asset l = 0 := by
 refine lok_none (fun z hz c => ?_);have := h z hz;unfold owB at this;simp only [Bool.or_eq_true, Bool.and_eq_true, decide_eq_true_eq] at this;omega
theorem rep_one : ∀ {l m : List OweV}, l.Pairwise (fun x y => owB x y = true) → m.Pairwise (fun x y => owB x y = true) → (∀ y ∈ l, Cl2 y.acc y.asset ∧ 1 ≤ y.n) → (∀ y ∈ m, Cl2 y.acc y.asset ∧ 1 ≤ y.n) → (∀ x a, Cl2 x a → lok x a l = lok x a m) → l = m
 | [], [], _, _, _, _, _ => rfl
 | [], z :: m, _, hm, _, km, h => by
  exfalso
  rw [List.pairwise_cons] at hm;have kz := km z (List.mem_cons_self ..);have := h z.acc z.asset kz.1;rw [lok_cons, if_pos ⟨rfl, rfl⟩, lok_beyond hm.1] at this
  simp [lok] at this
  omega
 | y :: l, [], hl, _, kl, _, h => by
  exfalso
  rw [List.pairwise_cons] at hl;have ky := kl y (List.mem_cons_self ..);have := h y.acc y.asset ky.1;rw [lok_cons, if_pos ⟨rfl, rfl⟩, lok_beyond hl.1] at this
  simp [lok] at this
  omega
 | y :: l, z :: m, hl, hm, kl, km, h => by
  rw [List.pairwise_cons] at hl hm;have ky := kl y (List.mem_cons_self ..);have kz := km z (List.mem_cons_self ..);have h1 := h y.acc y.asset ky.1;have h2 := h z.acc z.asset kz.1;have e : y.acc = z.acc ∧ y.asset = z.asset := by
   by_cases e : y.acc = z.acc ∧ y.asset = z.asset
   ·exact e
   ·exfalso
    have hc : owB y z = true ∨ owB z y = true := by
     unfold owB;simp only [Bool.or_eq_true, Bool.and_eq_true, decide_eq_true_eq];omega
    rcases hc with hc | hc
    ·rw [lok_cons, if_pos ⟨rfl, rfl⟩, lok_beyond hl.1, lok_beyond (y := y) (l := z :: m) (fun u hu => by
      rw [List.mem_cons] at hu
      rcases hu with rfl | hu
      ·exact hc
      ·exact owB_trans hc (hm.1 u hu))] at h1
     omega
    ·rw [lok_cons z.acc z.asset z m, if_pos ⟨rfl, rfl⟩, lok_beyond hm.1, lok_beyond (y := z) (l := y :: l) (fun u hu => by
      rw [List.mem_cons] at hu
      rcases hu with rfl | hu
      ·exact hc
      ·exact owB_trans hc (hl.1 u hu))] at h2
     omega
  have en : y.n = z.n := by
   rw [lok_cons, lok_cons, if_pos ⟨rfl, rfl⟩, if_pos ⟨e.1.symm, e.2.symm⟩, lok_beyond hl.1, e.1, e.2, lok_beyond hm.1] at h1;omega
  have eyz : y = z := by
   obtain ⟨y1, y2, y3⟩ := y;obtain ⟨z1, z2, z3⟩ := z;simp only at e en;obtain ⟨rfl, rfl⟩ := e;subst en
   rfl
  subst eyz;rw [rep_one hl.2 hm.2 (fun u hu => kl u (List.mem_cons_of_mem _ hu)) (fun u hu => km u (List.mem_cons_of_mem _ hu)) (fun x a hx => by
   have := h x a hx;rw [lok_cons, lok_cons] at this
   omega)]
theorem one1_mem {f : Cls} {x a : Int} {y : OweV} (h : y ∈ one1 f x a) : y.acc = x ∧ y.asset = a ∧ 1 ≤ y.n ∧ y.n = cg f x a := by
 unfold one1 at h
 split at h
 ·rename_i hc
  simp only [List.mem_singleton] at h;subst h
  exact ⟨rfl, rfl, by show 1 ≤ cg f x a; omega, rfl⟩
 ·simp at h
theorem prt_mem {f : Cls} {x : Int} {y : OweV} (h : y ∈ prt f x 2) : y.acc = x ∧ (y.asset = 0 ∨ y.asset = 1) ∧ 1 ≤ y.n ∧ y.n = cg f x y.asset := by
 have h' : y ∈ one1 f x 0 ++ one1 f x 1 := h;rw [List.mem_append] at h'
 rcases h' with h' | h'
 ·have := one1_mem h'
  exact ⟨this.1, .inl this.2.1, this.2.2.1, by rw [this.2.1]; exact this.2.2.2⟩
 ·have := one1_mem h'
  exact ⟨this.1, .inr this.2.1, this.2.2.1, by rw [this.2.1]; exact this.2.2.2⟩
theorem lst_mem {f : Cls} : ∀ {k : Nat} {y : OweV}, y ∈ lstK f k → (1 ≤ y.acc ∧ y.acc ≤ k) ∧ (y.asset = 0 ∨ y.asset = 1) ∧ 1 ≤ y.n ∧ y.n = cg f y.acc y.asset
 | 0, y, h => by simp [lstK] at h
 | k + 1, y, h => by
  rw [lstK, List.mem_append] at h
  rcases h with h | h
  ·have := lst_mem h
   exact ⟨by omega, this.2⟩
  ·have := prt_mem h
   exact ⟨by omega, this.2.1, this.2.2.1, by rw [this.1]; exact this.2.2.2⟩
theorem one1_pair (f : Cls) (x a : Int) : (one1 f x a).Pairwise (fun x y => owB x y = true) := by
 unfold one1
 split <;> simp
theorem prt_pair (f : Cls) (x : Int) : (prt f x 2).Pairwise (fun x y => owB x y = true) := by
 show (one1 f x 0 ++ one1 f x 1).Pairwise _
 rw [List.pairwise_append];refine ⟨one1_pair f x 0, one1_pair f x 1, fun y hy z hz => ?_⟩;have h1 := one1_mem hy;have h2 := one1_mem hz;unfold owB;simp only [Bool.or_eq_true, Bool.and_eq_true, decide_eq_true_eq];omega
theorem lst_pair (f : Cls) : ∀ k, (lstK f k).Pairwise (fun x y => owB x y = true)
 | 0 => List.Pairwise.nil
 | k + 1 => by
  rw [lstK, List.pairwise_append];refine ⟨lst_pair f k, prt_pair f _, fun y hy z hz => ?_⟩;have h1 := lst_mem hy;have h2 := prt_mem hz;unfold owB;simp only [Bool.or_eq_true, Bool.and_eq_true, decide_eq_true_eq];omega
theorem lok_one1 {f : Cls} {x a y b : Int} (h : 0 ≤ cg f x a) : lok y b (one1 f x a) = if x = y ∧ a = b then cg f x a else 0 := by
 unfold one1
 split
 ·simp [lok]
 ·simp only [lok, List.map_nil, List.sum_nil]
  split <;> omega
theorem lok_lst {f : Cls} (hf : ∀ x a, 0 ≤ cg f x a) {y b : Int} (hb : b = 0 ∨ b = 1) (h1 : 1 ≤ y) : ∀ k : Nat, lok y b (lstK f k) = if y ≤ k then cg f y b else 0
 | 0 => by
  rw [if_neg (by omega)]
  rfl
 | k + 1 => by
  have e : lok y b (prt f ((k : Int) + 1) 2) = if y = (k : Int) + 1 then cg f y b else 0 := by
   show lok y b (one1 f ((k : Int) + 1) 0 ++ one1 f ((k : Int) + 1) 1) = _
   rw [lok_app, lok_one1 (hf _ _), lok_one1 (hf _ _)]
   by_cases hy : y = (k : Int) + 1
   ·rw [if_pos hy]
    rcases hb with rfl | rfl
    ·rw [if_pos ⟨hy.symm, rfl⟩, if_neg (by omega), hy];omega
    ·rw [if_neg (by omega), if_pos ⟨hy.symm, rfl⟩, hy];omega
   ·rw [if_neg hy, if_neg (by omega), if_neg (by omega)]
    rfl
  rw [lstK, lok_app, lok_lst hf hb h1 k, e]
  by_cases c1 : y ≤ (k : Int)
  ·rw [if_pos c1, if_neg (by omega), if_pos (by push_cast; omega)]
   omega
  ·rw [if_neg c1]
   by_cases c2 : y = (k : Int) + 1
   ·rw [if_pos c2, if_pos (by push_cast; omega)]
    omega
   ·rw [if_neg c2, if_neg (by push_cast; omega)]
    rfl
theorem lst_owok (f : Cls) : OwOk (lstK f 8) := by
 refine ⟨pair_ow (lst_pair f 8), fun y hy => ?_⟩;have := lst_mem hy
 exact ⟨by omega, by omega, this.2.2.1⟩
theorem rep_list {l : List OweV} {f : Cls} (h : Rep l f) (hf : ∀ x a, 0 ≤ cg f x a) : lstK f 8 = l := by
 refine rep_one (lst_pair f 8) (ow_pairC h.ok.1) (fun y hy => ?_) (fun y hy => ?_) (fun x a hx => ?_)
 ·have := (lst_owok f).2 y hy
  exact ⟨⟨this.1, this.2.1⟩, this.2.2⟩
 ·have := h.ok.2 y hy
  exact ⟨⟨this.1, this.2.1⟩, this.2.2⟩
 ·obtain ⟨h1, h2⟩ := hx;rw [lok_lst hf (by omega) h1.1 8, if_pos (by omega), h.eq x a ⟨h1, h2⟩]
theorem cls_rep {l : List OweV} (h : OwOk l) : Rep l (clsOf l) := by
 refine ⟨h, fun x a _ => ?_⟩;have key : ∀ (l : List OweV) (f : Cls), l.Pairwise (fun x y => owB x y = true) → cg (l.foldl (fun f y => updC f y.acc y.asset y.n) f) x a = if (∃ y ∈ l, y.acc = x ∧ y.asset = a) then lok x a l else cg f x a := by
  intro l
  induction l with
  | nil => intro f _; simp
  | cons y l ih =>
   intro f hl;rw [List.pairwise_cons] at hl;rw [List.foldl_cons, ih _ hl.2]
   by_cases e : y.acc = x ∧ y.asset = a
   ·obtain ⟨rfl, rfl⟩ := e;have hb := lok_beyond hl.1;have hn : ¬ ∃ z ∈ l, z.acc = y.acc ∧ z.asset = y.asset := by
     rintro ⟨z, hz, c⟩;have := hl.1 z hz;unfold owB at this;simp only [Bool.or_eq_true, Bool.and_eq_true, decide_eq_true_eq] at this;omega
    rw [if_neg hn, if_pos ⟨y, List.mem_cons_self .., rfl, rfl⟩, lok_cons, if_pos ⟨rfl, rfl⟩, hb]
    simp [cg, updC]
   ·rw [lok_cons, if_neg e];have hc : cg (updC f y.acc y.asset y.n) x a = cg f x a := by
     unfold cg updC;rw [if_neg (fun c => e ⟨c.1.symm, c.2.symm⟩)]
    rw [hc]
    by_cases e2 : ∃ z ∈ l, z.acc = x ∧ z.asset = a
    ·obtain ⟨z, hz, c⟩ := e2;rw [if_pos ⟨z, hz, c⟩, if_pos ⟨z, List.mem_cons_of_mem _ hz, c⟩];omega
    ·rw [if_neg e2, if_neg];rintro ⟨z, hz, c⟩;rw [List.mem_cons] at hz
     rcases hz with rfl | hz
     ·exact e c
     ·exact e2 ⟨z, hz, c⟩
 have := key l (fun _ _ => none) (ow_pairC h.1);unfold clsOf;rw [this]
 split
 ·rfl
 ·rename_i hn
  rw [lok_none (fun y hy c => hn ⟨y, hy, c⟩)]
  rfl
theorem mul_ge1 {a b : Int} (ha : 1 ≤ a) (hb : 1 ≤ b) : 1 ≤ a * b := mul_pos1 ha hb
def stlO (l : List OweV) (xa xp ya p n : Int) : List OweV := oweL ya 0 (p * n) (if p < xp then oweL xa 0 ((xp - p) * n) (oweL xa 1 n l) else oweL xa 1 n l)
theorem rep_stl {l : List OweV} {f : Cls} (h : Rep l f) {xa xp ya p n : Int} (hx : 1 ≤ xa ∧ xa ≤ 8) (hy : 1 ≤ ya ∧ ya ≤ 8) (hp : 1 ≤ p) (hn : 1 ≤ n) : Rep (stlO l xa xp ya p n) (stlC f xa xp ya p n) := by
 unfold stlO stlC;have h1 := rep_add h (x := xa) (a := 1) (n := n) ⟨hx, by omega⟩ hn
 by_cases c : p < xp
 ·rw [if_pos c, if_pos c];exact rep_add (rep_add h1 ⟨hx, by omega⟩ (mul_ge1 (by omega) hn)) ⟨hy, by omega⟩ (mul_ge1 hp hn)
 ·rw [if_neg c, if_neg c];exact rep_add h1 ⟨hy, by omega⟩ (mul_ge1 hp hn)
theorem stl_sum {l : List OweV} {xa xp ya p n : Int} (hp : p ≤ xp) : sumA 0 (stlO l xa xp ya p n) = sumA 0 l + xp * n ∧ sumA 1 (stlO l xa xp ya p n) = sumA 1 l + n := by
 unfold stlO
 by_cases c : p < xp
 ·simp only [if_pos c, sumA_owe];refine ⟨?_, by simp⟩
  simp [Int.sub_mul]
  omega
 ·have e : xp = p := by omega
  rw [if_neg c];simp only [sumA_owe, e]
  exact ⟨by simp, by simp⟩
end Go.Proofs.YtiinigifjdpicaaGreatDoor
namespace Go.Proofs.YtiinigifjdpicaaGreatDoor
open Go.RowKit Go.Maps
set_option linter.all false
set_option maxHeartbeats 8000000 in
set_option maxRecDepth 100000 in
theorem un1_is (mb c : Nat) (f : Cls) (xi xa xp xl yi ya yp yl p n : Int) (KO KP : Nat) (w : World) (h : CM w mb c f) (ho : w.heap[KO]? = some (.cells #[.map (some mb)] 183 (0, 0))) (hpp : w.heap[KP]? = some (.cells #[.int .i64 p] 3 (0, 0))) (hc : c ≤ 1000) (hx : 1 ≤ xa ∧ xa ≤ 8) (hy : 1 ≤ ya ∧ ya ≤ 8) (hn : 0 ≤ n ∧ n ≤ 1000000) (hp : 0 ≤ p ∧ p ≤ 1000000) (hxp : 0 ≤ xp ∧ xp ≤ 1000000) (hf : ∀ x a, 0 ≤ cg f x a ∧ cg f x a ≤ 4000000000000000000) : Calls Tryz.prog 122 #[.agg #[.int .i64 xi, .int .i64 xa, .int .i64 xp, .int .i64 xl], .agg #[.int .i64 yi, .int .i64 ya, .int .i64 yp, .int .i64 yl], .int .i64 n, .pointer (some ⟨KO, 0, none⟩), .pointer (some ⟨KP, 0, none⟩)] w fun e w' => e = .returned (.agg #[.int .i64 xa, .int .i64 ya, .int .i64 p, .int .i64 n]) ∧ CM w' mb (c + 3) (stlC f xa xp ya p n) ∧ Out (fun k => k = mb) w w' := by
 obtain ⟨k1, k2, k3, k4⟩ := three_heap w (.cells #[.int .i64 xi, .int .i64 xa, .int .i64 xp, .int .i64 xl] 115) (.cells #[.int .i64 yi, .int .i64 ya, .int .i64 yp, .int .i64 yl] 115) (.cells #[.int .i64 0, .int .i64 0, .int .i64 0, .int .i64 0] 106);have hb3 := below3 w (.cells #[.int .i64 xi, .int .i64 xa, .int .i64 xp, .int .i64 xl] 115) (.cells #[.int .i64 yi, .int .i64 ya, .int .i64 yp, .int .i64 yl] 115) (.cells #[.int .i64 0, .int .i64 0, .int .i64 0, .int .i64 0] 106);have hlt := h.lt;have lO := (Array.getElem?_eq_some_iff.1 ho).1;have lP := (Array.getElem?_eq_some_iff.1 hpp).1;have nO : KO ≠ mb := by
  rintro rfl;obtain ⟨n', D, -, ⟨es, clock, hb, -⟩, -⟩ := h;rw [hb] at ho;cases ho
 have nP : KP ≠ mb := by
  rintro rfl;obtain ⟨n', D, -, ⟨es, clock, hb, -⟩, -⟩ := h;rw [hb] at hpp;cases hpp
 have HST := hideIt (aSettle_is mb c f xi xa xp xl yi ya yp yl p n _ (h.keep hb3) hc hx hy hn hp hxp hf);have HO := hideIt ((hb3.block _ lO).trans ho);have HP := hideIt ((hb3.block _ lP).trans hpp);have HB3 := hideIt hb3;have K1 := hideIt k1;have K2 := hideIt k2;have K3 := hideIt k3;clear k1 k2 k3 hb3 ho hpp h
 go_enter Tryz.func122, Tryz.ntmps122
 go_upto_region 1 with fail
 generalize ((w.alloc (.cells #[.int .i64 xi, .int .i64 xa, .int .i64 xp, .int .i64 xl] 115)).alloc (.cells #[.int .i64 yi, .int .i64 ya, .int .i64 yp, .int .i64 yl] 115)).alloc (.cells #[.int .i64 0, .int .i64 0, .int .i64 0, .int .i64 0] 106) = W0 at *;have o0 : W0.cell? ⟨KO, 0, none⟩ = some (.map (some mb)) := by rw [cell_at HO.out]; rfl
 have oz : KO < W0.heap.size := (Array.getElem?_eq_some_iff.1 HO.out).1;have p0 : W0.cell? ⟨KP, 0, none⟩ = some (.int .i64 p) := by rw [cell_at HP.out]; rfl
 have pz : KP < W0.heap.size := (Array.getElem?_eq_some_iff.1 HP.out).1;obtain ⟨⟨a0, a1, a2, a3⟩, -, az⟩ := four_at5 K1.out;obtain ⟨⟨b0, b1, b2, b3⟩, -, bz⟩ := four_at5 K2.out
 go_wp2_with fail
 refine HST.out.mono ?_;rintro e w2 ⟨rfl, hM, hO⟩;dsimp only;have M2 := hideIt hM;have O2 := hideIt hO;have k1 := (hO.block w.heap.size (by omega) (by omega)).trans K1.out;have k2 := (hO.block (w.heap.size + 1) (by omega) (by omega)).trans K2.out;have k3 := (hO.block (w.heap.size + 2) (by omega) (by omega)).trans K3.out;have kp := (hO.block KP pz nP).trans HP.out;clear hM hO o0 oz p0 pz a0 a1 a2 a3 az b0 b1 b2 b3 bz HST HO HP K1 K2 K3;obtain ⟨⟨a0, a1, a2, a3⟩, -, az⟩ := four_at5 k1;obtain ⟨⟨b0, b1, b2, b3⟩, -, bz⟩ := four_at5 k2;obtain ⟨⟨d0, d1, d2, d3⟩, df, dz⟩ := four_at5 k3;have p0 : w2.cell? ⟨KP, 0, none⟩ = some (.int .i64 p) := by rw [cell_at kp]; rfl
 have pz : KP < w2.heap.size := (Array.getElem?_eq_some_iff.1 kp).1;have PT := hideIt (put4 w2 (w.heap.size + 2) 106 (.int .i64 xa) (.int .i64 ya) (.int .i64 p) (.int .i64 n) k3);have FN : Hid (CM ((((w2.setCell ⟨w.heap.size + 2, 0, none⟩ (.int .i64 xa)).setCell ⟨w.heap.size + 2, 1, none⟩ (.int .i64 ya)).setCell ⟨w.heap.size + 2, 2, none⟩ (.int .i64 p)).setCell ⟨w.heap.size + 2, 3, none⟩ (.int .i64 n)) mb (c + 3) (stlC f xa xp ya p n) ∧ Out (fun k => k = mb) w ((((w2.setCell ⟨w.heap.size + 2, 0, none⟩ (.int .i64 xa)).setCell ⟨w.heap.size + 2, 1, none⟩ (.int .i64 ya)).setCell ⟨w.heap.size + 2, 2, none⟩ (.int .i64 p)).setCell ⟨w.heap.size + 2, 3, none⟩ (.int .i64 n))) := by
  have hne : mb ≠ w.heap.size + 2 := by omega
  refine ⟨M2.out.block (setOther _ (setOther _ (setOther _ (setOther _ rfl hne) hne) hne) hne), ?_⟩;have h1 : Out (fun k => k = mb) w w2 := (Out.ofBelow HB3.out).trans O2.out (fun _ _ h => h);have hs : ∀ (W : World) (j : Nat) (v : Value), Out (fun k => k = mb) w W → Out (fun k => k = mb) w (W.setCell ⟨w.heap.size + 2, j, none⟩ v) := fun W j v hW => hW.trans (Out.ofSet (F := fun k => k = w.heap.size + 2) W ⟨w.heap.size + 2, j, none⟩ v rfl) (fun i hi e => by omega)
  exact hs _ _ _ (hs _ _ _ (hs _ _ _ (hs _ _ _ h1)))
 clear M2 O2 HB3;go_wp2
 revert PT FN
 generalize (World.setCell _ ⟨w.heap.size + 2, 3, none⟩ _) = WF;intro PT FN;exact bodyPost_ret (v := .agg #[.int .i64 xa, .int .i64 ya, .int .i64 p, .int .i64 n]) (by simp [results, Tryz.results122, go_sem, cell_at PT.out]) rfl ⟨rfl, FN.out⟩
def zLn : LaneV := ⟨false, 0, [], [], []⟩
def calR (L : LaneV) : LaneV × Int := if rfE L false = 0 then (⟨true, L.next, L.bids, L.asks, L.owed⟩, 0) else (zLn, rfE L false)
def CaB (X : LaneV × Int) (w : World) (e : Ending) (w' : World) : Prop := ∃ b a o, e = .returned (.tuple #[laneV X.1 b a o, .int .i64 X.2]) ∧ w'.ownsRow w.heap.size 115 4 b X.1.bids.length (celC ordE X.1.bids) ∧ w'.ownsRow w.heap.size 115 4 a X.1.asks.length (celC ordE X.1.asks) ∧ w'.ownsRow w.heap.size 61 3 o X.1.owed.length (celC oweE X.1.owed) ∧ Below w.heap.size w w'
set_option maxHeartbeats 16000000 in
set_option maxRecDepth 100000 in
theorem call_is (L : LaneV) (b a o : Value) (w : World) (h : Lan w L b a o) : Calls Tryz.prog 81 #[laneV L b a o] w (CaB (calR L) w) := by
  have X0 := hideIt (CB.first w L b a o);have HC := hideIt (aRefused_is L b a o false _ (h.keep X0.out.bel));have HCB := hideIt (fun W (hW : Below w.heap.size w W) => cloneO_is b L.bids W (h.keep hW).bids);have HCA := hideIt (fun W (hW : Below w.heap.size w W) => cloneO_is a L.asks W (h.keep hW).asks);have HCO := hideIt (fun W (hW : Below w.heap.size w W) => cloneW_is o L.owed W (h.keep hW).owed);obtain ⟨ba, bc, rfl⟩ := h.bids.slice;obtain ⟨aa, ac, rfl⟩ := h.asks.slice;obtain ⟨oa, oc, rfl⟩ := h.owed.slice;clear h
  by_cases h0 : rfE L false = 0
  · have HR : Hid (calR L = (⟨true, L.next, L.bids, L.asks, L.owed⟩, 0)) := by show _ = _; unfold calR; rw [if_pos h0]
    rw [h0] at HC;generalize calR L = RX at *;unfold laneV laneA at *;obtain ⟨cl, nx, bids, asks, owed⟩ := L;simp only at *;clear h0
    go_enter Tryz.func81, Tryz.ntmps81
    go_wp2_with fail
    refine HC.out.mono ?_;rintro e w1 ⟨rfl, hb⟩;dsimp only
    · have X1 := hideIt (X0.out.keep hb)
      clear hb X0 HC;obtain ⟨x0, x1, x2, x3, x4⟩ := X1.out.cells;obtain ⟨⟨r0, r1, r2, r3, r4⟩, rf, rl⟩ := five5_at X1.out.res;simp only at x0 x1 x2 x3 x4;have z2 : w.heap.size < w1.heap.size := by have := X1.out.size; omega
      have HB2 : Hid (∀ W, Below w1.heap.size w1 W → Calls Tryz.prog 72 #[.slice ba bids.length bc] W fun e w' => ∃ q k, e = .returned (.slice q bids.length k) ∧ Hid (w'.ownsRow (w.heap.size + 2) 115 4 (.slice q bids.length k) bids.length (celC ordE bids) ∧ Below W.heap.size W w') ∧ Hid (Below w1.heap.size w1 w') ∧ (w'.cell? ⟨w.heap.size, 1, none⟩ = some (.int .i64 nx) ∧ w'.cell? ⟨w.heap.size, 2, none⟩ = some (.slice ba bids.length bc) ∧ w'.cell? ⟨w.heap.size, 3, none⟩ = some (.slice aa asks.length ac) ∧ w'.cell? ⟨w.heap.size, 4, none⟩ = some (.slice oa owed.length oc)) ∧ w.heap.size < w'.heap.size ∧ (w'.cell? ⟨w.heap.size + 1, 0, none⟩ = some (.bool false) ∧ w'.cell? ⟨w.heap.size + 1, 1, none⟩ = some (.int .i64 0) ∧ w'.cell? ⟨w.heap.size + 1, 2, none⟩ = some (.slice none 0 0) ∧ w'.cell? ⟨w.heap.size + 1, 3, none⟩ = some (.slice none 0 0) ∧ w'.cell? ⟨w.heap.size + 1, 4, none⟩ = some (.slice none 0 0)) ∧ (∀ j, w'.frozen? ⟨w.heap.size + 1, j, none⟩ = false) ∧ w.heap.size + 1 < w'.heap.size) := by
        intro W hW;have hX := X1.out.keep hW;refine (HCB.out W hX.bel).mono ?_;rintro e w' ⟨v', rfl, ho, hb⟩;obtain ⟨q, k, rfl⟩ := own_len ho;have hX' := hX.keep hb;obtain ⟨-, y1, y2, y3, y4⟩ := hX'.cells;obtain ⟨⟨s0, s1, s2, s3, s4⟩, sf, sz⟩ := five5_at hX'.res
        exact ⟨q, k, rfl, ⟨own_base ho hX.size, hb⟩, below_via hW hb, ⟨y1, y2, y3, y4⟩, by have := hX'.size; omega, ⟨s0, s1, s2, s3, s4⟩, sf, sz⟩
      have HA2 : Hid (∀ W, Below w1.heap.size w1 W → Calls Tryz.prog 72 #[.slice aa asks.length ac] W fun e w' => ∃ q k, e = .returned (.slice q asks.length k) ∧ Hid (w'.ownsRow (w.heap.size + 2) 115 4 (.slice q asks.length k) asks.length (celC ordE asks) ∧ Below W.heap.size W w') ∧ Hid (Below w1.heap.size w1 w') ∧ (w'.cell? ⟨w.heap.size, 1, none⟩ = some (.int .i64 nx) ∧ w'.cell? ⟨w.heap.size, 2, none⟩ = some (.slice ba bids.length bc) ∧ w'.cell? ⟨w.heap.size, 3, none⟩ = some (.slice aa asks.length ac) ∧ w'.cell? ⟨w.heap.size, 4, none⟩ = some (.slice oa owed.length oc)) ∧ w.heap.size < w'.heap.size ∧ (w'.cell? ⟨w.heap.size + 1, 0, none⟩ = some (.bool false) ∧ w'.cell? ⟨w.heap.size + 1, 1, none⟩ = some (.int .i64 0) ∧ w'.cell? ⟨w.heap.size + 1, 2, none⟩ = some (.slice none 0 0) ∧ w'.cell? ⟨w.heap.size + 1, 3, none⟩ = some (.slice none 0 0) ∧ w'.cell? ⟨w.heap.size + 1, 4, none⟩ = some (.slice none 0 0)) ∧ (∀ j, w'.frozen? ⟨w.heap.size + 1, j, none⟩ = false) ∧ w.heap.size + 1 < w'.heap.size) := by
        intro W hW;have hX := X1.out.keep hW;refine (HCA.out W hX.bel).mono ?_;rintro e w' ⟨v', rfl, ho, hb⟩;obtain ⟨q, k, rfl⟩ := own_len ho;have hX' := hX.keep hb;obtain ⟨-, y1, y2, y3, y4⟩ := hX'.cells;obtain ⟨⟨s0, s1, s2, s3, s4⟩, sf, sz⟩ := five5_at hX'.res
        exact ⟨q, k, rfl, ⟨own_base ho hX.size, hb⟩, below_via hW hb, ⟨y1, y2, y3, y4⟩, by have := hX'.size; omega, ⟨s0, s1, s2, s3, s4⟩, sf, sz⟩
      have HO2 : Hid (∀ W, Below w1.heap.size w1 W → Calls Tryz.prog 73 #[.slice oa owed.length oc] W fun e w' => ∃ q k, e = .returned (.slice q owed.length k) ∧ Hid (w'.ownsRow (w.heap.size + 2) 61 3 (.slice q owed.length k) owed.length (celC oweE owed) ∧ Below W.heap.size W w') ∧ Hid (Below w1.heap.size w1 w') ∧ (w'.cell? ⟨w.heap.size, 1, none⟩ = some (.int .i64 nx) ∧ w'.cell? ⟨w.heap.size, 2, none⟩ = some (.slice ba bids.length bc) ∧ w'.cell? ⟨w.heap.size, 3, none⟩ = some (.slice aa asks.length ac) ∧ w'.cell? ⟨w.heap.size, 4, none⟩ = some (.slice oa owed.length oc)) ∧ w.heap.size < w'.heap.size ∧ (w'.cell? ⟨w.heap.size + 1, 0, none⟩ = some (.bool false) ∧ w'.cell? ⟨w.heap.size + 1, 1, none⟩ = some (.int .i64 0) ∧ w'.cell? ⟨w.heap.size + 1, 2, none⟩ = some (.slice none 0 0) ∧ w'.cell? ⟨w.heap.size + 1, 3, none⟩ = some (.slice none 0 0) ∧ w'.cell? ⟨w.heap.size + 1, 4, none⟩ = some (.slice none 0 0)) ∧ (∀ j, w'.frozen? ⟨w.heap.size + 1, j, none⟩ = false) ∧ w.heap.size + 1 < w'.heap.size) := by
        intro W hW;have hX := X1.out.keep hW;refine (HCO.out W hX.bel).mono ?_;rintro e w' ⟨v', rfl, ho, hb⟩;obtain ⟨q, k, rfl⟩ := own_len ho;have hX' := hX.keep hb;obtain ⟨-, y1, y2, y3, y4⟩ := hX'.cells;obtain ⟨⟨s0, s1, s2, s3, s4⟩, sf, sz⟩ := five5_at hX'.res
        exact ⟨q, k, rfl, ⟨own_base ho hX.size, hb⟩, below_via hW hb, ⟨y1, y2, y3, y4⟩, by have := hX'.size; omega, ⟨s0, s1, s2, s3, s4⟩, sf, sz⟩
      clear HCB HCA HCO;have nr : w.heap.size ≠ w.heap.size + 1 := by omega
      clear x0
      go_upto_region 4 with fail
      go_region_held3 (fun W => W.cell? ⟨w.heap.size, 1, none⟩ = some (.int .i64 nx) ∧ W.cell? ⟨w.heap.size, 2, none⟩ = some (.slice ba bids.length bc) ∧ W.cell? ⟨w.heap.size, 3, none⟩ = some (.slice aa asks.length ac) ∧ W.cell? ⟨w.heap.size, 4, none⟩ = some (.slice oa owed.length oc)) (go_keep) (first | (go_at_call 72; refine (HB2.out _ (by first | exact Below.refl _ _ | exact (Below.refl _ _).drew | exact HWA.out | exact HWO.out)).mono ?_; rintro e wB ⟨qB, mB, rfl, HQB, HWB, ⟨i1B, i2B, i3B, i4B⟩, izB, ⟨s0B, s1B, s2B, s3B, s4B⟩, sfB, szB⟩; clear HB2) | (go_at_call 72; refine (HA2.out _ (by first | exact Below.refl _ _ | exact (Below.refl _ _).drew | exact HWB.out | exact HWO.out)).mono ?_; rintro e wA ⟨qA, mA, rfl, HQA, HWA, ⟨i1A, i2A, i3A, i4A⟩, izA, ⟨s0A, s1A, s2A, s3A, s4A⟩, sfA, szA⟩; clear HA2) | (go_at_call 73; refine (HO2.out _ (by first | exact Below.refl _ _ | exact (Below.refl _ _).drew | exact HWA.out | exact HWB.out)).mono ?_; rintro e wO ⟨qO, mO, rfl, HQO, HWO, ⟨i1O, i2O, i3O, i4O⟩, izO, ⟨s0O, s1O, s2O, s3O, s4O⟩, sfO, szO⟩; clear HO2))
      all_goals
        first
        | (have XF := hideIt (X1.out.keep HWO.out)
           have HPT := hideIt (XF.out.put (.bool true) (.int .i64 nx) (.slice qB bids.length mB) (.slice qA asks.length mA) (.slice qO owed.length mO));have HRW := hideIt (And.intro (own_five (own_keep (own_keep HQB.out.1 HQA.out.2) HQO.out.2) XF.out.res (by decide) (.bool true) (.int .i64 nx) (.slice qB bids.length mB) (.slice qA asks.length mA) (.slice qO owed.length mO)) (And.intro (own_five (own_keep HQA.out.1 HQO.out.2) XF.out.res (by decide) (.bool true) (.int .i64 nx) (.slice qB bids.length mB) (.slice qA asks.length mA) (.slice qO owed.length mO)) (own_five HQO.out.1 XF.out.res (by decide) (.bool true) (.int .i64 nx) (.slice qB bids.length mB) (.slice qA asks.length mA) (.slice qO owed.length mO))));clear XF X1 HQB HQA HQO;go_wp2
           revert HPT HRW
           generalize (World.setCell _ ⟨w.heap.size + 1, 4, none⟩ _) = WF;intro HPT HRW;exact bodyPost_ret (v := .tuple #[.agg #[.bool true, .int .i64 nx, .slice qB bids.length mB, .slice qA asks.length mA, .slice qO owed.length mO], .int .i64 0]) (by simp [results, Tryz.results81, go_sem, cell_at HPT.out.1, laneA]) rfl (by unfold CaB; rw [HR.out]; exact ⟨_, _, _, rfl, own_base HRW.out.1 (by omega), own_base HRW.out.2.1 (by omega), own_base HRW.out.2.2 (by omega), by first | exact HPT.out.2 | exact HPT.out.2.drew⟩))
        | (have XF := hideIt (X1.out.keep HWA.out)
           have HPT := hideIt (XF.out.put (.bool true) (.int .i64 nx) (.slice qB bids.length mB) (.slice qA asks.length mA) (.slice qO owed.length mO));have HRW := hideIt (And.intro (own_five (own_keep (own_keep HQB.out.1 HQO.out.2) HQA.out.2) XF.out.res (by decide) (.bool true) (.int .i64 nx) (.slice qB bids.length mB) (.slice qA asks.length mA) (.slice qO owed.length mO)) (And.intro (own_five HQA.out.1 XF.out.res (by decide) (.bool true) (.int .i64 nx) (.slice qB bids.length mB) (.slice qA asks.length mA) (.slice qO owed.length mO)) (own_five (own_keep HQO.out.1 HQA.out.2) XF.out.res (by decide) (.bool true) (.int .i64 nx) (.slice qB bids.length mB) (.slice qA asks.length mA) (.slice qO owed.length mO))));clear XF X1 HQB HQA HQO;go_wp2
           revert HPT HRW
           generalize (World.setCell _ ⟨w.heap.size + 1, 4, none⟩ _) = WF;intro HPT HRW;exact bodyPost_ret (v := .tuple #[.agg #[.bool true, .int .i64 nx, .slice qB bids.length mB, .slice qA asks.length mA, .slice qO owed.length mO], .int .i64 0]) (by simp [results, Tryz.results81, go_sem, cell_at HPT.out.1, laneA]) rfl (by unfold CaB; rw [HR.out]; exact ⟨_, _, _, rfl, own_base HRW.out.1 (by omega), own_base HRW.out.2.1 (by omega), own_base HRW.out.2.2 (by omega), by first | exact HPT.out.2 | exact HPT.out.2.drew⟩))
        | (have XF := hideIt (X1.out.keep HWO.out)
           have HPT := hideIt (XF.out.put (.bool true) (.int .i64 nx) (.slice qB bids.length mB) (.slice qA asks.length mA) (.slice qO owed.length mO));have HRW := hideIt (And.intro (own_five (own_keep HQB.out.1 HQO.out.2) XF.out.res (by decide) (.bool true) (.int .i64 nx) (.slice qB bids.length mB) (.slice qA asks.length mA) (.slice qO owed.length mO)) (And.intro (own_five (own_keep (own_keep HQA.out.1 HQB.out.2) HQO.out.2) XF.out.res (by decide) (.bool true) (.int .i64 nx) (.slice qB bids.length mB) (.slice qA asks.length mA) (.slice qO owed.length mO)) (own_five HQO.out.1 XF.out.res (by decide) (.bool true) (.int .i64 nx) (.slice qB bids.length mB) (.slice qA asks.length mA) (.slice qO owed.length mO))));clear XF X1 HQB HQA HQO;go_wp2
           revert HPT HRW
           generalize (World.setCell _ ⟨w.heap.size + 1, 4, none⟩ _) = WF;intro HPT HRW;exact bodyPost_ret (v := .tuple #[.agg #[.bool true, .int .i64 nx, .slice qB bids.length mB, .slice qA asks.length mA, .slice qO owed.length mO], .int .i64 0]) (by simp [results, Tryz.results81, go_sem, cell_at HPT.out.1, laneA]) rfl (by unfold CaB; rw [HR.out]; exact ⟨_, _, _, rfl, own_base HRW.out.1 (by omega), own_base HRW.out.2.1 (by omega), own_base HRW.out.2.2 (by omega), by first | exact HPT.out.2 | exact HPT.out.2.drew⟩))
        | (have XF := hideIt (X1.out.keep HWB.out)
           have HPT := hideIt (XF.out.put (.bool true) (.int .i64 nx) (.slice qB bids.length mB) (.slice qA asks.length mA) (.slice qO owed.length mO));have HRW := hideIt (And.intro (own_five HQB.out.1 XF.out.res (by decide) (.bool true) (.int .i64 nx) (.slice qB bids.length mB) (.slice qA asks.length mA) (.slice qO owed.length mO)) (And.intro (own_five (own_keep (own_keep HQA.out.1 HQO.out.2) HQB.out.2) XF.out.res (by decide) (.bool true) (.int .i64 nx) (.slice qB bids.length mB) (.slice qA asks.length mA) (.slice qO owed.length mO)) (own_five (own_keep HQO.out.1 HQB.out.2) XF.out.res (by decide) (.bool true) (.int .i64 nx) (.slice qB bids.length mB) (.slice qA asks.length mA) (.slice qO owed.length mO))));clear XF X1 HQB HQA HQO;go_wp2
           revert HPT HRW
           generalize (World.setCell _ ⟨w.heap.size + 1, 4, none⟩ _) = WF;intro HPT HRW;exact bodyPost_ret (v := .tuple #[.agg #[.bool true, .int .i64 nx, .slice qB bids.length mB, .slice qA asks.length mA, .slice qO owed.length mO], .int .i64 0]) (by simp [results, Tryz.results81, go_sem, cell_at HPT.out.1, laneA]) rfl (by unfold CaB; rw [HR.out]; exact ⟨_, _, _, rfl, own_base HRW.out.1 (by omega), own_base HRW.out.2.1 (by omega), own_base HRW.out.2.2 (by omega), by first | exact HPT.out.2 | exact HPT.out.2.drew⟩))
        | (have XF := hideIt (X1.out.keep HWA.out)
           have HPT := hideIt (XF.out.put (.bool true) (.int .i64 nx) (.slice qB bids.length mB) (.slice qA asks.length mA) (.slice qO owed.length mO));have HRW := hideIt (And.intro (own_five (own_keep HQB.out.1 HQA.out.2) XF.out.res (by decide) (.bool true) (.int .i64 nx) (.slice qB bids.length mB) (.slice qA asks.length mA) (.slice qO owed.length mO)) (And.intro (own_five HQA.out.1 XF.out.res (by decide) (.bool true) (.int .i64 nx) (.slice qB bids.length mB) (.slice qA asks.length mA) (.slice qO owed.length mO)) (own_five (own_keep (own_keep HQO.out.1 HQB.out.2) HQA.out.2) XF.out.res (by decide) (.bool true) (.int .i64 nx) (.slice qB bids.length mB) (.slice qA asks.length mA) (.slice qO owed.length mO))));clear XF X1 HQB HQA HQO;go_wp2
           revert HPT HRW
           generalize (World.setCell _ ⟨w.heap.size + 1, 4, none⟩ _) = WF;intro HPT HRW;exact bodyPost_ret (v := .tuple #[.agg #[.bool true, .int .i64 nx, .slice qB bids.length mB, .slice qA asks.length mA, .slice qO owed.length mO], .int .i64 0]) (by simp [results, Tryz.results81, go_sem, cell_at HPT.out.1, laneA]) rfl (by unfold CaB; rw [HR.out]; exact ⟨_, _, _, rfl, own_base HRW.out.1 (by omega), own_base HRW.out.2.1 (by omega), own_base HRW.out.2.2 (by omega), by first | exact HPT.out.2 | exact HPT.out.2.drew⟩))
        | (have XF := hideIt (X1.out.keep HWB.out)
           have HPT := hideIt (XF.out.put (.bool true) (.int .i64 nx) (.slice qB bids.length mB) (.slice qA asks.length mA) (.slice qO owed.length mO));have HRW := hideIt (And.intro (own_five HQB.out.1 XF.out.res (by decide) (.bool true) (.int .i64 nx) (.slice qB bids.length mB) (.slice qA asks.length mA) (.slice qO owed.length mO)) (And.intro (own_five (own_keep HQA.out.1 HQB.out.2) XF.out.res (by decide) (.bool true) (.int .i64 nx) (.slice qB bids.length mB) (.slice qA asks.length mA) (.slice qO owed.length mO)) (own_five (own_keep (own_keep HQO.out.1 HQA.out.2) HQB.out.2) XF.out.res (by decide) (.bool true) (.int .i64 nx) (.slice qB bids.length mB) (.slice qA asks.length mA) (.slice qO owed.length mO))));clear XF X1 HQB HQA HQO;go_wp2
           revert HPT HRW
           generalize (World.setCell _ ⟨w.heap.size + 1, 4, none⟩ _) = WF;intro HPT HRW;exact bodyPost_ret (v := .tuple #[.agg #[.bool true, .int .i64 nx, .slice qB bids.length mB, .slice qA asks.length mA, .slice qO owed.length mO], .int .i64 0]) (by simp [results, Tryz.results81, go_sem, cell_at HPT.out.1, laneA]) rfl (by unfold CaB; rw [HR.out]; exact ⟨_, _, _, rfl, own_base HRW.out.1 (by omega), own_base HRW.out.2.1 (by omega), own_base HRW.out.2.2 (by omega), by first | exact HPT.out.2 | exact HPT.out.2.drew⟩))
  · have HR : Hid (calR L = (zLn, rfE L false)) := by show _ = _; unfold calR; rw [if_neg h0]
    generalize calR L = RX at *;generalize rfE L false = er at *;have h0q : (er == 0) = false := by simpa using h0
    unfold laneV laneA at *;obtain ⟨cl, nx, bids, asks, owed⟩ := L;simp only at *;clear HCB HCA HCO
    go_enter Tryz.func81, Tryz.ntmps81
    go_wp2_with fail
    refine HC.out.mono ?_;rintro e w1 ⟨rfl, hb⟩;dsimp only;have X1 := hideIt (X0.out.keep hb);clear hb X0 HC;obtain ⟨⟨r0, r1, r2, r3, r4⟩, rf, rl⟩ := five5_at X1.out.res;have HP := hideIt (X1.out.put (.bool false) (.int .i64 0) (.slice none 0 0) (.slice none 0 0) (.slice none 0 0));go_wp2
    revert HP
    generalize (World.setCell _ ⟨w.heap.size + 1, 4, none⟩ _) = W;intro HP;exact bodyPost_ret (v := .tuple #[laneV zLn (.slice none 0 0) (.slice none 0 0) (.slice none 0 0), .int .i64 er]) (by simp [results, Tryz.results81, go_sem, cell_at HP.out.1, laneV, laneA, zLn]) rfl (by unfold CaB; rw [HR.out]; exact ⟨_, _, _, rfl, own_nil _ _, own_nil _ _, own_nil _ _, HP.out.2⟩)
end Go.Proofs.YtiinigifjdpicaaGreatDoor
namespace Go.Proofs.YtiinigifjdpicaaGreatDoor
open Go.RowKit Go.Maps
set_option linter.all false
theorem own_cells3 {w : World} {B n : Nat} {e : TypeId} {z : Nat} {v : Value} {xs : List Value} (h : w.ownsRow B e z v n xs) (hn : 0 < n) : ∃ g c, v = .slice (some ⟨g, 0, none⟩) n c ∧ g < w.heap.size ∧ ∀ j u, xs[j]? = some u → w.cell? ⟨g, j, none⟩ = some u := by
 have hc := fun g hg => h.cells (g := g) hg
 obtain ⟨h1, ⟨rfl, h0⟩ | ⟨g, cap, cur, rfl, hB, hg, r⟩⟩ := h
 ·omega
 ·refine ⟨g, cap, rfl, (Array.getElem?_eq_some_iff.1 hg).1, fun j u hu => ?_⟩;have := hc g rfl j u hu
  rwa [addN, Nat.zero_add] at this
structure TX (w : World) (mb c : Nat) (f : Cls) (B A : List OrdV) (F : List FillV) (b a u : Value) (W : World) : Prop where
 rb : W.ownsRow w.heap.size 115 4 b B.length (celC ordE B)
 ra : W.ownsRow w.heap.size 115 4 a A.length (celC ordE A)
 ru : W.ownsRow w.heap.size 106 4 u F.length (celC filE F)
 ne : b.ownBlock = none ∨ b.ownBlock ≠ a.ownBlock
 cm : CM W mb c f
 out : Out (fun k => k = mb) w W
 lt : mb < w.heap.size
theorem TX.keep {w W W' : World} {mb c : Nat} {f : Cls} {B A : List OrdV} {F : List FillV} {b a u : Value} (h : TX w mb c f B A F b a u W) (hb : Below W.heap.size W W') : TX w mb c f B A F b a u W' :=
 ⟨own_keep h.rb hb, own_keep h.ra hb, own_keep h.ru hb, h.ne, h.cm.keep hb, h.out.trans (Out.ofBelow hb) (fun _ _ h => h), h.lt⟩
theorem TX.call {w W W2 : World} {mb c c2 : Nat} {f f2 : Cls} {B A : List OrdV} {F : List FillV} {b a u : Value} (h : TX w mb c f B A F b a u W) (hM : CM W2 mb c2 f2) (hO : Out (fun k => k = mb) W W2) : TX w mb c2 f2 B A F b a u W2 :=
 have hl : ∀ k, k = mb → k < w.heap.size := fun k e => by rw [e]; exact h.lt
 ⟨own_out h.rb hO hl, own_out h.ra hO hl, own_out h.ru hO hl, h.ne, hM, h.out.trans hO (fun _ _ h => h), h.lt⟩
theorem row_block {w : World} {B n k : Nat} {e : TypeId} {z : Nat} {v : Value} {xs : List Value} (h : w.ownsRow B e z v n xs) (hk : v.ownBlock = some k) : B ≤ k := (h.lt k hk).1
theorem TX.app {w W : World} {mb c : Nat} {f : Cls} {B A : List OrdV} {F : List FillV} {b a u : Value} (h : TX w mb c f B A F b a u W) (x : FillV) (hl : F.length ≤ 1000) : ∃ a' c' w', (Builtin.append_ #[34, 34] 34 #[u, .slice (some ⟨W.heap.size, 0, none⟩) 1 1]).run Tryz.prog (W.alloc (.cells (filE x).toArray 106)) = .ok (.slice a' (F.length + 1) c') w' ∧ TX w mb c f B A (F ++ [x]) b a (.slice a' (F.length + 1) c') w' := by
 have hb := below1 W (.cells (filE x).toArray 106);have h1 := h.keep hb;obtain ⟨v', w', hrun, how, hgr⟩ := app1 (enc := filE) (t := 34) filK fil1 Tryz.underlying34 info39 rfl (by omega) (W.alloc (.cells (filE x).toArray 106)) w.heap.size u F x W.heap.size 1 h1.out.size h1.ru (heap_alloc_new W _) (by omega) (by unfold maxLen; omega)
 obtain ⟨a', c', rfl⟩ := own_len how;have hlen : (F ++ [x]).length = F.length + 1 := by simp
 rw [hlen] at hrun how;have hmb : ∀ k, u.ownBlock = some k → k ≠ mb := fun k hk e => by have := row_block h1.ru hk; have := h1.lt; omega
 refine ⟨a', c', w', hrun, own_type hgr h1.ru h1.rb (by decide), own_type hgr h1.ru h1.ra (by decide), by rw [hlen]; exact how, h1.ne, h1.cm.block (hgr.block mb h1.cm.lt (fun e => hmb mb e.symm rfl)), h1.out.trans (Out.ofGrown (F := fun k => w.heap.size ≤ k) hgr (fun k hk => row_block h1.ru hk)) (fun i hi e => by omega), h1.lt⟩
theorem TX.takB {w W W' : World} {mb c : Nat} {f : Cls} {B A B' : List OrdV} {F : List FillV} {b a u b' : Value} (h : TX w mb c f B A F b a u W) (ho : W'.ownsRow w.heap.size 115 4 b' B'.length (celC ordE B')) (hg : W.grownBy W' b.ownBlock) (he : b'.ownBlock = b.ownBlock) : TX w mb c f B' A F b' a u W' := by
 have hmb : ∀ k, b.ownBlock = some k → k ≠ mb := fun k hk e => by have := row_block h.rb hk; have := h.lt; omega
 refine ⟨ho, h.ra.kept hg ?_, own_type hg h.rb h.ru (by decide), by rw [he]; exact h.ne, h.cm.block (hg.block mb h.cm.lt (fun e => hmb mb e.symm rfl)), h.out.trans (Out.ofGrown (F := fun k => w.heap.size ≤ k) hg (fun k hk => row_block h.rb hk)) (fun i hi e => by omega), h.lt⟩
 rcases h.ne with e | e
 ·cases ha : a.ownBlock
  ·exact .inl rfl
  ·refine .inr ?_;rw [e]
   simp
 ·exact .inr (fun e' => e e'.symm)
theorem TX.takA {w W W' : World} {mb c : Nat} {f : Cls} {B A A' : List OrdV} {F : List FillV} {b a u a' : Value} (h : TX w mb c f B A F b a u W) (ho : W'.ownsRow w.heap.size 115 4 a' A'.length (celC ordE A')) (hg : W.grownBy W' a.ownBlock) (he : a'.ownBlock = a.ownBlock) : TX w mb c f B A' F b a' u W' := by
 have hmb : ∀ k, a.ownBlock = some k → k ≠ mb := fun k hk e => by have := row_block h.ra hk; have := h.lt; omega
 exact ⟨h.rb.kept hg h.ne, ho, own_type hg h.ra h.ru (by decide), by rw [he]; exact h.ne, h.cm.block (hg.block mb h.cm.lt (fun e => hmb mb e.symm rfl)), h.out.trans (Out.ofGrown (F := fun k => w.heap.size ≤ k) hg (fun k hk => row_block h.ra hk)) (fun i hi e => by omega), h.lt⟩
end Go.Proofs.YtiinigifjdpicaaGreatDoor
