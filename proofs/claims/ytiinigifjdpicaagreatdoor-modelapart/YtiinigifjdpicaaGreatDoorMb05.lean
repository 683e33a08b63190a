/- Texts of my own, laid together. -/
import Derived.Test.YtiinigifjdpicaaGreatDoorMb00
import Derived.Test.YtiinigifjdpicaaGreatDoorMb01
import Derived.Test.YtiinigifjdpicaaGreatDoorMb04
namespace Go.Proofs.YtiinigifjdpicaaGreatDoor
open Go.RowKit
set_option linter.all false
abbrev AmtV := Lg.AmtV
abbrev AccV := Lg.AccV
def amtE (e : AmtV) : List Value := [.int .i64 e.k, .int .i64 e.n]
theorem amtK (x : AmtV) : (amtE x).length = 2 := rfl
theorem amt1 (x : AmtV) : ∀ u ∈ amtE x, u.oneCell' = true := by
 intro u hu;simp only [amtE, List.mem_cons, List.not_mem_nil, or_false] at hu
 rcases hu with rfl | rfl <;> rfl
abbrev Amts (w : World) (v : Value) (l : List AmtV) : Prop := SGot 2 16 amtE w v l
theorem infoAmt : (Tryz.prog.info? 53).map (fun i => (i.zero, i.size, i.bytes)) = some (some (.agg #[.int .i64 0, .int .i64 0]), 2, 16) := by kernel_rfl
theorem infoAcc : (Tryz.prog.info? 44).map (fun i => (i.zero, i.size, i.bytes)) = some (some (.agg #[.slice none 0 0, .int .i64 0]), 2, 32) := by kernel_rfl
theorem infoLan : (Tryz.prog.info? 59).map (fun i => (i.zero, i.size, i.bytes)) = some (some (.agg #[.bool false, .int .i64 0, .slice none 0 0, .slice none 0 0, .slice none 0 0]), 5, 88) := by kernel_rfl
structure AccX where
 v : AccV
 fa : Option Addr
 fc : Nat
def accE (c : AccX) : List Value := [.slice c.fa c.v.l.length c.fc, .int .i64 c.v.ct]
theorem accK (c : AccX) : (accE c).length = 2 := rfl
theorem acc1 (c : AccX) : ∀ u ∈ accE c, u.oneCell' = true := by
 intro u hu;simp only [accE, List.mem_cons, List.not_mem_nil, or_false] at hu
 rcases hu with rfl | rfl <;> rfl
def AccAt (w : World) (c : AccX) : Prop := Amts w (.slice c.fa c.v.l.length c.fc) c.v.l
theorem AccAt.keep {w w' : World} {c : AccX} (h : AccAt w c) (hb : Below w.heap.size w w') : AccAt w' c := SGot.keep h hb
structure AccOwn (B : Nat) (w : World) (c : AccX) : Prop where
 f : w.ownsRow B 53 2 (.slice c.fa c.v.l.length c.fc) c.v.l.length (celC amtE c.v.l)
 s : c.v.l.length * 16 ≤ 140737488355328
theorem AccOwn.at_ {B : Nat} {w : World} {c : AccX} (h : AccOwn B w c) : AccAt w c := own_sgot h.f h.s
theorem AccOwn.keep {B : Nat} {w w' : World} {c : AccX} (h : AccOwn B w c) (hb : Below w.heap.size w w') : AccOwn B w' c := ⟨own_keep h.f hb, h.s⟩
theorem AccOwn.base {B B' : Nat} {w : World} {c : AccX} (h : AccOwn B w c) (hb : B' ≤ B) : AccOwn B' w c := ⟨own_base h.f hb, h.s⟩
theorem AccOwn.kept {w w' : World} {B B2 : Nat} {e : TypeId} {z n : Nat} {v : Value} {xs : List Value} {x : AccX} (k : AccOwn B2 w x) (h : w.grownBy w' v.ownBlock) (ho : w.ownsRow B e z v n xs) (h1 : e ≠ 53) : AccOwn B2 w' x :=
 ⟨own_type h ho k.f h1, k.s⟩
theorem AccOwn.set {B D j : Nat} {w : World} {x : AccX} {cs : Array Value} {t : TypeId} {u : Value} (h : AccOwn B w x) (hd : w.heap[D]? = some (.cells cs t (0, 0))) (h1 : (53 : TypeId) ≠ t) : AccOwn B (w.setCell ⟨D, j, none⟩ u) x := ⟨own_cell h.f hd h1, h.s⟩
structure Accs (w : World) (v : Value) (l : List AccX) : Prop where
 row : SGot 2 32 accE w v l
 at_ : ∀ c ∈ l, AccAt w c
theorem Accs.keep {w w' : World} {v : Value} {l : List AccX} (h : Accs w v l) (hb : Below w.heap.size w w') : Accs w' v l := ⟨h.row.keep hb, fun c hc => (h.at_ c hc).keep hb⟩
structure AccsOwn (B : Nat) (w : World) (v : Value) (l : List AccX) : Prop where
 row : w.ownsRow B 44 2 v l.length (celC accE l)
 own : ∀ c ∈ l, AccOwn B w c
 siz : l.length * 32 ≤ 140737488355328
theorem AccsOwn.at_ {B : Nat} {w : World} {v : Value} {l : List AccX} (h : AccsOwn B w v l) : Accs w v l := ⟨own_sgot h.row h.siz, fun c hc => (h.own c hc).at_⟩
theorem AccsOwn.keep {B : Nat} {w w' : World} {v : Value} {l : List AccX} (h : AccsOwn B w v l) (hb : Below w.heap.size w w') : AccsOwn B w' v l := ⟨own_keep h.row hb, fun c hc => (h.own c hc).keep hb, h.siz⟩
theorem AccsOwn.base {B B' : Nat} {w : World} {v : Value} {l : List AccX} (h : AccsOwn B w v l) (hb : B' ≤ B) : AccsOwn B' w v l := ⟨own_base h.row hb, fun c hc => (h.own c hc).base hb, h.siz⟩
theorem AccsOwn.nil (B : Nat) (w : World) : AccsOwn B w (.slice none 0 0) [] := ⟨own_nil _ _, (fun _ h => by cases h), by simp⟩
theorem AccsOwn.kept {w w' : World} {B B2 : Nat} {e : TypeId} {z n : Nat} {v u : Value} {xs : List Value} {l : List AccX} (k : AccsOwn B2 w u l) (h : w.grownBy w' v.ownBlock) (ho : w.ownsRow B e z v n xs) (h1 : e ≠ 53) (h2 : e ≠ 44) : AccsOwn B2 w' u l :=
 ⟨own_type h ho k.row h2, fun c hc => (k.own c hc).kept h ho h1, k.siz⟩
theorem AccsOwn.set {B D j : Nat} {w : World} {v : Value} {l : List AccX} {cs : Array Value} {t : TypeId} {u : Value} (h : AccsOwn B w v l) (hd : w.heap[D]? = some (.cells cs t (0, 0))) (h1 : (53 : TypeId) ≠ t) (h2 : (44 : TypeId) ≠ t) : AccsOwn B (w.setCell ⟨D, j, none⟩ u) v l :=
 ⟨own_cell h.row hd h2, fun c hc => (h.own c hc).set hd h1, h.siz⟩
theorem AccsOwn.app {B : Nat} {W w' : World} {u v' : Value} {ys : List AccX} {y : AccX} (h : AccsOwn B W u ys) (hy : AccOwn B W y) (how : w'.ownsRow B 44 2 v' (ys ++ [y]).length (celC accE (ys ++ [y]))) (hgr : W.grownBy w' u.ownBlock) (hs : (ys.length + 1) * 32 ≤ 140737488355328) : AccsOwn B w' v' (ys ++ [y]) := by
 refine ⟨how, fun s hs => ?_, by simpa using hs⟩;rw [List.mem_append, List.mem_singleton] at hs
 rcases hs with hs | rfl
 ·exact (h.own s hs).kept hgr h.row (by decide)
 ·exact hy.kept hgr h.row (by decide)
structure LanX where
 v : LaneV
 ba : Option Addr
 bc : Nat
 aa : Option Addr
 ac : Nat
 oa : Option Addr
 oc : Nat
def lanE (c : LanX) : List Value := [.bool c.v.call, .int .i64 c.v.next, .slice c.ba c.v.bids.length c.bc, .slice c.aa c.v.asks.length c.ac, .slice c.oa c.v.owed.length c.oc]
theorem lanK (c : LanX) : (lanE c).length = 5 := rfl
theorem lan1 (c : LanX) : ∀ u ∈ lanE c, u.oneCell' = true := by
 intro u hu;simp only [lanE, List.mem_cons, List.not_mem_nil, or_false] at hu
 rcases hu with rfl | rfl | rfl | rfl | rfl <;> rfl
def LanAt (w : World) (c : LanX) : Prop := Lan w c.v (.slice c.ba c.v.bids.length c.bc) (.slice c.aa c.v.asks.length c.ac) (.slice c.oa c.v.owed.length c.oc)
theorem LanAt.keep {w w' : World} {c : LanX} (h : LanAt w c) (hb : Below w.heap.size w w') : LanAt w' c := Lan.keep h hb
structure LanOwn (B : Nat) (w : World) (c : LanX) : Prop where
 b : w.ownsRow B 115 4 (.slice c.ba c.v.bids.length c.bc) c.v.bids.length (celC ordE c.v.bids)
 a : w.ownsRow B 115 4 (.slice c.aa c.v.asks.length c.ac) c.v.asks.length (celC ordE c.v.asks)
 o : w.ownsRow B 61 3 (.slice c.oa c.v.owed.length c.oc) c.v.owed.length (celC oweE c.v.owed)
 sb : c.v.bids.length * 32 ≤ 140737488355328
 sa : c.v.asks.length * 32 ≤ 140737488355328
 so : c.v.owed.length * 24 ≤ 140737488355328
theorem LanOwn.at_ {B : Nat} {w : World} {c : LanX} (h : LanOwn B w c) : LanAt w c := ⟨own_sgot h.b h.sb, own_sgot h.a h.sa, own_sgot h.o h.so⟩
theorem LanOwn.keep {B : Nat} {w w' : World} {c : LanX} (h : LanOwn B w c) (hb : Below w.heap.size w w') : LanOwn B w' c := ⟨own_keep h.b hb, own_keep h.a hb, own_keep h.o hb, h.sb, h.sa, h.so⟩
theorem LanOwn.base {B B' : Nat} {w : World} {c : LanX} (h : LanOwn B w c) (hb : B' ≤ B) : LanOwn B' w c := ⟨own_base h.b hb, own_base h.a hb, own_base h.o hb, h.sb, h.sa, h.so⟩
theorem LanOwn.kept {w w' : World} {B B2 : Nat} {e : TypeId} {z n : Nat} {v : Value} {xs : List Value} {x : LanX} (k : LanOwn B2 w x) (h : w.grownBy w' v.ownBlock) (ho : w.ownsRow B e z v n xs) (h1 : e ≠ 115) (h2 : e ≠ 61) : LanOwn B2 w' x :=
 ⟨own_type h ho k.b h1, own_type h ho k.a h1, own_type h ho k.o h2, k.sb, k.sa, k.so⟩
theorem LanOwn.set {B D j : Nat} {w : World} {x : LanX} {cs : Array Value} {t : TypeId} {u : Value} (h : LanOwn B w x) (hd : w.heap[D]? = some (.cells cs t (0, 0))) (h1 : (115 : TypeId) ≠ t) (h2 : (61 : TypeId) ≠ t) : LanOwn B (w.setCell ⟨D, j, none⟩ u) x :=
 ⟨own_cell h.b hd h1, own_cell h.a hd h1, own_cell h.o hd h2, h.sb, h.sa, h.so⟩
structure Lns (w : World) (v : Value) (l : List LanX) : Prop where
 row : SGot 5 88 lanE w v l
 at_ : ∀ c ∈ l, LanAt w c
theorem Lns.keep {w w' : World} {v : Value} {l : List LanX} (h : Lns w v l) (hb : Below w.heap.size w w') : Lns w' v l := ⟨h.row.keep hb, fun c hc => (h.at_ c hc).keep hb⟩
structure LnsOwn (B : Nat) (w : World) (v : Value) (l : List LanX) : Prop where
 row : w.ownsRow B 59 5 v l.length (celC lanE l)
 own : ∀ c ∈ l, LanOwn B w c
 siz : l.length * 88 ≤ 140737488355328
theorem LnsOwn.at_ {B : Nat} {w : World} {v : Value} {l : List LanX} (h : LnsOwn B w v l) : Lns w v l := ⟨own_sgot h.row h.siz, fun c hc => (h.own c hc).at_⟩
theorem LnsOwn.keep {B : Nat} {w w' : World} {v : Value} {l : List LanX} (h : LnsOwn B w v l) (hb : Below w.heap.size w w') : LnsOwn B w' v l := ⟨own_keep h.row hb, fun c hc => (h.own c hc).keep hb, h.siz⟩
theorem LnsOwn.base {B B' : Nat} {w : World} {v : Value} {l : List LanX} (h : LnsOwn B w v l) (hb : B' ≤ B) : LnsOwn B' w v l := ⟨own_base h.row hb, fun c hc => (h.own c hc).base hb, h.siz⟩
theorem LnsOwn.nil (B : Nat) (w : World) : LnsOwn B w (.slice none 0 0) [] := ⟨own_nil _ _, (fun _ h => by cases h), by simp⟩
theorem LnsOwn.kept {w w' : World} {B B2 : Nat} {e : TypeId} {z n : Nat} {v u : Value} {xs : List Value} {l : List LanX} (k : LnsOwn B2 w u l) (h : w.grownBy w' v.ownBlock) (ho : w.ownsRow B e z v n xs) (h1 : e ≠ 115) (h2 : e ≠ 61) (h3 : e ≠ 59) : LnsOwn B2 w' u l :=
 ⟨own_type h ho k.row h3, fun c hc => (k.own c hc).kept h ho h1 h2, k.siz⟩
theorem LnsOwn.set {B D j : Nat} {w : World} {v : Value} {l : List LanX} {cs : Array Value} {t : TypeId} {u : Value} (h : LnsOwn B w v l) (hd : w.heap[D]? = some (.cells cs t (0, 0))) (h1 : (115 : TypeId) ≠ t) (h2 : (61 : TypeId) ≠ t) (h3 : (59 : TypeId) ≠ t) : LnsOwn B (w.setCell ⟨D, j, none⟩ u) v l :=
 ⟨own_cell h.row hd h3, fun c hc => (h.own c hc).set hd h1 h2, h.siz⟩
theorem LnsOwn.app {B : Nat} {W w' : World} {u v' : Value} {ys : List LanX} {y : LanX} (h : LnsOwn B W u ys) (hy : LanOwn B W y) (how : w'.ownsRow B 59 5 v' (ys ++ [y]).length (celC lanE (ys ++ [y]))) (hgr : W.grownBy w' u.ownBlock) (hs : (ys.length + 1) * 88 ≤ 140737488355328) : LnsOwn B w' v' (ys ++ [y]) := by
 refine ⟨how, fun s hs => ?_, by simpa using hs⟩;rw [List.mem_append, List.mem_singleton] at hs
 rcases hs with hs | rfl
 ·exact (h.own s hs).kept hgr h.row (by decide) (by decide)
 ·exact hy.kept hgr h.row (by decide) (by decide)
structure MdlV where
 a : List AccV
 l : List LaneV
structure Mdl (w : World) (va vl : Value) (M : MdlV) : Prop where
 acs : ∃ xs : List AccX, xs.map AccX.v = M.a ∧ Accs w va xs
 lns : ∃ ys : List LanX, ys.map LanX.v = M.l ∧ Lns w vl ys
theorem Mdl.keep {w w' : World} {va vl : Value} {M : MdlV} (h : Mdl w va vl M) (hb : Below w.heap.size w w') : Mdl w' va vl M := by
 obtain ⟨⟨xs, h1, h2⟩, ys, h3, h4⟩ := h
 exact ⟨⟨xs, h1, h2.keep hb⟩, ys, h3, h4.keep hb⟩
structure MdlOwn (B : Nat) (w : World) (va vl : Value) (M : MdlV) : Prop where
 acs : ∃ xs : List AccX, xs.map AccX.v = M.a ∧ AccsOwn B w va xs
 lns : ∃ ys : List LanX, ys.map LanX.v = M.l ∧ LnsOwn B w vl ys
theorem MdlOwn.at_ {B : Nat} {w : World} {va vl : Value} {M : MdlV} (h : MdlOwn B w va vl M) : Mdl w va vl M := by
 obtain ⟨⟨xs, h1, h2⟩, ys, h3, h4⟩ := h
 exact ⟨⟨xs, h1, h2.at_⟩, ys, h3, h4.at_⟩
theorem MdlOwn.keep {B : Nat} {w w' : World} {va vl : Value} {M : MdlV} (h : MdlOwn B w va vl M) (hb : Below w.heap.size w w') : MdlOwn B w' va vl M := by
 obtain ⟨⟨xs, h1, h2⟩, ys, h3, h4⟩ := h
 exact ⟨⟨xs, h1, h2.keep hb⟩, ys, h3, h4.keep hb⟩
theorem MdlOwn.base {B B' : Nat} {w : World} {va vl : Value} {M : MdlV} (h : MdlOwn B w va vl M) (hb : B' ≤ B) : MdlOwn B' w va vl M := by
 obtain ⟨⟨xs, h1, h2⟩, ys, h3, h4⟩ := h
 exact ⟨⟨xs, h1, h2.base hb⟩, ys, h3, h4.base hb⟩
theorem own_put {w : World} {B n k g cap : Nat} {e : TypeId} {xs : List Value} (ho : w.ownsRow B e k (.slice (some ⟨g, 0, none⟩) n cap) n xs) (j : Nat) (u : Value) (hj : j < n * k) (hu : u.oneCell' = true) :
  (w.setCell ⟨g, j, none⟩ u).ownsRow B e k (.slice (some ⟨g, 0, none⟩) n cap) n (xs.set j u) := by
 obtain ⟨h1, ⟨hv, _⟩ | ⟨g', cap', cur, hv, hb, hg, hnc, hcm, hs, ht⟩⟩ := ho
 ·cases hv
 ·simp only [Value.slice.injEq, Option.some.injEq, Addr.mk.injEq] at hv;obtain ⟨⟨rfl, _⟩, _, rfl⟩ := hv;refine ⟨by simpa using h1, .inr ⟨g, cap, cur.setIfInBounds j u, rfl, hb, heap_set hg j u, hnc, hcm, by simp [hs], ?_⟩⟩;rw [Array.toList_setIfInBounds, List.take_set, ht]
theorem celC_set {α : Type} {enc : α → List Value} {k : Nat} (hk : ∀ x, (enc x).length = k) : ∀ (l : List α) (i : Nat) (x : α), i < l.length → celC enc (l.set i x) = (celC enc l).take (i * k) ++ enc x ++ (celC enc l).drop ((i + 1) * k)
 | [], i, x, h => by simp at h
 | y :: l, 0, x, h => by
  rw [List.set_cons_zero, celC_cons, celC_cons, Nat.zero_mul, List.take_zero, List.nil_append, Nat.zero_add, Nat.one_mul, List.drop_append, List.drop_eq_nil_of_le (by rw [hk]; exact Nat.le_refl _), List.nil_append, hk, Nat.sub_self, List.drop_zero]
 | y :: l, i + 1, x, h => by
  have ih := celC_set hk l i x (by simpa using h);have e1 : (i + 1) * k = (enc y).length + i * k := by rw [hk, Nat.add_mul]; omega
  have e2 : (i + 1 + 1) * k = (enc y).length + (i + 1) * k := by rw [hk, Nat.add_mul (i + 1)]; omega
  rw [List.set_cons_succ, celC_cons, celC_cons, ih, e2, e1, List.take_length_add_append, List.drop_length_add_append, List.append_assoc, List.append_assoc, List.append_assoc]
theorem set_two {L : List Value} {i : Nat} (u v : Value) (h : (i + 1) * 2 ≤ L.length) : (L.set (i * 2) u).set (i * 2 + 1) v = L.take (i * 2) ++ [u, v] ++ L.drop ((i + 1) * 2) := by
 apply List.ext_getElem?
 intro n;have hl : (L.take (i * 2)).length = i * 2 := by simp; omega
 rcases Nat.lt_trichotomy n (i * 2) with h1 | h1 | h1
 ·rw [List.getElem?_set_ne (by omega), List.getElem?_set_ne (by omega), List.append_assoc, List.getElem?_append_left (by omega), List.getElem?_take, if_pos h1]
 ·subst h1;rw [List.getElem?_set_ne (by omega), List.getElem?_set_self (by omega), List.append_assoc, List.getElem?_append_right (by omega), hl]
  simp
 ·by_cases h2 : n = i * 2 + 1
  ·subst h2;rw [List.getElem?_set_self (by simp; omega), List.append_assoc, List.getElem?_append_right (by omega), hl]
   simp
  ·rw [List.getElem?_set_ne (by omega), List.getElem?_set_ne (by omega), List.getElem?_append_right (by simp; omega), List.getElem?_drop]
   congr 1
   simp
   omega
theorem set_five {L : List Value} {i : Nat} (u0 u1 u2 u3 u4 : Value) (h : (i + 1) * 5 ≤ L.length) : ((((L.set (i * 5) u0).set (i * 5 + 1) u1).set (i * 5 + 2) u2).set (i * 5 + 3) u3).set (i * 5 + 4) u4 = L.take (i * 5) ++ [u0, u1, u2, u3, u4] ++ L.drop ((i + 1) * 5) := by
 apply List.ext_getElem?
 intro n;have hl : (L.take (i * 5)).length = i * 5 := by simp; omega
 by_cases h0 : n < i * 5
 ·rw [List.getElem?_set_ne (by omega), List.getElem?_set_ne (by omega), List.getElem?_set_ne (by omega), List.getElem?_set_ne (by omega), List.getElem?_set_ne (by omega), List.append_assoc, List.getElem?_append_left (by omega), List.getElem?_take, if_pos h0]
 ·by_cases h1 : n < (i + 1) * 5
  ·rw [List.append_assoc, List.getElem?_append_right (by omega), hl];have : n = i * 5 ∨ n = i * 5 + 1 ∨ n = i * 5 + 2 ∨ n = i * 5 + 3 ∨ n = i * 5 + 4 := by omega
   rcases this with rfl | rfl | rfl | rfl | rfl
   ·rw [List.getElem?_set_ne (by omega), List.getElem?_set_ne (by omega), List.getElem?_set_ne (by omega), List.getElem?_set_ne (by omega), List.getElem?_set_self (by omega)]
    simp
   ·rw [List.getElem?_set_ne (by omega), List.getElem?_set_ne (by omega), List.getElem?_set_ne (by omega), List.getElem?_set_self (by simp; omega)]
    simp
   ·rw [List.getElem?_set_ne (by omega), List.getElem?_set_ne (by omega), List.getElem?_set_self (by simp; omega)]
    simp
   ·rw [List.getElem?_set_ne (by omega), List.getElem?_set_self (by simp; omega)]
    simp
   ·rw [List.getElem?_set_self (by simp; omega)]
    simp
  ·rw [List.getElem?_set_ne (by omega), List.getElem?_set_ne (by omega), List.getElem?_set_ne (by omega), List.getElem?_set_ne (by omega), List.getElem?_set_ne (by omega), List.getElem?_append_right (by simp; omega), List.getElem?_drop]
   congr 1
   simp
   omega
theorem AccsOwn.put {B g c i : Nat} {w : World} {l : List AccX} (h : AccsOwn B w (.slice (some ⟨g, 0, none⟩) l.length c) l) (hi : i < l.length) (x : AccX) (hx : AccOwn B w x) :
  AccsOwn B ((w.setCell ⟨g, i * 2, none⟩ (.slice x.fa x.v.l.length x.fc)).setCell ⟨g, i * 2 + 1, none⟩ (.int .i64 x.v.ct)) (.slice (some ⟨g, 0, none⟩) (l.set i x).length c) (l.set i x) := by
 have hg : ∃ cs, w.heap[g]? = some (.cells cs 44 (0, 0)) := by
  obtain ⟨h1, ⟨hv, _⟩ | ⟨g', cap', cur, hv, hb, hg, _⟩⟩ := h.row
  ·cases hv
  ·simp only [Value.slice.injEq, Option.some.injEq, Addr.mk.injEq] at hv;obtain ⟨⟨rfl, _⟩, _, rfl⟩ := hv
   exact ⟨_, hg⟩
 obtain ⟨cs, hg⟩ := hg;have r1 := own_put h.row (i * 2) (.slice x.fa x.v.l.length x.fc) (by omega) rfl;have hg1 := heap_set hg (i * 2) (.slice x.fa x.v.l.length x.fc);have r2 := own_put r1 (i * 2 + 1) (.int .i64 x.v.ct) (by omega) rfl;have hl : (celC accE l).length = l.length * 2 := celC_len accK l;rw [set_two _ _ (by omega), show [Value.slice x.fa x.v.l.length x.fc, .int .i64 x.v.ct] = accE x from rfl, ← celC_set accK l i x hi] at r2;rw [List.length_set];refine ⟨by rw [List.length_set]; exact r2, fun y hy => ?_, by rw [List.length_set]; exact h.siz⟩
 rcases List.mem_or_eq_of_mem_set hy with hy | rfl
 ·exact ((h.own y hy).set hg (by decide)).set hg1 (by decide)
 ·exact (hx.set hg (by decide)).set hg1 (by decide)
theorem LnsOwn.put {B g c i : Nat} {w : World} {l : List LanX} (h : LnsOwn B w (.slice (some ⟨g, 0, none⟩) l.length c) l) (hi : i < l.length) (x : LanX) (hx : LanOwn B w x) :
  LnsOwn B (((((w.setCell ⟨g, i * 5, none⟩ (.bool x.v.call)).setCell ⟨g, i * 5 + 1, none⟩ (.int .i64 x.v.next)).setCell ⟨g, i * 5 + 2, none⟩ (.slice x.ba x.v.bids.length x.bc)).setCell ⟨g, i * 5 + 3, none⟩ (.slice x.aa x.v.asks.length x.ac)).setCell ⟨g, i * 5 + 4, none⟩ (.slice x.oa x.v.owed.length x.oc)) (.slice (some ⟨g, 0, none⟩) (l.set i x).length c) (l.set i x) := by
 have hg : ∃ cs, w.heap[g]? = some (.cells cs 59 (0, 0)) := by
  obtain ⟨h1, ⟨hv, _⟩ | ⟨g', cap', cur, hv, hb, hg, _⟩⟩ := h.row
  ·cases hv
  ·simp only [Value.slice.injEq, Option.some.injEq, Addr.mk.injEq] at hv;obtain ⟨⟨rfl, _⟩, _, rfl⟩ := hv
   exact ⟨_, hg⟩
 obtain ⟨cs, hg⟩ := hg;have r1 := own_put h.row (i * 5) (.bool x.v.call) (by omega) rfl;have g1 := heap_set hg (i * 5) (.bool x.v.call);have r2 := own_put r1 (i * 5 + 1) (.int .i64 x.v.next) (by omega) rfl;have g2 := heap_set g1 (i * 5 + 1) (.int .i64 x.v.next);have r3 := own_put r2 (i * 5 + 2) (.slice x.ba x.v.bids.length x.bc) (by omega) rfl;have g3 := heap_set g2 (i * 5 + 2) (.slice x.ba x.v.bids.length x.bc);have r4 := own_put r3 (i * 5 + 3) (.slice x.aa x.v.asks.length x.ac) (by omega) rfl;have g4 := heap_set g3 (i * 5 + 3) (.slice x.aa x.v.asks.length x.ac);have r5 := own_put r4 (i * 5 + 4) (.slice x.oa x.v.owed.length x.oc) (by omega) rfl;have hl : (celC lanE l).length = l.length * 5 := celC_len lanK l;rw [set_five _ _ _ _ _ (by omega), show [Value.bool x.v.call, .int .i64 x.v.next, .slice x.ba x.v.bids.length x.bc, .slice x.aa x.v.asks.length x.ac, .slice x.oa x.v.owed.length x.oc] = lanE x from rfl, ← celC_set lanK l i x hi] at r5;rw [List.length_set];refine ⟨by rw [List.length_set]; exact r5, fun y hy => ?_, by rw [List.length_set]; exact h.siz⟩
 rcases List.mem_or_eq_of_mem_set hy with hy | rfl
 ·exact (((((h.own y hy).set hg (by decide) (by decide)).set g1 (by decide) (by decide)).set g2 (by decide) (by decide)).set g3 (by decide) (by decide)).set g4 (by decide) (by decide)
 ·exact ((((hx.set hg (by decide) (by decide)).set g1 (by decide) (by decide)).set g2 (by decide) (by decide)).set g3 (by decide) (by decide)).set g4 (by decide) (by decide)
theorem putS {wc w0 : World} {b : Nat} {ty : TypeId} {cs cs' : Array Value} (h : w0.heap[b]? = some (.cells cs ty (0, 0)) ∧ Out (fun k => k = b) wc w0) (j : Nat) (v : Value) (e : cs.setIfInBounds j v = cs') : (w0.setCell ⟨b, j, none⟩ v).heap[b]? = some (.cells cs' ty (0, 0)) ∧ Out (fun k => k = b) wc (w0.setCell ⟨b, j, none⟩ v) :=
 ⟨e ▸ heap_set h.1 j v, h.2.trans (Out.ofSet (F := fun k => k = b) w0 ⟨b, j, none⟩ v rfl) (fun _ _ h => h)⟩
theorem puts2 (wc : World) (b : Nat) (ty : TypeId) (v0 v1 : Value) {z0 z1 : Value} (h : wc.heap[b]? = some (.cells #[z0, z1] ty (0, 0))) : ((wc.setCell ⟨b, 0, none⟩ v0).setCell ⟨b, 1, none⟩ v1).heap[b]? = some (.cells #[v0, v1] ty (0, 0)) ∧ Out (fun k => k = b) wc ((wc.setCell ⟨b, 0, none⟩ v0).setCell ⟨b, 1, none⟩ v1) := by
 have h0 := And.intro h (Out.refl (fun k => k = b) wc);have h1 := putS h0 0 v0 (cs' := #[v0, z1]) rfl;have h2 := putS h1 1 v1 (cs' := #[v0, v1]) rfl;exact h2
theorem at2 {w : World} {p : Nat} {ty : TypeId} {z0 z1 : Value} (h : w.heap[p]? = some (.cells #[z0, z1] ty (0, 0))) : (w.cell? ⟨p, 0, none⟩ = some z0 ∧ w.cell? ⟨p, 1, none⟩ = some z1) ∧ (∀ j, w.frozen? ⟨p, j, none⟩ = false) ∧ p < w.heap.size :=
 ⟨⟨by rw [cell_at h]; rfl, by rw [cell_at h]; rfl⟩, fun j => free_at h j, (Array.getElem?_eq_some_iff.1 h).1⟩
theorem puts5 (wc : World) (b : Nat) (ty : TypeId) (v0 v1 v2 v3 v4 : Value) {z0 z1 z2 z3 z4 : Value} (h : wc.heap[b]? = some (.cells #[z0, z1, z2, z3, z4] ty (0, 0))) : (((((wc.setCell ⟨b, 0, none⟩ v0).setCell ⟨b, 1, none⟩ v1).setCell ⟨b, 2, none⟩ v2).setCell ⟨b, 3, none⟩ v3).setCell ⟨b, 4, none⟩ v4).heap[b]? = some (.cells #[v0, v1, v2, v3, v4] ty (0, 0)) ∧ Out (fun k => k = b) wc (((((wc.setCell ⟨b, 0, none⟩ v0).setCell ⟨b, 1, none⟩ v1).setCell ⟨b, 2, none⟩ v2).setCell ⟨b, 3, none⟩ v3).setCell ⟨b, 4, none⟩ v4) := by
 have h0 := And.intro h (Out.refl (fun k => k = b) wc);have h1 := putS h0 0 v0 (cs' := #[v0, z1, z2, z3, z4]) rfl;have h2 := putS h1 1 v1 (cs' := #[v0, v1, z2, z3, z4]) rfl;have h3 := putS h2 2 v2 (cs' := #[v0, v1, v2, z3, z4]) rfl;have h4 := putS h3 3 v3 (cs' := #[v0, v1, v2, v3, z4]) rfl;have h5 := putS h4 4 v4 (cs' := #[v0, v1, v2, v3, v4]) rfl;exact h5
theorem at5 {w : World} {p : Nat} {ty : TypeId} {z0 z1 z2 z3 z4 : Value} (h : w.heap[p]? = some (.cells #[z0, z1, z2, z3, z4] ty (0, 0))) : (w.cell? ⟨p, 0, none⟩ = some z0 ∧ w.cell? ⟨p, 1, none⟩ = some z1 ∧ w.cell? ⟨p, 2, none⟩ = some z2 ∧ w.cell? ⟨p, 3, none⟩ = some z3 ∧ w.cell? ⟨p, 4, none⟩ = some z4) ∧ (∀ j, w.frozen? ⟨p, j, none⟩ = false) ∧ p < w.heap.size :=
 ⟨⟨by rw [cell_at h]; rfl, by rw [cell_at h]; rfl, by rw [cell_at h]; rfl, by rw [cell_at h]; rfl, by rw [cell_at h]; rfl⟩, fun j => free_at h j, (Array.getElem?_eq_some_iff.1 h).1⟩
theorem at21 {w : World} {p : Nat} {ty : TypeId} {z0 z1 z2 z3 z4 z5 z6 z7 z8 z9 z10 z11 z12 z13 z14 z15 z16 z17 z18 z19 z20 : Value} (h : w.heap[p]? = some (.cells #[z0, z1, z2, z3, z4, z5, z6, z7, z8, z9, z10, z11, z12, z13, z14, z15, z16, z17, z18, z19, z20] ty (0, 0))) : (w.cell? ⟨p, 0, none⟩ = some z0 ∧ w.cell? ⟨p, 1, none⟩ = some z1 ∧ w.cell? ⟨p, 2, none⟩ = some z2 ∧ w.cell? ⟨p, 3, none⟩ = some z3 ∧ w.cell? ⟨p, 4, none⟩ = some z4 ∧ w.cell? ⟨p, 5, none⟩ = some z5 ∧ w.cell? ⟨p, 6, none⟩ = some z6 ∧ w.cell? ⟨p, 7, none⟩ = some z7 ∧ w.cell? ⟨p, 8, none⟩ = some z8 ∧ w.cell? ⟨p, 9, none⟩ = some z9 ∧ w.cell? ⟨p, 10, none⟩ = some z10 ∧ w.cell? ⟨p, 11, none⟩ = some z11 ∧ w.cell? ⟨p, 12, none⟩ = some z12 ∧ w.cell? ⟨p, 13, none⟩ = some z13 ∧ w.cell? ⟨p, 14, none⟩ = some z14 ∧ w.cell? ⟨p, 15, none⟩ = some z15 ∧ w.cell? ⟨p, 16, none⟩ = some z16 ∧ w.cell? ⟨p, 17, none⟩ = some z17 ∧ w.cell? ⟨p, 18, none⟩ = some z18 ∧ w.cell? ⟨p, 19, none⟩ = some z19 ∧ w.cell? ⟨p, 20, none⟩ = some z20) ∧ (∀ j, w.frozen? ⟨p, j, none⟩ = false) ∧ p < w.heap.size :=
 ⟨⟨by rw [cell_at h]; rfl, by rw [cell_at h]; rfl, by rw [cell_at h]; rfl, by rw [cell_at h]; rfl, by rw [cell_at h]; rfl, by rw [cell_at h]; rfl, by rw [cell_at h]; rfl, by rw [cell_at h]; rfl, by rw [cell_at h]; rfl, by rw [cell_at h]; rfl, by rw [cell_at h]; rfl, by rw [cell_at h]; rfl, by rw [cell_at h]; rfl, by rw [cell_at h]; rfl, by rw [cell_at h]; rfl, by rw [cell_at h]; rfl, by rw [cell_at h]; rfl, by rw [cell_at h]; rfl, by rw [cell_at h]; rfl, by rw [cell_at h]; rfl, by rw [cell_at h]; rfl⟩, fun j => free_at h j, (Array.getElem?_eq_some_iff.1 h).1⟩
def FLaneBack (L : LaneV) (w : World) (e : Ending) (w' : World) : Prop := ∃ b a o, e = .returned (laneV L b a o) ∧ w'.ownsRow w.heap.size 115 4 b L.bids.length (celC ordE L.bids) ∧ w'.ownsRow w.heap.size 115 4 a L.asks.length (celC ordE L.asks) ∧ w'.ownsRow w.heap.size 61 3 o L.owed.length (celC oweE L.owed) ∧ (b.ownBlock = none ∨ b.ownBlock ≠ a.ownBlock) ∧ Below w.heap.size w w'
set_option maxHeartbeats 8000000 in
set_option maxRecDepth 100000 in
theorem fLane_is (L : LaneV) (b a o : Value) (w : World) (h : Lan w L b a o) : Calls Tryz.prog 48 #[laneV L b a o] w (FLaneBack L w) := by
 have X0 := hideIt (CB.first w L b a o);have H1 := hideIt (fun W (hW : Below w.heap.size w W) => cloneO_is b L.bids W (h.keep hW).bids);have H2 := hideIt (fun W (hW : Below w.heap.size w W) => cloneO_is a L.asks W (h.keep hW).asks);have H3 := hideIt (fun W (hW : Below w.heap.size w W) => cloneW_is o L.owed W (h.keep hW).owed);unfold FLaneBack;obtain ⟨ba, bc, rfl⟩ := h.bids.slice;obtain ⟨aa, ac, rfl⟩ := h.asks.slice;obtain ⟨oa, oc, rfl⟩ := h.owed.slice;clear h;unfold laneV laneA at *;obtain ⟨cl, nx, bids, asks, owed⟩ := L;simp only at *
 go_enter Tryz.func48, Tryz.ntmps48
 go_upto_region 1 with fail
 generalize (w.alloc (.cells #[.bool cl, .int .i64 nx, .slice ba bids.length bc, .slice aa asks.length ac, .slice oa owed.length oc] 59)).alloc (.cells #[.bool false, .int .i64 0, .slice none 0 0, .slice none 0 0, .slice none 0 0] 59) = w0 at *;obtain ⟨c0, c1, c2, c3, c4⟩ := X0.out.cells;simp only at c0 c1 c2 c3 c4
 go_wp2_with fail
 refine (H1.out _ X0.out.bel).mono ?_;rintro e w1 ⟨b1, rfl, ho, hb⟩;dsimp only;obtain ⟨b1a, b1c, rfl⟩ := own_len ho;have X1 := hideIt ((X0.out.keep hb).set2 (.slice b1a bids.length b1c));have O1 := hideIt (own_base (own_cell (j := 2) (u := .slice b1a bids.length b1c) ho (X0.out.keep hb).box (by decide)) (Nat.le_trans (Nat.le_add_right w.heap.size 2) X0.out.size));have fz : w1.frozen? ⟨w.heap.size, 2, none⟩ = false := free_at (X0.out.keep hb).box 2;have k2 : w1.cell? ⟨w.heap.size, 2, none⟩ = some (.slice ba bids.length bc) := (X0.out.keep hb).cells.2.2.1;clear ho hb H1 c0 c1 c2 c3 c4 X0
 go_upto_region 2 with fail
 clear fz k2;generalize w1.setCell ⟨w.heap.size, 2, none⟩ (.slice b1a bids.length b1c) = w2 at *;have K2 := hideIt (O1.out.lt);obtain ⟨c0, c1, c2, c3, c4⟩ := X1.out.cells;simp only at c0 c1 c2 c3 c4
 go_wp2_with fail
 refine (H2.out _ X1.out.bel).mono ?_;rintro e w3 ⟨a1, rfl, ho, hb⟩;dsimp only;obtain ⟨a1a, a1c, rfl⟩ := own_len ho;have SP : Hid ((Value.slice b1a bids.length b1c).ownBlock = none ∨ (Value.slice b1a bids.length b1c).ownBlock ≠ (Value.slice a1a asks.length a1c).ownBlock) := by
  cases hq : (Value.slice b1a bids.length b1c).ownBlock with
  | none => exact .inl rfl
  | some q =>
   refine .inr (fun e => ?_);have h1 := K2.out q hq;have h2 := ho.lt q e.symm;omega
 have X3 := hideIt ((X1.out.keep hb).set3 (.slice a1a asks.length a1c));have O3 := hideIt (own_cell (j := 3) (u := .slice a1a asks.length a1c) (own_keep O1.out hb) (X1.out.keep hb).box (by decide));have A3 := hideIt (own_base (own_cell (j := 3) (u := .slice a1a asks.length a1c) ho (X1.out.keep hb).box (by decide)) (Nat.le_trans (Nat.le_add_right w.heap.size 2) X1.out.size));have fz : w3.frozen? ⟨w.heap.size, 3, none⟩ = false := free_at (X1.out.keep hb).box 3;have k2 : w3.cell? ⟨w.heap.size, 3, none⟩ = some (.slice aa asks.length ac) := (X1.out.keep hb).cells.2.2.2.1;clear ho hb H2 c0 c1 c2 c3 c4 X1 O1 K2
 go_upto_region 3 with fail
 clear fz k2;generalize w3.setCell ⟨w.heap.size, 3, none⟩ (.slice a1a asks.length a1c) = w4 at *;obtain ⟨c0, c1, c2, c3, c4⟩ := X3.out.cells;simp only at c0 c1 c2 c3 c4
 go_wp2_with fail
 refine (H3.out _ X3.out.bel).mono ?_;rintro e w5 ⟨o1, rfl, ho, hb⟩;dsimp only;obtain ⟨o1a, o1c, rfl⟩ := own_len ho;have X5 := hideIt ((X3.out.keep hb).set4 (.slice o1a owed.length o1c));have O5 := hideIt (own_cell (j := 4) (u := .slice o1a owed.length o1c) (own_keep O3.out hb) (X3.out.keep hb).box (by decide));have A5 := hideIt (own_cell (j := 4) (u := .slice o1a owed.length o1c) (own_keep A3.out hb) (X3.out.keep hb).box (by decide));have W5 := hideIt (own_base (own_cell (j := 4) (u := .slice o1a owed.length o1c) ho (X3.out.keep hb).box (by decide)) (Nat.le_trans (Nat.le_add_right w.heap.size 2) X3.out.size));have fz : w5.frozen? ⟨w.heap.size, 4, none⟩ = false := free_at (X3.out.keep hb).box 4;have k2 : w5.cell? ⟨w.heap.size, 4, none⟩ = some (.slice oa owed.length oc) := (X3.out.keep hb).cells.2.2.2.2;clear ho hb H3 c0 c1 c2 c3 c4 X3 O3 A3
 go_upto_region 4 with fail
 clear fz k2;generalize w5.setCell ⟨w.heap.size, 4, none⟩ (.slice o1a owed.length o1c) = w6 at *;obtain ⟨c0, c1, c2, c3, c4⟩ := X5.out.cells;simp only at c0 c1 c2 c3 c4;have z0 : w6.cell? ⟨w.heap.size + 1, 0, none⟩ = some (.bool false) := by rw [cell_at X5.out.res]; rfl
 have z1 : w6.cell? ⟨w.heap.size + 1, 1, none⟩ = some (.int .i64 0) := by rw [cell_at X5.out.res]; rfl
 have z2 : w6.cell? ⟨w.heap.size + 1, 2, none⟩ = some (.slice none 0 0) := by rw [cell_at X5.out.res]; rfl
 have z3 : w6.cell? ⟨w.heap.size + 1, 3, none⟩ = some (.slice none 0 0) := by rw [cell_at X5.out.res]; rfl
 have z4 : w6.cell? ⟨w.heap.size + 1, 4, none⟩ = some (.slice none 0 0) := by rw [cell_at X5.out.res]; rfl
 have zf : ∀ j, w6.frozen? ⟨w.heap.size + 1, j, none⟩ = false := fun j => free_at X5.out.res j
 have HP := hideIt (X5.out.put (.bool cl) (.int .i64 nx) (.slice b1a bids.length b1c) (.slice a1a asks.length a1c) (.slice o1a owed.length o1c));have HO := hideIt (own_five O5.out X5.out.res (by decide) (.bool cl) (.int .i64 nx) (.slice b1a bids.length b1c) (.slice a1a asks.length a1c) (.slice o1a owed.length o1c));have HA := hideIt (own_five A5.out X5.out.res (by decide) (.bool cl) (.int .i64 nx) (.slice b1a bids.length b1c) (.slice a1a asks.length a1c) (.slice o1a owed.length o1c));have HW := hideIt (own_five W5.out X5.out.res (by decide) (.bool cl) (.int .i64 nx) (.slice b1a bids.length b1c) (.slice a1a asks.length a1c) (.slice o1a owed.length o1c));clear X5 O5 A5 W5;go_wp2
 revert HP HO HA HW
 generalize (World.setCell _ ⟨w.heap.size + 1, 4, none⟩ _) = W;intro HP HO HA HW;exact bodyPost_ret (v := laneV ⟨cl, nx, bids, asks, owed⟩ (.slice b1a bids.length b1c) (.slice a1a asks.length a1c) (.slice o1a owed.length o1c)) (by simp [results, Tryz.results48, go_sem, cell_at HP.out.1, laneV, laneA]) rfl ⟨_, _, _, rfl, HO.out, HA.out, HW.out, SP.out, HP.out.2⟩
set_option maxRecDepth 100000 in
set_option maxHeartbeats 4000000 in
theorem cloneA_is (v : Value) (l : List AmtV) (w : World) (h : Amts w v l) : Calls Tryz.prog 71 #[v] w fun e w' => ∃ a' c', e = .returned (.slice a' l.length c') ∧ w'.ownsRow w.heap.size 53 2 (.slice a' l.length c') l.length (celC amtE l) ∧ Below w.heap.size w w' := by
 obtain ⟨a, c, rfl⟩ := h.slice;have q22 : ∀ (w : World) (a : Option Addr) (n c n' c' : Nat), (binOp .eql 33 (.slice a n c) (.slice none n' c')).run Tryz.prog w = .ok (.bool a.isNone) w := fun w a n c n' c' => Lib.run_eql_slice_nil w _ _ a n c n' c' Tryz.underlying33
 cases a with
 | none =>
  have h0 : l.length = 0 := by
   obtain ⟨_, a', c', e', _, hr⟩ := h;simp only [Value.slice.injEq] at e'
   rcases Nat.eq_zero_or_pos l.length with h0 | h0
   ·exact h0
   ·obtain ⟨b, off, hb, _⟩ := hr h0;rw [← e'.1] at hb;cases hb
  have hl : l = [] := List.length_eq_zero_iff.1 h0;subst hl;simp only [List.length_nil];clear h h0
  go_enter Tryz.func71, Tryz.ntmps71
  go_wp2;go_ret
  exact ⟨_, _, rfl, own_nil _ _, Below.refl _ _⟩
 | some b =>
  obtain ⟨v', w', hrun, how, hgr⟩ := appL (enc := amtE) (t := 33) amtK amt1 Tryz.underlying33 infoAmt rfl (by omega) (by omega) (w.alloc (.cells #[] 53)) w.heap.size (.slice (some ⟨w.heap.size, 0, none⟩) 0 0) [] l b l.length c rfl (by simp) (World.ownsRow_made w #[] 0 (Nat.le_refl _) (Nat.zero_le _) (by simp)) (h.keep (below1 w _)) (by have := h.1; rw [List.length_nil]; omega)
  rw [List.nil_append] at how;obtain ⟨a5, c5, rfl⟩ := own_len how;have HRUN := hideIt hrun;have HR := hideIt (And.intro how (below_out (below1 w (.cells #[] 53)) (Out.ofGrown (F := fun k => w.heap.size ≤ k) hgr (fun k hk => by simp only [Value.ownBlock, Option.some.injEq] at hk; omega)) (fun _ h => h)))
  clear hrun how hgr h;generalize l.length = n at *;obtain ⟨bb, bo, bp⟩ := b
  go_enter Tryz.func71, Tryz.ntmps71
  go_wp2_with (at_builtin; refine Lib.wpList_append_run _ rfl _ _ _ _ rfl _ _ rfl rfl _ _ HRUN.out ?_)
  go_ret
  exact ⟨_, _, rfl, HR.out.1, HR.out.2⟩
set_option maxRecDepth 100000 in
set_option maxHeartbeats 4000000 in
theorem acct_is (fa : Option Addr) (fc : Nat) (fr : List AmtV) (cnt : Int) (w : World) (h : Amts w (.slice fa fr.length fc) fr) : Calls Tryz.prog 46 #[.agg #[.slice fa fr.length fc, .int .i64 cnt]] w fun e w' => ∃ a c, e = .returned (.agg #[.slice a fr.length c, .int .i64 cnt]) ∧ w'.ownsRow w.heap.size 53 2 (.slice a fr.length c) fr.length (celC amtE fr) ∧ Below w.heap.size w w' := by
 obtain ⟨t1, t2, t3⟩ := two_heap w (.cells #[.slice fa fr.length fc, .int .i64 cnt] 44) (.cells #[.slice none 0 0, .int .i64 0] 44);have T1 := hideIt t1;have T2 := hideIt t2;have HB := hideIt (below2 w (.cells #[.slice fa fr.length fc, .int .i64 cnt] 44) (.cells #[.slice none 0 0, .int .i64 0] 44));have HT := hideIt t3;have HC := hideIt (fun W (hW : Below w.heap.size w W) => cloneA_is (.slice fa fr.length fc) fr W (h.keep hW));clear t1 t2 t3 h
 go_enter Tryz.func46, Tryz.ntmps46
 go_upto_region 1 with fail
 generalize (w.alloc (.cells #[.slice fa fr.length fc, .int .i64 cnt] 44)).alloc (.cells #[.slice none 0 0, .int .i64 0] 44) = W0 at *;obtain ⟨⟨c0, c1⟩, cf, cz⟩ := at2 T1.out
 go_wp2_with fail
 refine (HC.out _ HB.out).mono ?_;rintro e w1 ⟨a, c, rfl, ho, hb⟩;dsimp only;have U1 : Hid ((w1.setCell ⟨w.heap.size, 0, none⟩ (.slice a fr.length c)).heap[w.heap.size]? = some (.cells #[.slice a fr.length c, .int .i64 cnt] 44 (0, 0))) := heap_set (blkK T1.out hb) 0 _;have U2 := hideIt (setOther (b := w.heap.size) (j := 0) (.slice a fr.length c) (blkK T2.out hb) (by omega));have O1 := hideIt (ownSet (b := w.heap.size) (j := 0) (.slice a fr.length c) ho (by have := HT.out; omega))
 have B1 : Hid (Below w.heap.size w (w1.setCell ⟨w.heap.size, 0, none⟩ (.slice a fr.length c))) := belowSet _ (below_via HB.out hb) (Nat.le_refl _);obtain ⟨⟨d0, d1⟩, df, dz⟩ := at2 (blkK T1.out hb);clear ho hb c0 c1 cf cz T1 T2 HB HC
 go_upto_region 2 with fail
 clear d0 d1 df dz;generalize w1.setCell ⟨w.heap.size, 0, none⟩ (.slice a fr.length c) = W1 at *;obtain ⟨⟨c0, c1⟩, cf, cz⟩ := at2 U1.out;obtain ⟨⟨d0, d1⟩, df, dz⟩ := at2 U2.out;go_wp2;obtain ⟨hzz, hoo⟩ := puts2 W1 (w.heap.size + 1) 44 (.slice a fr.length c) (.int .i64 cnt) U2.out;have ht := HT.out;exact bodyPost_ret (v := .agg #[.slice a fr.length c, .int .i64 cnt]) (by simp [results, Tryz.results46, go_sem, cell_at hzz]) rfl ⟨a, c, rfl, own_base (own_out O1.out hoo (fun k hk => by omega)) (by omega), below_out B1.out hoo (fun k hk => by omega)⟩
theorem Accs.two {w : World} {v : Value} {l : List AccX} (h : Accs w v l) : ∃ a c, v = .slice a l.length c ∧ l.length * 32 ≤ 140737488355328 ∧ ∀ i (h : i < l.length), ∃ b off, a = some ⟨b, off, none⟩ ∧ b < w.heap.size ∧ w.cell? ⟨b, off + i * 2, none⟩ = some (.slice (l[i]).fa (l[i]).v.l.length (l[i]).fc) ∧ w.cell? ⟨b, off + i * 2 + 1, none⟩ = some (.int .i64 (l[i]).v.ct) := by
 obtain ⟨h8, a, c, e, hc, hr⟩ := h.row;refine ⟨a, c, e, h8, fun i hi => ?_⟩;obtain ⟨b, off, ha, hb, hcell⟩ := hr (by omega);have g := celC_get accK l i hi
 exact ⟨b, off, ha, hb, (hcell (i * 2) (by omega)).trans (g 0 (by omega)), (hcell (i * 2 + 1) (by omega)).trans (g 1 (by omega))⟩
theorem Lns.five {w : World} {v : Value} {l : List LanX} (h : Lns w v l) : ∃ a c, v = .slice a l.length c ∧ l.length * 88 ≤ 140737488355328 ∧ ∀ i (h : i < l.length), ∃ b off, a = some ⟨b, off, none⟩ ∧ b < w.heap.size ∧ w.cell? ⟨b, off + i * 5, none⟩ = some (.bool (l[i]).v.call) ∧ w.cell? ⟨b, off + i * 5 + 1, none⟩ = some (.int .i64 (l[i]).v.next) ∧ w.cell? ⟨b, off + i * 5 + 2, none⟩ = some (.slice (l[i]).ba (l[i]).v.bids.length (l[i]).bc) ∧ w.cell? ⟨b, off + i * 5 + 3, none⟩ = some (.slice (l[i]).aa (l[i]).v.asks.length (l[i]).ac) ∧ w.cell? ⟨b, off + i * 5 + 4, none⟩ = some (.slice (l[i]).oa (l[i]).v.owed.length (l[i]).oc) := by
 obtain ⟨h8, a, c, e, hc, hr⟩ := h.row;refine ⟨a, c, e, h8, fun i hi => ?_⟩;obtain ⟨b, off, ha, hb, hcell⟩ := hr (by omega);have g := celC_get lanK l i hi
 exact ⟨b, off, ha, hb, (hcell (i * 5) (by omega)).trans (g 0 (by omega)), (hcell (i * 5 + 1) (by omega)).trans (g 1 (by omega)), (hcell (i * 5 + 2) (by omega)).trans (g 2 (by omega)), (hcell (i * 5 + 3) (by omega)).trans (g 3 (by omega)), (hcell (i * 5 + 4) (by omega)).trans (g 4 (by omega))⟩
def AccLBack (vs : List AccV) (w : World) (e : Ending) (w' : World) : Prop := ∃ a c ys, e = .returned (.slice a vs.length c) ∧ ys.map AccX.v = vs ∧ AccsOwn w.heap.size w' (.slice a vs.length c) ys ∧ Below w.heap.size w w'
set_option maxHeartbeats 8000000 in
set_option maxRecDepth 100000 in
theorem accts_is (v : Value) (l : List AccX) (w : World) (h : Accs w v l) : Calls Tryz.prog 45 #[v, .func (.func 46) #[] #[]] w (AccLBack (l.map AccX.v) w) := by
 have HA := hideIt (fun (t : Nat) (ht : t < l.length) W (hW : Below w.heap.size w W) => And.intro (acct_is (l[t]).fa (l[t]).fc (l[t]).v.l (l[t]).v.ct W ((h.at_ l[t] (List.getElem_mem ht)).keep hW)) (h.at_ l[t] (List.getElem_mem ht)).1);obtain ⟨a, c, rfl, h8, hr⟩ := h.two;have HH := hideIt hr;clear hr h
 go_enter Tryz.func45, Tryz.ntmps45
 go_wp2
 go_loopw [5, 10] (fun u x wr => ∃ t : Nat, x = .int .i64 t ∧ t ≤ l.length ∧ ∃ ys : List AccX, Hid (ys.map AccX.v = (l.take t).map AccX.v ∧ AccsOwn w.heap.size wr u ys ∧ Below w.heap.size w wr)) (fun _ x _ => l.length - (intOf x).toNat)
 case atStart => exact ⟨0, rfl, Nat.zero_le _, [], hideIt ⟨rfl, AccsOwn.nil _ _, Below.refl _ _⟩⟩
 case round =>
  obtain ⟨t, rfl, ht, ys, HR⟩ := hrel
  by_cases hlt : t < l.length
  ·have hltI : (t : Int) < (l.length : Int) := by omega
   have ht0 : (0 : Int) ≤ (t : Int) := by omega
   have hyl : ys.length = t := by
    have := congrArg List.length HR.out.1
    simp at this
    omega
   obtain ⟨b, off, rfl, hbl, q0, q1⟩ := HH.out t hlt;have hB := HR.out.2.2;have c0 := (hB.cell (p := ⟨b, off + t * 2, none⟩) hbl).trans q0;have c1 := (hB.cell (p := ⟨b, off + t * 2 + 1, none⟩) hbl).trans q1;have hblr : b < wr.heap.size := Nat.lt_of_lt_of_le hbl hB.size;have HT : Hid ((l.take (t + 1)).map AccX.v = (l.take t).map AccX.v ++ [l[t].v]) := by
    show _ = _
    rw [List.take_succ_eq_append_getElem hlt, List.map_append]
    rfl
   have HC := hideIt (HA.out t hlt);clear q0 q1 HH HA hB hbl;generalize l[t] = s at *;obtain ⟨⟨fr, cnt⟩, fa, fc⟩ := s;simp only at c0 c1 HC HT;have hb1 := below1 wr (.cells #[.slice fa fr.length fc, .int .i64 cnt] 44);have HB1 := hideIt (And.intro hb1 (below_via HR.out.2.2 hb1));clear hb1
   go_wp2_with fail
   refine (HC.out _ HB1.out.2).1.mono ?_;rintro e w1 ⟨a1, d1, rfl, ho, hb⟩;dsimp only;have hfl : fr.length * 16 ≤ 140737488355328 := (HC.out _ HB1.out.2).2;have hb2 := below_via HB1.out.2 hb;have k2 := below_via HB1.out.1 hb;have hs2 := hb2.size;have hb3 := below1 w1 (.cells #[.slice a1 fr.length d1, .int .i64 cnt] 44);have hw2 : w.heap.size ≤ (wr.alloc (.cells #[.slice fa fr.length fc, .int .i64 cnt] 44)).heap.size := HB1.out.2.size;have hO := (HR.out.2.1.keep k2).keep hb3;have hY := ((AccOwn.mk (c := ⟨⟨fr, cnt⟩, a1, d1⟩) ho hfl).base hw2).keep hb3;obtain ⟨v', w', hrun, how, hgr⟩ := app1 (enc := accE) (t := 27) accK acc1 Tryz.underlying27 infoAcc rfl (by omega) (w1.alloc (.cells #[.slice a1 fr.length d1, .int .i64 cnt] 44)) w.heap.size u5 ys ⟨⟨fr, cnt⟩, a1, d1⟩ w1.heap.size 1 (Nat.le_trans hs2 hb3.size) hO.row (heap_alloc_new w1 _) (by omega) (by unfold maxLen; omega)
   have hN := hO.app hY how hgr (by omega);have HN : Hid ((ys ++ [AccX.mk ⟨fr, cnt⟩ a1 d1]).map AccX.v = (l.take (t + 1)).map AccX.v ∧ AccsOwn w.heap.size w' v' (ys ++ [AccX.mk ⟨fr, cnt⟩ a1 d1]) ∧ Below w.heap.size w w') := ⟨by rw [List.map_append, HR.out.1, HT.out]; rfl, hN, grown_own hgr hO.row (Nat.le_refl _) (below_via hb2 hb3)⟩
   have HRUN := hideIt hrun;clear hrun how hgr hN hO hY hw2 hb3 k2 hs2 hb2 ho hb HC HB1 HT HR c0 c1 hfl;generalize fr.length = n1 at *
   go_wp2_with (at_builtin; refine Lib.wpList_append_run _ rfl _ _ _ _ rfl _ _ rfl rfl _ _ HRUN.out ?_)
   clear HRUN;go_wp2
   go_roundw
   case rel => exact ⟨t + 1, by go_num, by omega, _, HN⟩
   case measure => simp [intOf]; omega
  ·have hltI : ¬ (t : Int) < (l.length : Int) := by omega
   have hE : l.take t = l := List.take_of_length_le (by omega);have HG := hideIt HR.out;rw [hE] at HG;obtain ⟨va, vc, hv⟩ := own_len HG.out.2.1.row;have hyl : ys.length = (l.map AccX.v).length := by rw [← HG.out.1, List.length_map]
   clear HR HH hE HA;rw [hv] at HG ⊢;rw [hyl] at HG ⊢;clear hv hyl;go_wp2;go_ret
   exact ⟨va, vc, ys, by simp, HG.out.1, HG.out.2.1, HG.out.2.2⟩
def LanLBack (vs : List LaneV) (w : World) (e : Ending) (w' : World) : Prop := ∃ a c ys, e = .returned (.slice a vs.length c) ∧ ys.map LanX.v = vs ∧ LnsOwn w.heap.size w' (.slice a vs.length c) ys ∧ Below w.heap.size w w'
theorem fLaneX_is (call : Bool) (next : Int) (bids asks : List OrdV) (owed : List OweV) (ba : Option Addr) (bc : Nat) (aa : Option Addr) (ac : Nat) (oa : Option Addr) (oc : Nat) (w : World) (h : LanAt w ⟨⟨call, next, bids, asks, owed⟩, ba, bc, aa, ac, oa, oc⟩) : Calls Tryz.prog 48 #[.agg #[.bool call, .int .i64 next, .slice ba bids.length bc, .slice aa asks.length ac, .slice oa owed.length oc]] w fun e w' => ∃ a2 d2 a3 d3 a4 d4, e = .returned (.agg #[.bool call, .int .i64 next, .slice a2 bids.length d2, .slice a3 asks.length d3, .slice a4 owed.length d4]) ∧ Hid (LanOwn w.heap.size w' ⟨⟨call, next, bids, asks, owed⟩, a2, d2, a3, d3, a4, d4⟩ ∧ Below w.heap.size w w') := by
 refine (fLane_is ⟨call, next, bids, asks, owed⟩ _ _ _ w h).mono ?_;intro e w' hx;obtain ⟨b, a, o, he, ob, oa, oo, _, hb⟩ := hx;obtain ⟨b1, b2, rfl⟩ := own_len ob;obtain ⟨a1, a2, rfl⟩ := own_len oa;obtain ⟨o1, o2, rfl⟩ := own_len oo
 exact ⟨b1, b2, a1, a2, o1, o2, he, hideIt ⟨⟨ob, oa, oo, h.bids.1, h.asks.1, h.owed.1⟩, hb⟩⟩
set_option maxHeartbeats 8000000 in
set_option maxRecDepth 100000 in
theorem lanes_is (v : Value) (l : List LanX) (w : World) (h : Lns w v l) : Calls Tryz.prog 47 #[v, .func (.func 48) #[] #[]] w (LanLBack (l.map LanX.v) w) := by
 have HA := hideIt (fun (t : Nat) (ht : t < l.length) W (hW : Below w.heap.size w W) => fLaneX_is (l[t]).v.call (l[t]).v.next (l[t]).v.bids (l[t]).v.asks (l[t]).v.owed (l[t]).ba (l[t]).bc (l[t]).aa (l[t]).ac (l[t]).oa (l[t]).oc W (LanAt.keep (h.at_ l[t] (List.getElem_mem ht)) hW));obtain ⟨a, c, rfl, h8, hr⟩ := h.five;have HH := hideIt hr;clear hr h
 go_enter Tryz.func47, Tryz.ntmps47
 go_wp2
 go_loopw [5, 10] (fun u x wr => ∃ t : Nat, x = .int .i64 t ∧ t ≤ l.length ∧ ∃ ys : List LanX, Hid (ys.map LanX.v = (l.take t).map LanX.v ∧ LnsOwn w.heap.size wr u ys ∧ Below w.heap.size w wr)) (fun _ x _ => l.length - (intOf x).toNat)
 case atStart => exact ⟨0, rfl, Nat.zero_le _, [], hideIt ⟨rfl, LnsOwn.nil _ _, Below.refl _ _⟩⟩
 case round =>
  obtain ⟨t, rfl, ht, ys, HR⟩ := hrel
  by_cases hlt : t < l.length
  ·have hltI : (t : Int) < (l.length : Int) := by omega
   have ht0 : (0 : Int) ≤ (t : Int) := by omega
   have hyl : ys.length = t := by
    have := congrArg List.length HR.out.1
    simp at this
    omega
   obtain ⟨b, off, rfl, hbl, q0, q1, q2, q3, q4⟩ := HH.out t hlt;have hB := HR.out.2.2;have c0 := (hB.cell (p := ⟨b, off + t * 5, none⟩) hbl).trans q0;have c1 := (hB.cell (p := ⟨b, off + t * 5 + 1, none⟩) hbl).trans q1;have c2 := (hB.cell (p := ⟨b, off + t * 5 + 2, none⟩) hbl).trans q2;have c3 := (hB.cell (p := ⟨b, off + t * 5 + 3, none⟩) hbl).trans q3;have c4 := (hB.cell (p := ⟨b, off + t * 5 + 4, none⟩) hbl).trans q4;have hblr : b < wr.heap.size := Nat.lt_of_lt_of_le hbl hB.size;have HT : Hid ((l.take (t + 1)).map LanX.v = (l.take t).map LanX.v ++ [l[t].v]) := by
    show _ = _
    rw [List.take_succ_eq_append_getElem hlt, List.map_append]
    rfl
   have HC := hideIt (HA.out t hlt);clear q0 q1 q2 q3 q4 HH HA hB hbl;generalize l[t] = s at *;obtain ⟨⟨call, next, bids, asks, owed⟩, ba, bc, aa, ac, oa, oc⟩ := s;simp only at c0 c1 c2 c3 c4 HC HT;have hb1 := below1 wr (.cells #[.bool call, .int .i64 next, .slice ba bids.length bc, .slice aa asks.length ac, .slice oa owed.length oc] 59);have HB1 := hideIt (And.intro hb1 (below_via HR.out.2.2 hb1));clear hb1
   go_wp2_with fail
   refine (HC.out _ HB1.out.2).mono ?_;rintro e w1 ⟨a2, d2, a3, d3, a4, d4, rfl, ho⟩;dsimp only;have hb2 := below_via HB1.out.2 ho.out.2;have k2 := below_via HB1.out.1 ho.out.2;have hs2 := hb2.size;have hb3 := below1 w1 (.cells #[.bool call, .int .i64 next, .slice a2 bids.length d2, .slice a3 asks.length d3, .slice a4 owed.length d4] 59);have hw2 : w.heap.size ≤ (wr.alloc (.cells #[.bool call, .int .i64 next, .slice ba bids.length bc, .slice aa asks.length ac, .slice oa owed.length oc] 59)).heap.size := HB1.out.2.size;have hO := (HR.out.2.1.keep k2).keep hb3;have hY := (ho.out.1.base hw2).keep hb3;obtain ⟨v', w', hrun, how, hgr⟩ := app1 (enc := lanE) (t := 28) lanK lan1 Tryz.underlying28 infoLan rfl (by omega) (w1.alloc (.cells #[.bool call, .int .i64 next, .slice a2 bids.length d2, .slice a3 asks.length d3, .slice a4 owed.length d4] 59)) w.heap.size u5 ys ⟨⟨call, next, bids, asks, owed⟩, a2, d2, a3, d3, a4, d4⟩ w1.heap.size 1 (Nat.le_trans hs2 hb3.size) hO.row (heap_alloc_new w1 _) (by omega) (by unfold maxLen; omega)
   have hN := hO.app hY how hgr (by omega);have HN : Hid ((ys ++ [LanX.mk ⟨call, next, bids, asks, owed⟩ a2 d2 a3 d3 a4 d4]).map LanX.v = (l.take (t + 1)).map LanX.v ∧ LnsOwn w.heap.size w' v' (ys ++ [LanX.mk ⟨call, next, bids, asks, owed⟩ a2 d2 a3 d3 a4 d4]) ∧ Below w.heap.size w w') := ⟨by rw [List.map_append, HR.out.1, HT.out]; rfl, hN, grown_own hgr hO.row (Nat.le_refl _) (below_via hb2 hb3)⟩
   have HRUN := hideIt hrun;clear hrun how hgr hN hO hY hw2 hb3 k2 hs2 hb2 ho HC HB1 HT HR c0 c1 c2 c3 c4;generalize bids.length = n2 at *;generalize asks.length = n3 at *;generalize owed.length = n4 at *
   go_wp2_with (at_builtin; refine Lib.wpList_append_run _ rfl _ _ _ _ rfl _ _ rfl rfl _ _ HRUN.out ?_)
   clear HRUN;go_wp2
   go_roundw
   case rel => exact ⟨t + 1, by go_num, by omega, _, HN⟩
   case measure => simp [intOf]; omega
  ·have hltI : ¬ (t : Int) < (l.length : Int) := by omega
   have hE : l.take t = l := List.take_of_length_le (by omega);have HG := hideIt HR.out;rw [hE] at HG;obtain ⟨va, vc, hv⟩ := own_len HG.out.2.1.row;have hyl : ys.length = (l.map LanX.v).length := by rw [← HG.out.1, List.length_map]
   clear HR HH hE HA;rw [hv] at HG ⊢;rw [hyl] at HG ⊢;clear hv hyl;go_wp2;go_ret
   exact ⟨va, vc, ys, by simp, HG.out.1, HG.out.2.1, HG.out.2.2⟩
end Go.Proofs.YtiinigifjdpicaaGreatDoor
