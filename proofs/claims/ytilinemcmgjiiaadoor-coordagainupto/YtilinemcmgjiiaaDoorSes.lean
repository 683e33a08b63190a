/- Sessions and their answers: plain data and memory. -/
import Derived.Test.YtilinemcmgjiiaaDoorAskW
namespace Go.Proofs.YtilinemcmgjiiaaDoor
open Go.RowKit
set_option linter.all false
abbrev AmV := Int × Int
abbrev FilV := Int × Int × Int × Int
def amE (a : AmV) : List Value := [.int .i64 a.1, .int .i64 a.2]
theorem amK (a : AmV) : (amE a).length = 2 := rfl
theorem am1 (a : AmV) : ∀ u ∈ amE a, u.oneCell' = true := by
  intro u hu
  simp only [amE, List.mem_cons, List.not_mem_nil, or_false] at hu
  rcases hu with rfl | rfl <;> rfl
def filE (f : FilV) : List Value := [.int .i64 f.1, .int .i64 f.2.1, .int .i64 f.2.2.1, .int .i64 f.2.2.2]
theorem filK (f : FilV) : (filE f).length = 4 := rfl
theorem fil1 (f : FilV) : ∀ u ∈ filE f, u.oneCell' = true := by
  intro u hu
  simp only [filE, List.mem_cons, List.not_mem_nil, or_false] at hu
  rcases hu with rfl | rfl | rfl | rfl <;> rfl
abbrev Ams (w : World) (v : Value) (l : List AmV) : Prop := SGot 2 16 amE w v l
abbrev Fls (w : World) (v : Value) (l : List FilV) : Prop := SGot 4 32 filE w v l
/-- An answer. -/
structure AnsV where
  code : Int
  num : Int
  am : List AmV
  fl : List FilV
def zAns : AnsV := ⟨0, 0, [], []⟩
/-- An answer, and where its lists are. -/
structure AnsX where
  v : AnsV
  aa : Option Addr
  ac : Nat
  fa : Option Addr
  fc : Nat
def AnsX.am (x : AnsX) : Value := .slice x.aa x.v.am.length x.ac
def AnsX.fl (x : AnsX) : Value := .slice x.fa x.v.fl.length x.fc
def AnsX.cs (x : AnsX) : Array Value := #[.int .i64 x.v.code, .int .i64 x.v.num, x.am, x.fl]
def zAnsX : AnsX := ⟨zAns, none, 0, none, 0⟩
structure AnsAt (w : World) (x : AnsX) : Prop where
  a : Ams w x.am x.v.am
  f : Fls w x.fl x.v.fl
structure AnsOwn (B : Nat) (w : World) (x : AnsX) : Prop where
  a : w.ownsRow B 72 2 x.am x.v.am.length (celC amE x.v.am)
  f : w.ownsRow B 146 4 x.fl x.v.fl.length (celC filE x.v.fl)
  sa : x.v.am.length * 16 ≤ 140737488355328
  sf : x.v.fl.length * 32 ≤ 140737488355328
theorem AnsAt.keep {w w' : World} {x : AnsX} (h : AnsAt w x) (hb : Below w.heap.size w w') : AnsAt w' x := ⟨h.a.keep hb, h.f.keep hb⟩
theorem AnsOwn.at_ {B : Nat} {w : World} {x : AnsX} (h : AnsOwn B w x) : AnsAt w x := ⟨own_sgot h.a h.sa, own_sgot h.f h.sf⟩
theorem AnsOwn.keep {B : Nat} {w w' : World} {x : AnsX} (h : AnsOwn B w x) (hb : Below w.heap.size w w') : AnsOwn B w' x := ⟨own_keep h.a hb, own_keep h.f hb, h.sa, h.sf⟩
theorem AnsOwn.base {B B' : Nat} {w : World} {x : AnsX} (h : AnsOwn B w x) (hb : B' ≤ B) : AnsOwn B' w x := ⟨own_base h.a hb, own_base h.f hb, h.sa, h.sf⟩
theorem zAt (w : World) : AnsAt w zAnsX := ⟨SGot.nil _ _ _ _ _ _ (Nat.zero_le _), SGot.nil _ _ _ _ _ _ (Nat.zero_le _)⟩
theorem zOwnA (B : Nat) (w : World) : AnsOwn B w zAnsX := ⟨own_nil _ _, own_nil _ _, by simp [zAnsX, zAns], by simp [zAnsX, zAns]⟩
/-- A cell of a box of another type is written. -/
theorem AnsOwn.set {B D j : Nat} {w : World} {x : AnsX} {cs : Array Value} {t : TypeId} {u : Value} (h : AnsOwn B w x) (hd : w.heap[D]? = some (.cells cs t (0, 0))) (h1 : (72 : TypeId) ≠ t) (h2 : (146 : TypeId) ≠ t) : AnsOwn B (w.setCell ⟨D, j, none⟩ u) x :=
  ⟨own_cell h.a hd h1, own_cell h.f hd h2, h.sa, h.sf⟩
/-- A row of one type turns, one of another stays. -/
theorem own_kept {w w' : World} {B B2 : Nat} {e e2 : TypeId} {z z2 n n2 : Nat} {v v2 : Value} {xs ys : List Value} (h : w.grownBy w' v.ownBlock) (ho : w.ownsRow B e z v n xs) (h2 : w.ownsRow B2 e2 z2 v2 n2 ys) (hne : e ≠ e2) : w'.ownsRow B2 e2 z2 v2 n2 ys := by
  obtain ⟨h1, hn | ⟨g, cap, cur, hv, hb, hg, rest⟩⟩ := h2
  · exact ⟨h1, .inl hn⟩
  · exact ⟨h1, .inr ⟨g, cap, cur, hv, hb, box_type h ho hg hne, rest⟩⟩
theorem AnsOwn.kept {w w' : World} {B B2 : Nat} {e : TypeId} {z n : Nat} {v : Value} {xs : List Value} {x : AnsX} (k : AnsOwn B2 w x) (h : w.grownBy w' v.ownBlock) (ho : w.ownsRow B e z v n xs) (h1 : e ≠ 72) (h2 : e ≠ 146) : AnsOwn B2 w' x :=
  ⟨own_kept h ho k.a h1, own_kept h ho k.f h2, k.sa, k.sf⟩
/-- A session. -/
structure SesV where
  c : Int
  q : Int
  d : Bool
  a : AnsV
structure SesX where
  c : Int
  q : Int
  d : Bool
  x : AnsX
def SesX.v (s : SesX) : SesV := ⟨s.c, s.q, s.d, s.x.v⟩
def sesE (s : SesX) : List Value := [.int .i64 s.c, .int .i64 s.q, .bool s.d, .int .i64 s.x.v.code, .int .i64 s.x.v.num, s.x.am, s.x.fl]
theorem sesK (s : SesX) : (sesE s).length = 7 := rfl
theorem ses1 (s : SesX) : ∀ u ∈ sesE s, u.oneCell' = true := by
  intro u hu
  simp only [sesE, List.mem_cons, List.not_mem_nil, or_false] at hu
  rcases hu with rfl | rfl | rfl | rfl | rfl | rfl | rfl <;> rfl
structure Sess (w : World) (v : Value) (l : List SesX) : Prop where
  row : SGot 7 88 sesE w v l
  ans : ∀ s ∈ l, AnsAt w s.x
  nul : ∀ n c, v = .slice none n c → n = 0 ∧ c = 0
theorem Sess.keep {w w' : World} {v : Value} {l : List SesX} (h : Sess w v l) (hb : Below w.heap.size w w') : Sess w' v l := ⟨h.row.keep hb, fun s hs => (h.ans s hs).keep hb, h.nul⟩
theorem Sess.nil (w : World) : Sess w (.slice none 0 0) [] := ⟨SGot.nil _ _ _ _ _ _ (Nat.zero_le _), (fun _ h => by cases h), fun n c e => by simp only [Value.slice.injEq] at e; omega⟩
theorem own_nul {w : World} {B : Nat} {e : TypeId} {z n : Nat} {v : Value} {xs : List Value} (h : w.ownsRow B e z v n xs) : ∀ m c, v = .slice none m c → m = 0 ∧ c = 0 := by
  intro m c e
  obtain ⟨_, ⟨rfl, rfl⟩ | ⟨g, cap, cur, rfl, _⟩⟩ := h
  · simp only [Value.slice.injEq] at e
    omega
  · simp at e
structure SesOwn (B : Nat) (w : World) (v : Value) (l : List SesX) : Prop where
  row : w.ownsRow B 133 7 v l.length (celC sesE l)
  ans : ∀ s ∈ l, AnsOwn B w s.x
  siz : l.length * 88 ≤ 140737488355328
theorem SesOwn.at_ {B : Nat} {w : World} {v : Value} {l : List SesX} (h : SesOwn B w v l) : Sess w v l := ⟨own_sgot h.row h.siz, fun s hs => (h.ans s hs).at_, own_nul h.row⟩
theorem SesOwn.keep {B : Nat} {w w' : World} {v : Value} {l : List SesX} (h : SesOwn B w v l) (hb : Below w.heap.size w w') : SesOwn B w' v l := ⟨own_keep h.row hb, fun s hs => (h.ans s hs).keep hb, h.siz⟩
theorem SesOwn.base {B B' : Nat} {w : World} {v : Value} {l : List SesX} (h : SesOwn B w v l) (hb : B' ≤ B) : SesOwn B' w v l := ⟨own_base h.row hb, fun s hs => (h.ans s hs).base hb, h.siz⟩
theorem SesOwn.nil (B : Nat) (w : World) : SesOwn B w (.slice none 0 0) [] := ⟨own_nil _ _, (fun _ h => by cases h), by simp⟩
/-- The seven cells of a session. -/
theorem Sess.seven {w : World} {v : Value} {l : List SesX} (h : Sess w v l) : ∃ a c, v = .slice a l.length c ∧ l.length * 88 ≤ 140737488355328 ∧ ∀ i (h : i < l.length), ∃ b off, a = some ⟨b, off, none⟩ ∧ b < w.heap.size ∧ w.cell? ⟨b, off + i * 7, none⟩ = some (.int .i64 l[i].c) ∧ w.cell? ⟨b, off + i * 7 + 1, none⟩ = some (.int .i64 l[i].q) ∧ w.cell? ⟨b, off + i * 7 + 2, none⟩ = some (.bool l[i].d) ∧ w.cell? ⟨b, off + i * 7 + 3, none⟩ = some (.int .i64 l[i].x.v.code) ∧ w.cell? ⟨b, off + i * 7 + 4, none⟩ = some (.int .i64 l[i].x.v.num) ∧ w.cell? ⟨b, off + i * 7 + 5, none⟩ = some (l[i].x.am) ∧ w.cell? ⟨b, off + i * 7 + 6, none⟩ = some (l[i].x.fl) := by
  obtain ⟨⟨h8, a, c, rfl, _, hr⟩, _, _⟩ := h
  refine ⟨a, c, rfl, h8, fun i hi => ?_⟩
  obtain ⟨b, off, rfl, hlt, hc⟩ := hr (by omega)
  have g := celC_get sesK l i hi
  exact ⟨b, off, rfl, hlt, (hc (i * 7) (by omega)).trans (g 0 (by omega)), (hc (i * 7 + 1) (by omega)).trans (g 1 (by omega)), (hc (i * 7 + 2) (by omega)).trans (g 2 (by omega)), (hc (i * 7 + 3) (by omega)).trans (g 3 (by omega)), (hc (i * 7 + 4) (by omega)).trans (g 4 (by omega)), (hc (i * 7 + 5) (by omega)).trans (g 5 (by omega)), (hc (i * 7 + 6) (by omega)).trans (g 6 (by omega))⟩
theorem info55 : (Tryd.prog.info? 72).map (fun i => (i.zero, i.size, i.bytes)) = some (some (.agg #[.int .i64 0, .int .i64 0]), 2, 16) := by kernel_rfl
theorem info81 : (Tryd.prog.info? 146).map (fun i => (i.zero, i.size, i.bytes)) = some (some (.agg #[.int .i64 0, .int .i64 0, .int .i64 0, .int .i64 0]), 4, 32) := by kernel_rfl
theorem info69 : (Tryd.prog.info? 133).map (fun i => (i.zero, i.size, i.bytes)) = some (some (.agg #[.int .i64 0, .int .i64 0, .bool false, .int .i64 0, .int .i64 0, .slice none 0 0, .slice none 0 0]), 7, 88) := by kernel_rfl
/-- Nothing behind a list of the call's own. -/
theorem app_none {t e : TypeId} {z : Value} {k bytes : Nat} (ht : Tryd.prog.underlying t = some (.slice e)) (hi : (Tryd.prog.info? e).map (fun i => (i.zero, i.size, i.bytes)) = some (some z, k, bytes)) (w : World) (B : Nat) (v : Value) (n : Nat) (xs : List Value) (hown : w.ownsRow B e k v n xs) (c : Nat) : (Builtin.append_ #[t, t] t #[v, .slice none 0 c]).run Tryd.prog w = .ok v w := by
  obtain ⟨i, hi, hz0, hz1, hz2⟩ := info_parts hi
  rcases hown.2 with ⟨rfl, rfl⟩ | ⟨g, cap, cur, rfl, _, _, hnc, _⟩
  · simp [Builtin.append_, run_underlying ht, sizeOf, typeInfo, hi, Builtin.lenOf, Builtin.firstCells]
  · simp [Builtin.append_, run_underlying ht, sizeOf, typeInfo, hi, Builtin.lenOf, Builtin.firstCells, hnc, storeCells]
/-- Whatever list behind one of the call's own. -/
theorem appG {α : Type} {k bytes : Nat} {enc : α → List Value} {t e : TypeId} {z : Value} (hk : ∀ x, (enc x).length = k) (h1 : ∀ x, ∀ u ∈ enc x, u.oneCell' = true) (ht : Tryd.prog.underlying t = some (.slice e))
    (hi : (Tryd.prog.info? e).map (fun i => (i.zero, i.size, i.bytes)) = some (some z, k, bytes)) (hz : z.cells.size = k) (hk0 : 0 < k) (hb0 : 8 ≤ bytes) (w : World) (B : Nat) (v g : Value) (xs l : List α) (hB : B ≤ w.heap.size)
    (ho : w.ownsRow B e k v xs.length (celC enc xs)) (hg : SGot k bytes enc w g l) (hl : (xs.length + l.length) * bytes ≤ 140737488355328) :
    ∃ v' w', (Builtin.append_ #[t, t] t #[v, g]).run Tryd.prog w = .ok v' w' ∧ w'.ownsRow B e k v' (xs ++ l).length (celC enc (xs ++ l)) ∧ w.grownBy w' v.ownBlock := by
  obtain ⟨a, c, rfl⟩ := hg.slice
  cases a with
  | none =>
    have h0 : l.length = 0 := by
      obtain ⟨_, a', c', e', _, hr⟩ := hg
      simp only [Value.slice.injEq] at e'
      rcases Nat.eq_zero_or_pos l.length with h0 | h0
      · exact h0
      · obtain ⟨b, off, hb, _⟩ := hr h0
        rw [← e'.1] at hb
        cases hb
    have hl0 : l = [] := List.length_eq_zero_iff.1 h0
    subst hl0
    rw [List.append_nil]
    exact ⟨v, w, app_none ht hi w B v xs.length (celC enc xs) ho c, ho, grown_refl w _⟩
  | some b => exact appL hk h1 ht hi hz hk0 hb0 w B v xs l b l.length c rfl hB ho hg hl
end Go.Proofs.YtilinemcmgjiiaaDoor
