/- Copies of answers and sessions. -/
import Derived.Test.YtilinemcmgjiiaaDoorSes
namespace Go.Proofs.YtilinemcmgjiiaaDoor
open Go.RowKit
set_option linter.all false
set_option maxRecDepth 100000 in
set_option maxHeartbeats 4000000 in
theorem cloneA_is (v : Value) (l : List AmV) (w : World) (h : Ams w v l) : Calls Tryd.prog 19 #[v] w fun e w' => ∃ v', e = .returned v' ∧ w'.ownsRow w.heap.size 72 2 v' l.length (celC amE l) ∧ Below w.heap.size w w' := by
  obtain ⟨a, c, rfl⟩ := h.slice
  have q22 : ∀ (w : World) (a : Option Addr) (n c n' c' : Nat), (binOp .eql 41 (.slice a n c) (.slice none n' c')).run Tryd.prog w = .ok (.bool a.isNone) w := fun w a n c n' c' => Lib.run_eql_slice_nil w _ _ a n c n' c' Tryd.underlying41
  cases a with
  | none =>
    have h0 : l.length = 0 := by
      obtain ⟨_, a', c', e', _, hr⟩ := h
      simp only [Value.slice.injEq] at e'
      rcases Nat.eq_zero_or_pos l.length with h0 | h0
      · exact h0
      · obtain ⟨b, off, hb, _⟩ := hr h0
        rw [← e'.1] at hb
        cases hb
    have hl : l = [] := List.length_eq_zero_iff.1 h0
    subst hl
    simp only [List.length_nil]
    clear h h0
    go_enter Tryd.func19, Tryd.ntmps19
    go_wp2
    go_ret
    exact ⟨_, rfl, own_nil _ _, Below.refl _ _⟩
  | some b =>
    obtain ⟨v', w', hrun, how, hgr⟩ := appL (enc := amE) (t := 41) amK am1 Tryd.underlying41 info55 rfl (by omega) (by omega) (w.alloc (.cells #[] 72)) w.heap.size (.slice (some ⟨w.heap.size, 0, none⟩) 0 0) [] l b l.length c rfl (by simp) (World.ownsRow_made w #[] 0 (Nat.le_refl _) (Nat.zero_le _) (by simp)) (h.keep (below1 w _)) (by have := h.1; rw [List.length_nil]; omega)
    rw [List.nil_append] at how
    have HRUN := hideIt hrun
    have HR := hideIt (And.intro how (below_out (below1 w (.cells #[] 72)) (Out.ofGrown (F := fun k => w.heap.size ≤ k) hgr (fun k hk => by simp only [Value.ownBlock, Option.some.injEq] at hk; omega)) (fun _ h => h)))
    clear hrun how hgr h
    generalize l.length = n at *
    obtain ⟨bb, bo, bp⟩ := b
    go_enter Tryd.func19, Tryd.ntmps19
    go_wp2_with (at_builtin; refine Lib.wpList_append_run _ rfl _ _ _ _ rfl _ _ rfl rfl _ _ HRUN.out ?_)
    go_ret
    exact ⟨_, rfl, HR.out.1, HR.out.2⟩
set_option maxRecDepth 100000 in
set_option maxHeartbeats 4000000 in
theorem cloneF_is (v : Value) (l : List FilV) (w : World) (h : Fls w v l) : Calls Tryd.prog 72 #[v] w fun e w' => ∃ v', e = .returned v' ∧ w'.ownsRow w.heap.size 146 4 v' l.length (celC filE l) ∧ Below w.heap.size w w' := by
  obtain ⟨a, c, rfl⟩ := h.slice
  have q22 : ∀ (w : World) (a : Option Addr) (n c n' c' : Nat), (binOp .eql 42 (.slice a n c) (.slice none n' c')).run Tryd.prog w = .ok (.bool a.isNone) w := fun w a n c n' c' => Lib.run_eql_slice_nil w _ _ a n c n' c' Tryd.underlying42
  cases a with
  | none =>
    have h0 : l.length = 0 := by
      obtain ⟨_, a', c', e', _, hr⟩ := h
      simp only [Value.slice.injEq] at e'
      rcases Nat.eq_zero_or_pos l.length with h0 | h0
      · exact h0
      · obtain ⟨b, off, hb, _⟩ := hr h0
        rw [← e'.1] at hb
        cases hb
    have hl : l = [] := List.length_eq_zero_iff.1 h0
    subst hl
    simp only [List.length_nil]
    clear h h0
    go_enter Tryd.func72, Tryd.ntmps72
    go_wp2
    go_ret
    exact ⟨_, rfl, own_nil _ _, Below.refl _ _⟩
  | some b =>
    obtain ⟨v', w', hrun, how, hgr⟩ := appL (enc := filE) (t := 42) filK fil1 Tryd.underlying42 info81 rfl (by omega) (by omega) (w.alloc (.cells #[] 146)) w.heap.size (.slice (some ⟨w.heap.size, 0, none⟩) 0 0) [] l b l.length c rfl (by simp) (World.ownsRow_made w #[] 0 (Nat.le_refl _) (Nat.zero_le _) (by simp)) (h.keep (below1 w _)) (by have := h.1; rw [List.length_nil]; omega)
    rw [List.nil_append] at how
    have HRUN := hideIt hrun
    have HR := hideIt (And.intro how (below_out (below1 w (.cells #[] 146)) (Out.ofGrown (F := fun k => w.heap.size ≤ k) hgr (fun k hk => by simp only [Value.ownBlock, Option.some.injEq] at hk; omega)) (fun _ h => h)))
    clear hrun how hgr h
    generalize l.length = n at *
    obtain ⟨bb, bo, bp⟩ := b
    go_enter Tryd.func72, Tryd.ntmps72
    go_wp2_with (at_builtin; refine Lib.wpList_append_run _ rfl _ _ _ _ rfl _ _ rfl rfl _ _ HRUN.out ?_)
    go_ret
    exact ⟨_, rfl, HR.out.1, HR.out.2⟩
theorem cloneAs (v : Value) (l : List AmV) (w : World) (h : Ams w v l) : Calls Tryd.prog 19 #[v] w fun e w' => ∃ a' c', e = .returned (.slice a' l.length c') ∧ w'.ownsRow w.heap.size 72 2 (.slice a' l.length c') l.length (celC amE l) ∧ Below w.heap.size w w' := by
  refine (cloneA_is v l w h).mono ?_
  rintro e w' ⟨v', rfl, ho, hb⟩
  obtain ⟨a', c', rfl⟩ := own_len ho
  exact ⟨a', c', rfl, ho, hb⟩
theorem cloneFs (v : Value) (l : List FilV) (w : World) (h : Fls w v l) : Calls Tryd.prog 72 #[v] w fun e w' => ∃ a' c', e = .returned (.slice a' l.length c') ∧ w'.ownsRow w.heap.size 146 4 (.slice a' l.length c') l.length (celC filE l) ∧ Below w.heap.size w w' := by
  refine (cloneF_is v l w h).mono ?_
  rintro e w' ⟨v', rfl, ho, hb⟩
  obtain ⟨a', c', rfl⟩ := own_len ho
  exact ⟨a', c', rfl, ho, hb⟩
theorem own_put4 {w : World} {B D : Nat} {e t : TypeId} {z n : Nat} {v z0 z1 z2 z3 : Value} {xs : List Value} (u0 u1 u2 u3 : Value) (ho : w.ownsRow B e z v n xs) (hd : w.heap[D]? = some (.cells #[z0, z1, z2, z3] t (0, 0))) (hne : e ≠ t) :
    ((((w.setCell ⟨D, 0, none⟩ u0).setCell ⟨D, 1, none⟩ u1).setCell ⟨D, 2, none⟩ u2).setCell ⟨D, 3, none⟩ u3).ownsRow B e z v n xs := by
  have h0 := heap_set hd 0 u0
  have h1 := heap_set h0 1 u1
  have h2 := heap_set h1 2 u2
  exact own_cell (own_cell (own_cell (own_cell ho hd hne) h0 hne) h1 hne) h2 hne
/-- An answer of the call's own comes back. -/
def AnsBack (v : AnsV) (w : World) (e : Ending) (w' : World) : Prop := ∃ y : AnsX, e = .returned (.agg y.cs) ∧ y.v = v ∧ AnsOwn w.heap.size w' y ∧ Below w.heap.size w w'
theorem four_at {w : World} {p : Nat} {z0 z1 z2 z3 : Value} {t : TypeId} (h : w.heap[p]? = some (.cells #[z0, z1, z2, z3] t (0, 0))) : w.cell? ⟨p, 0, none⟩ = some z0 ∧ w.cell? ⟨p, 1, none⟩ = some z1 ∧ w.cell? ⟨p, 2, none⟩ = some z2 ∧ w.cell? ⟨p, 3, none⟩ = some z3 ∧ w.frozen? ⟨p, 0, none⟩ = false ∧ w.frozen? ⟨p, 1, none⟩ = false ∧ w.frozen? ⟨p, 2, none⟩ = false ∧ w.frozen? ⟨p, 3, none⟩ = false ∧ p < w.heap.size :=
  ⟨by rw [cell_at h]; rfl, by rw [cell_at h]; rfl, by rw [cell_at h]; rfl, by rw [cell_at h]; rfl, free_at h 0, free_at h 1, free_at h 2, free_at h 3, (Array.getElem?_eq_some_iff.1 h).1⟩
set_option maxHeartbeats 4000000 in
set_option maxRecDepth 100000 in
theorem answer_is (x : AnsX) (w : World) (h : AnsAt w x) : Calls Tryd.prog 57 #[.agg x.cs] w (AnsBack x.v w) := by
  have HA := hideIt (fun W (hW : Below w.heap.size w W) => cloneAs _ _ W (h.a.keep hW))
  have HF := hideIt (fun W (hW : Below w.heap.size w W) => cloneFs _ _ W (h.f.keep hW))
  have sa := h.a.1
  have sf := h.f.1
  clear h
  obtain ⟨⟨code, num, am, fl⟩, aa, ac, fa, fc⟩ := x
  simp only [AnsX.cs, AnsX.am, AnsX.fl] at *
  have X0 := hideIt (two_heap w (.cells #[.int .i64 code, .int .i64 num, .slice aa am.length ac, .slice fa fl.length fc] 44) (.cells #[.int .i64 0, .int .i64 0, .slice none 0 0, .slice none 0 0] 44))
  have B0 := hideIt (below2 w (.cells #[.int .i64 code, .int .i64 num, .slice aa am.length ac, .slice fa fl.length fc] 44) (.cells #[.int .i64 0, .int .i64 0, .slice none 0 0, .slice none 0 0] 44))
  have HS := hideIt (And.intro sa sf)
  clear sa sf
  obtain ⟨n, hn⟩ : ∃ n, n = am.length := ⟨_, rfl⟩
  obtain ⟨m, hm⟩ : ∃ m, m = fl.length := ⟨_, rfl⟩
  rw [← hn] at HA HS X0 B0 ⊢
  rw [← hm] at HF HS X0 B0 ⊢
  have HN := hideIt (And.intro hn hm)
  clear hn hm
  go_enter Tryd.func57, Tryd.ntmps57
  go_wp2_with fail
  refine (HA.out _ B0.out).mono ?_
  rintro e w1 ⟨a1, c1, rfl, ho, hb⟩
  dsimp only
  have hz := X0.out.2.2
  have p0 := (hb.block w.heap.size (by omega)).trans X0.out.1
  have p1 := (hb.block (w.heap.size + 1) (by omega)).trans X0.out.2.1
  have e1 : (w1.setCell ⟨w.heap.size, 2, none⟩ (.slice a1 n c1)).heap[w.heap.size]? = some (.cells #[.int .i64 code, .int .i64 num, .slice a1 n c1, .slice fa m fc] 44 (0, 0)) := heap_set p0 2 _
  have K1 := hideIt (And.intro e1 (And.intro (setOther (b := w.heap.size) (j := 2) (.slice a1 n c1) p1 (by omega)) (And.intro (belowSet (j := 2) (.slice a1 n c1) (below_via B0.out hb) (Nat.le_refl _)) (own_base (own_cell (j := 2) (u := .slice a1 n c1) ho p0 (by decide)) (B' := w.heap.size) (by omega)))))
  obtain ⟨-, -, k2, k3, -, -, f2, -, kz⟩ := four_at p0
  clear hz p0 p1 e1 ho hb X0 B0 HA
  go_wp2_with fail
  generalize w1.setCell ⟨w.heap.size, 2, none⟩ (.slice a1 n c1) = W1 at *
  clear k2 k3 f2 kz
  refine (HF.out _ K1.out.2.2.1).mono ?_
  rintro e w2 ⟨a2, c2, rfl, ho, hb⟩
  dsimp only
  have p0 := (hb.block w.heap.size (Array.getElem?_eq_some_iff.1 K1.out.1).1).trans K1.out.1
  have p1 := (hb.block (w.heap.size + 1) (Array.getElem?_eq_some_iff.1 K1.out.2.1).1).trans K1.out.2.1
  have e1 : (w2.setCell ⟨w.heap.size, 3, none⟩ (.slice a2 m c2)).heap[w.heap.size]? = some (.cells #[.int .i64 code, .int .i64 num, .slice a1 n c1, .slice a2 m c2] 44 (0, 0)) := heap_set p0 3 _
  have q1 := setOther (b := w.heap.size) (j := 3) (.slice a2 m c2) p1 (by omega)
  have K2 := hideIt (And.intro (put4 _ (w.heap.size + 1) 44 (.int .i64 code) (.int .i64 num) (.slice a1 n c1) (.slice a2 m c2) q1) (belowSet (j := 3) (.slice a2 m c2) (below_via K1.out.2.2.1 hb) (Nat.le_refl _)))
  have OA := own_cell (j := 3) (u := .slice a2 m c2) (own_keep K1.out.2.2.2 hb) p0 (by decide)
  have OF := own_base (own_cell (j := 3) (u := .slice a2 m c2) ho p0 (by decide)) (B' := w.heap.size) K1.out.2.2.1.size
  have KO := hideIt (And.intro OA (And.intro OF q1))
  obtain ⟨g0, g1, g2, g3, -, -, -, f3, kz⟩ := four_at p0
  obtain ⟨z0, z1, z2, z3, y0, y1, y2, y3, yz⟩ := four_at p1
  have nP : w.heap.size + 1 ≠ w.heap.size := by omega
  clear e1 p0 p1 q1 OA OF ho hb K1 HF
  go_wp2
  have k4 := four_at K2.out.1
  obtain ⟨hn, hm⟩ := HN.out
  exact bodyPost_ret (v := .agg #[.int .i64 code, .int .i64 num, .slice a1 n c1, .slice a2 m c2]) (by simp [results, Tryd.results57, go_sem, k4.1, k4.2.1, k4.2.2.1, k4.2.2.2.1]) rfl
    ⟨⟨⟨code, num, am, fl⟩, a1, c1, a2, c2⟩, by simp only [AnsX.cs, AnsX.am, AnsX.fl, hn, hm], rfl, ⟨by
      have := own_put4 (.int .i64 code) (.int .i64 num) (.slice a1 n c1) (.slice a2 m c2) KO.out.1 KO.out.2.2 (by decide)
      simpa only [AnsX.am, hn] using this, by
      have := own_put4 (.int .i64 code) (.int .i64 num) (.slice a1 n c1) (.slice a2 m c2) KO.out.2.1 KO.out.2.2 (by decide)
      simpa only [AnsX.fl, hm] using this, by rw [← hn]; exact HS.out.1, by rw [← hm]; exact HS.out.2⟩, belowSet _ (belowSet _ (belowSet _ (belowSet _ K2.out.2 (by omega)) (by omega)) (by omega)) (by omega)⟩
end Go.Proofs.YtilinemcmgjiiaaDoor
