/- Copies of accounts, lanes and cells: walked. -/
import Derived.Test.YtilinemcmgjiiaaDoorPt
namespace Go.Proofs.YtilinemcmgjiiaaDoor
open Go.RowKit
set_option linter.all false
structure PeeV where
  k : Int
  n : Int
  g : Int
  vo : Bool
  ac : Bool
def peeE (p : PeeV) : List Value := [.int .i64 p.k, .int .i64 p.n, .int .i64 p.g, .bool p.vo, .bool p.ac]
theorem peeK (p : PeeV) : (peeE p).length = 5 := rfl
theorem pee1 (p : PeeV) : ∀ u ∈ peeE p, u.oneCell' = true := by
  intro u hu
  simp only [peeE, List.mem_cons, List.not_mem_nil, or_false] at hu
  rcases hu with rfl | rfl | rfl | rfl | rfl <;> rfl
abbrev Pees (w : World) (v : Value) (l : List PeeV) : Prop := SGot 5 32 peeE w v l
set_option maxRecDepth 100000 in
set_option maxHeartbeats 4000000 in
theorem cloneO_is (v : Value) (l : List OrdV) (w : World) (h : Ords w v l) : Calls Tryd.prog 53 #[v] w fun e w' => ∃ a' c', e = .returned (.slice a' l.length c') ∧ w'.ownsRow w.heap.size 121 4 (.slice a' l.length c') l.length (celC ordE l) ∧ Below w.heap.size w w' := by
  obtain ⟨a, c, rfl⟩ := h.slice
  have q22 : ∀ (w : World) (a : Option Addr) (n c n' c' : Nat), (binOp .eql 76 (.slice a n c) (.slice none n' c')).run Tryd.prog w = .ok (.bool a.isNone) w := fun w a n c n' c' => Lib.run_eql_slice_nil w _ _ a n c n' c' Tryd.underlying76
  cases a with
  | none =>
    have h0 : l.length = 0 := by
      obtain ⟨_, a', c', e', _, hr⟩ := h
      simp only [Value.slice.injEq] at e'
      rcases Nat.eq_zero_or_pos l.length with h0 | h0
      · exact h0
      · obtain ⟨b, off, hb, _⟩ := hr h0
        rw [← e'.1] at hb
        cases hb
    have hl : l = [] := List.length_eq_zero_iff.1 h0
    subst hl
    simp only [List.length_nil]
    clear h h0
    go_enter Tryd.func53, Tryd.ntmps53
    go_wp2
    go_ret
    exact ⟨_, _, rfl, own_nil _ _, Below.refl _ _⟩
  | some b =>
    obtain ⟨v', w', hrun, how, hgr⟩ := appL (enc := ordE) (t := 76) ordK ord1 Tryd.underlying76 infoOrd rfl (by omega) (by omega) (w.alloc (.cells #[] 121)) w.heap.size (.slice (some ⟨w.heap.size, 0, none⟩) 0 0) [] l b l.length c rfl (by simp) (World.ownsRow_made w #[] 0 (Nat.le_refl _) (Nat.zero_le _) (by simp)) (h.keep (below1 w _)) (by have := h.1; rw [List.length_nil]; omega)
    rw [List.nil_append] at how
    obtain ⟨a5, c5, rfl⟩ := own_len how
    have HRUN := hideIt hrun
    have HR := hideIt (And.intro how (below_out (below1 w (.cells #[] 121)) (Out.ofGrown (F := fun k => w.heap.size ≤ k) hgr (fun k hk => by simp only [Value.ownBlock, Option.some.injEq] at hk; omega)) (fun _ h => h)))
    clear hrun how hgr h
    generalize l.length = n at *
    obtain ⟨bb, bo, bp⟩ := b
    go_enter Tryd.func53, Tryd.ntmps53
    go_wp2_with (at_builtin; refine Lib.wpList_append_run _ rfl _ _ _ _ rfl _ _ rfl rfl _ _ HRUN.out ?_)
    go_ret
    exact ⟨_, _, rfl, HR.out.1, HR.out.2⟩
set_option maxRecDepth 100000 in
set_option maxHeartbeats 4000000 in
theorem cloneW_is (v : Value) (l : List OwdV) (w : World) (h : Owds w v l) : Calls Tryd.prog 54 #[v] w fun e w' => ∃ a' c', e = .returned (.slice a' l.length c') ∧ w'.ownsRow w.heap.size 124 3 (.slice a' l.length c') l.length (celC owdE l) ∧ Below w.heap.size w w' := by
  obtain ⟨a, c, rfl⟩ := h.slice
  have q22 : ∀ (w : World) (a : Option Addr) (n c n' c' : Nat), (binOp .eql 77 (.slice a n c) (.slice none n' c')).run Tryd.prog w = .ok (.bool a.isNone) w := fun w a n c n' c' => Lib.run_eql_slice_nil w _ _ a n c n' c' Tryd.underlying77
  cases a with
  | none =>
    have h0 : l.length = 0 := by
      obtain ⟨_, a', c', e', _, hr⟩ := h
      simp only [Value.slice.injEq] at e'
      rcases Nat.eq_zero_or_pos l.length with h0 | h0
      · exact h0
      · obtain ⟨b, off, hb, _⟩ := hr h0
        rw [← e'.1] at hb
        cases hb
    have hl : l = [] := List.length_eq_zero_iff.1 h0
    subst hl
    simp only [List.length_nil]
    clear h h0
    go_enter Tryd.func54, Tryd.ntmps54
    go_wp2
    go_ret
    exact ⟨_, _, rfl, own_nil _ _, Below.refl _ _⟩
  | some b =>
    obtain ⟨v', w', hrun, how, hgr⟩ := appL (enc := owdE) (t := 77) owdK owd1 Tryd.underlying77 infoOwd rfl (by omega) (by omega) (w.alloc (.cells #[] 124)) w.heap.size (.slice (some ⟨w.heap.size, 0, none⟩) 0 0) [] l b l.length c rfl (by simp) (World.ownsRow_made w #[] 0 (Nat.le_refl _) (Nat.zero_le _) (by simp)) (h.keep (below1 w _)) (by have := h.1; rw [List.length_nil]; omega)
    rw [List.nil_append] at how
    obtain ⟨a5, c5, rfl⟩ := own_len how
    have HRUN := hideIt hrun
    have HR := hideIt (And.intro how (below_out (below1 w (.cells #[] 124)) (Out.ofGrown (F := fun k => w.heap.size ≤ k) hgr (fun k hk => by simp only [Value.ownBlock, Option.some.injEq] at hk; omega)) (fun _ h => h)))
    clear hrun how hgr h
    generalize l.length = n at *
    obtain ⟨bb, bo, bp⟩ := b
    go_enter Tryd.func54, Tryd.ntmps54
    go_wp2_with (at_builtin; refine Lib.wpList_append_run _ rfl _ _ _ _ rfl _ _ rfl rfl _ _ HRUN.out ?_)
    go_ret
    exact ⟨_, _, rfl, HR.out.1, HR.out.2⟩
set_option maxRecDepth 100000 in
set_option maxHeartbeats 4000000 in
theorem cloneP_is (v : Value) (l : List PeeV) (w : World) (h : Pees w v l) : Calls Tryd.prog 34 #[v] w fun e w' => ∃ a' c', e = .returned (.slice a' l.length c') ∧ w'.ownsRow w.heap.size 67 5 (.slice a' l.length c') l.length (celC peeE l) ∧ Below w.heap.size w w' := by
  obtain ⟨a, c, rfl⟩ := h.slice
  have q22 : ∀ (w : World) (a : Option Addr) (n c n' c' : Nat), (binOp .eql 40 (.slice a n c) (.slice none n' c')).run Tryd.prog w = .ok (.bool a.isNone) w := fun w a n c n' c' => Lib.run_eql_slice_nil w _ _ a n c n' c' Tryd.underlying40
  cases a with
  | none =>
    have h0 : l.length = 0 := by
      obtain ⟨_, a', c', e', _, hr⟩ := h
      simp only [Value.slice.injEq] at e'
      rcases Nat.eq_zero_or_pos l.length with h0 | h0
      · exact h0
      · obtain ⟨b, off, hb, _⟩ := hr h0
        rw [← e'.1] at hb
        cases hb
    have hl : l = [] := List.length_eq_zero_iff.1 h0
    subst hl
    simp only [List.length_nil]
    clear h h0
    go_enter Tryd.func34, Tryd.ntmps34
    go_wp2
    go_ret
    exact ⟨_, _, rfl, own_nil _ _, Below.refl _ _⟩
  | some b =>
    obtain ⟨v', w', hrun, how, hgr⟩ := appL (enc := peeE) (t := 40) peeK pee1 Tryd.underlying40 infoPee rfl (by omega) (by omega) (w.alloc (.cells #[] 67)) w.heap.size (.slice (some ⟨w.heap.size, 0, none⟩) 0 0) [] l b l.length c rfl (by simp) (World.ownsRow_made w #[] 0 (Nat.le_refl _) (Nat.zero_le _) (by simp)) (h.keep (below1 w _)) (by have := h.1; rw [List.length_nil]; omega)
    rw [List.nil_append] at how
    obtain ⟨a5, c5, rfl⟩ := own_len how
    have HRUN := hideIt hrun
    have HR := hideIt (And.intro how (below_out (below1 w (.cells #[] 67)) (Out.ofGrown (F := fun k => w.heap.size ≤ k) hgr (fun k hk => by simp only [Value.ownBlock, Option.some.injEq] at hk; omega)) (fun _ h => h)))
    clear hrun how hgr h
    generalize l.length = n at *
    obtain ⟨bb, bo, bp⟩ := b
    go_enter Tryd.func34, Tryd.ntmps34
    go_wp2_with (at_builtin; refine Lib.wpList_append_run _ rfl _ _ _ _ rfl _ _ rfl rfl _ _ HRUN.out ?_)
    go_ret
    exact ⟨_, _, rfl, HR.out.1, HR.out.2⟩
set_option maxRecDepth 100000 in
set_option maxHeartbeats 4000000 in
theorem acct_is (fa : Option Addr) (fc : Nat) (fr : List AmV) (cnt : Int) (w : World) (h : Ams w (.slice fa fr.length fc) fr) : Calls Tryd.prog 36 #[.agg #[.slice fa fr.length fc, .int .i64 cnt]] w fun e w' => ∃ a c, e = .returned (.agg #[.slice a fr.length c, .int .i64 cnt]) ∧ w'.ownsRow w.heap.size 72 2 (.slice a fr.length c) fr.length (celC amE fr) ∧ Below w.heap.size w w' := by
  obtain ⟨t1, t2, t3⟩ := two_heap w (.cells #[.slice fa fr.length fc, .int .i64 cnt] 75) (.cells #[.slice none 0 0, .int .i64 0] 75)
  have T1 := hideIt t1
  have T2 := hideIt t2
  have HB := hideIt (below2 w (.cells #[.slice fa fr.length fc, .int .i64 cnt] 75) (.cells #[.slice none 0 0, .int .i64 0] 75))
  have HT := hideIt t3
  have HC := hideIt (fun W (hW : Below w.heap.size w W) => cloneAs (.slice fa fr.length fc) fr W (h.keep hW))
  clear t1 t2 t3 h
  go_enter Tryd.func36, Tryd.ntmps36
  go_upto_region 1 with fail
  generalize (w.alloc (.cells #[.slice fa fr.length fc, .int .i64 cnt] 75)).alloc (.cells #[.slice none 0 0, .int .i64 0] 75) = W0 at *
  obtain ⟨⟨c0, c1⟩, cf, cz⟩ := at2 T1.out
  go_wp2_with fail
  refine (HC.out _ HB.out).mono ?_
  rintro e w1 ⟨a, c, rfl, ho, hb⟩
  dsimp only
  have U1 : Hid ((w1.setCell ⟨w.heap.size, 0, none⟩ (.slice a fr.length c)).heap[w.heap.size]? = some (.cells #[.slice a fr.length c, .int .i64 cnt] 75 (0, 0))) := heap_set (blkK T1.out hb) 0 _
  have U2 := hideIt (setOther (b := w.heap.size) (j := 0) (.slice a fr.length c) (blkK T2.out hb) (by omega))
  have O1 := hideIt (ownSet (b := w.heap.size) (j := 0) (.slice a fr.length c) ho (by have := HT.out; omega))
  have B1 : Hid (Below w.heap.size w (w1.setCell ⟨w.heap.size, 0, none⟩ (.slice a fr.length c))) := belowSet _ (below_via HB.out hb) (Nat.le_refl _)
  obtain ⟨⟨d0, d1⟩, df, dz⟩ := at2 (blkK T1.out hb)
  clear ho hb c0 c1 cf cz T1 T2 HB HC
  go_upto_region 2 with fail
  clear d0 d1 df dz
  generalize w1.setCell ⟨w.heap.size, 0, none⟩ (.slice a fr.length c) = W1 at *
  obtain ⟨⟨c0, c1⟩, cf, cz⟩ := at2 U1.out
  obtain ⟨⟨d0, d1⟩, df, dz⟩ := at2 U2.out
  go_wp2
  obtain ⟨hzz, hoo⟩ := puts2 W1 (w.heap.size + 1) 75 (.slice a fr.length c) (.int .i64 cnt) U2.out
  have ht := HT.out
  exact bodyPost_ret (v := .agg #[.slice a fr.length c, .int .i64 cnt]) (by simp [results, Tryd.results36, go_sem, cell_at hzz]) rfl ⟨a, c, rfl, own_base (own_out O1.out hoo (fun k hk => by omega)) (by omega), below_out B1.out hoo (fun k hk => by omega)⟩
end Go.Proofs.YtilinemcmgjiiaaDoor
