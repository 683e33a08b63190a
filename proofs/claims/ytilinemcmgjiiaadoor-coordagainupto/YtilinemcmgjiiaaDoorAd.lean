/- Balance, added. -/
import Derived.Test.YtilinemcmgjiiaaDoorSm
namespace Go.Proofs.YtilinemcmgjiiaaDoor
open Go.RowKit
set_option linter.all false
def balL (l : List AmV) (k : Int) : Int := match l.find? (fun y => y.1 == k) with | some y => y.2 | none => 0
theorem balL_at {l : List AmV} {t : Nat} (h : t < l.length) (k : Int) : balL (l.drop t) k = if l[t].1 == k then l[t].2 else balL (l.drop (t + 1)) k := by
  unfold balL
  rw [List.drop_eq_getElem_cons h, List.find?_cons]
  cases l[t].1 == k <;> simp
set_option maxHeartbeats 4000000 in
set_option maxRecDepth 100000 in
theorem balance_is (v : Value) (l : List AmV) (k : Int) (w : World) (h : Ams w v l) : Calls Tryd.prog 58 #[.agg #[v, .int .i64 0], .int .i64 k] w fun e w' => e = .returned (.int .i64 (balL l k)) ∧ Below w.heap.size w w' := by
  obtain ⟨va, vc, rfl⟩ := h.slice
  have HB := hideIt (below1 w (.cells #[.slice va l.length vc, .int .i64 0] 75))
  have HG := hideIt (h.keep HB.out)
  clear h
  have HST := hideIt (fun t (ht : t < l.length) => balL_at ht k)
  have HE : Hid (balL (l.drop l.length) k = 0) := by show _ = _; rw [List.drop_length]; rfl
  have H0 : Hid (balL (l.drop 0) k = balL l k) := by show _ = _; rw [List.drop_zero]
  generalize balL l k = R at *
  go_enter Tryd.func58, Tryd.ntmps58
  go_upto_region 2 with fail
  generalize w.alloc (.cells #[.slice va l.length vc, .int .i64 0] 75) = X at *
  go_loopw [10] (fun x wr => ∃ (t : Nat), x = .int .i64 t ∧ t ≤ l.length ∧ Hid (balL (l.drop t) k = R ∧ Below X.heap.size X wr)) (fun x _ => l.length - (intOf x).toNat)
  case atStart => exact ⟨0, rfl, Nat.zero_le _, ⟨H0.out, Below.refl _ _⟩⟩
  case round =>
    obtain ⟨t, rfl, ht, HR⟩ := hrel
    by_cases hlt : t < l.length
    · have hltI : (t : Int) < (l.length : Int) := by omega
      have ht0 : (0 : Int) ≤ (t : Int) := by omega
      have h8 := HG.out.1
      have hw : IntKind.i64.wrap ((t : Int) + 1) = ((t + 1 : Nat) : Int) := by rw [IntKind.wrap_i64]; omega
      obtain ⟨-, a', c', e, hcap, hr⟩ := HG.out
      simp only [Value.slice.injEq, true_and] at e
      obtain ⟨rfl, rfl⟩ := e
      obtain ⟨g, off, hva, hgl, hcc⟩ := hr (by omega)
      have hgr : g < wr.heap.size := Nat.lt_of_lt_of_le hgl HR.out.2.size
      have q0 : wr.cell? ⟨g, off + t * 2, none⟩ = some (.int .i64 (l[t]).1) := by
        rw [HR.out.2.cell (p := ⟨g, off + t * 2, none⟩) hgl, hcc (t * 2) (by omega)]
        exact celC_get amK l t hlt 0 (by omega)
      have q1 : wr.cell? ⟨g, off + t * 2 + 1, none⟩ = some (.int .i64 (l[t]).2) := by
        rw [HR.out.2.cell (p := ⟨g, off + t * 2 + 1, none⟩) hgl, show off + t * 2 + 1 = off + (t * 2 + 1) by omega, hcc (t * 2 + 1) (by omega)]
        exact celC_get amK l t hlt 1 (by omega)
      have HS := hideIt (HST.out t hlt)
      clear hcc hr hcap
      generalize l[t] = y at *
      obtain ⟨y1, y2⟩ := y
      dsimp only at q0 q1 HS
      have hb1 := below1 wr (.cells #[.int .i64 y1, .int .i64 y2] 72)
      have B1 := hideIt (below_via HR.out.2 hb1)
      clear hb1
      have HRR := hideIt HR.out.1
      clear HR HG HST
      subst hva
      cases h1 : (y1 == k)
      · rw [h1] at HS
        have HN : Hid (balL (l.drop (t + 1)) k = R) := by rw [← HRR.out, HS.out]; rfl
        clear HS HRR
        go_wp2
        go_roundw
        case rel => exact ⟨t + 1, by go_num, by omega, ⟨HN.out, B1.out⟩⟩
        case measure => simp [intOf]; omega
      · rw [h1] at HS
        have HN : Hid (R = y2) := by rw [← HRR.out, HS.out]; rfl
        clear HS HRR
        go_wp2
        go_ret
        exact ⟨by rw [HN.out]; rfl, below_via HB.out B1.out⟩
    · have hltI : ¬ (t : Int) < (l.length : Int) := by omega
      have ht2 : t = l.length := by omega
      have HRR := hideIt HR.out.1
      have B1 := hideIt HR.out.2
      clear HR
      have HN : Hid (R = 0) := by rw [← HRR.out, ht2]; exact HE.out
      clear HRR ht2
      go_wp2
      go_ret
      exact ⟨by rw [HN.out]; rfl, below_via HB.out B1.out⟩
/-- What amounts come to, asset by asset. -/
def addS (x y : List AmV) (k : Int) : Int := IntKind.i64.wrap (balL x k + balL y k)
def addF (x y : List AmV) : Nat → List AmV
  | 0 => []
  | t + 1 => addF x y t ++ (if 0 < addS x y t then [((t : Int), addS x y t)] else [])
theorem addF_len (x y : List AmV) : ∀ t, (addF x y t).length ≤ t
  | 0 => Nat.le_refl _
  | t + 1 => by
    unfold addF
    have := addF_len x y t
    rw [List.length_append]
    split <;> simp <;> omega
set_option maxHeartbeats 4000000 in
set_option maxRecDepth 100000 in
theorem added_is (v u : Value) (x y : List AmV) (w : World) (h : Ams w v x) (h' : Ams w u y) : Calls Tryd.prog 41 #[v, u] w fun e w' => ∃ a c, e = .returned (.slice a (addF x y 4).length c) ∧ w'.ownsRow w.heap.size 72 2 (.slice a (addF x y 4).length c) (addF x y 4).length (celC amE (addF x y 4)) ∧ Below w.heap.size w w' := by
  obtain ⟨va0, vc0, rfl⟩ := h.slice
  obtain ⟨ua0, uc0, rfl⟩ := h'.slice
  have HX := hideIt (fun k W (hW : Below w.heap.size w W) => balance_is _ x k W (h.keep hW))
  have HY := hideIt (fun k W (hW : Below w.heap.size w W) => balance_is _ y k W (h'.keep hW))
  have HS0 : Hid (∀ t : Nat, addF x y (t + 1) = addF x y t ++ (if 0 < addS x y t then [((t : Int), addS x y t)] else [])) := fun t => rfl
  have HL := hideIt (addF_len x y)
  have HAS : Hid (∀ t : Nat, addS x y t = IntKind.i64.wrap (balL x t + balL y t)) := fun t => rfl
  have H00 : Hid (addF x y 0 = []) := rfl
  clear h h'
  generalize addF x y = F at *
  go_enter Tryd.func41, Tryd.ntmps41
  go_upto_region 3 with fail
  go_loopw [5, 8] (fun q s wr => ∃ (t : Nat), s = .int .i64 t ∧ t ≤ 4 ∧ Hid (wr.ownsRow w.heap.size 72 2 q (F t).length (celC amE (F t)) ∧ Below w.heap.size w wr)) (fun _ s _ => 4 - (intOf s).toNat)
  case atStart => exact ⟨0, rfl, Nat.zero_le _, ⟨by rw [H00.out]; exact own_nil _ _, Below.refl _ _⟩⟩
  case round =>
    obtain ⟨t, rfl, ht, HR⟩ := hrel
    by_cases hlt : t < 4
    · have hltI : (t : Int) < 4 := by omega
      have ht0 : (0 : Int) ≤ (t : Int) := by omega
      have hw : IntKind.i64.wrap ((t : Int) + 1) = ((t + 1 : Nat) : Int) := by rw [IntKind.wrap_i64]; omega
      have HX1 := hideIt (HX.out t)
      have HY1 := hideIt (HY.out t)
      have HS1 := hideIt (HS0.out t)
      have hA := HAS.out t
      have HL1 := hideIt (HL.out t)
      clear HX HY HS0 HAS HL H00
      generalize addS x y t = s at *
      generalize balL x t = p at *
      generalize balL y t = q at *
      have hs : IntKind.i64.wrap (p + q) = s := hA.symm
      clear hA
      go_wp2_with fail
      refine (HX1.out _ HR.out.2).mono ?_
      rintro e w1 ⟨rfl, hb1⟩
      dsimp only
      have B1 := hideIt (below_via HR.out.2 hb1)
      have O1 := hideIt (own_keep HR.out.1 hb1)
      clear hb1 HR
      go_wp2_with fail
      refine (HY1.out _ B1.out).mono ?_
      rintro e w2 ⟨rfl, hb1⟩
      dsimp only
      have B2 := hideIt (below_via B1.out hb1)
      have O2 := hideIt (own_keep O1.out hb1)
      clear hb1 B1 O1 HX1 HY1
      by_cases hp : 0 < s
      · rw [if_pos hp] at HS1
        have hbA := below1 w2 (.cells #[.int .i64 t, .int .i64 s] 72)
        have B3 := below_via B2.out hbA
        obtain ⟨v', w', hrun, how, hgr⟩ := app1 (enc := amE) (t := 41) amK am1 Tryd.underlying41 info55 rfl (by omega) (w2.alloc (.cells #[.int .i64 t, .int .i64 s] 72)) w.heap.size _ (F t) ((t : Int), s) w2.heap.size 1 B3.size (own_keep O2.out hbA) (heap_alloc_new w2 _) (by have := HL1.out; omega) (by have := HL1.out; unfold maxLen; omega)
        have HRUN := hideIt hrun
        have HN : Hid (w'.ownsRow w.heap.size 72 2 v' (F (t + 1)).length (celC amE (F (t + 1))) ∧ Below w.heap.size w w') := by
          rw [HS1.out]
          exact ⟨how, grown_own hgr (own_keep O2.out hbA) (Nat.le_refl _) B3⟩
        clear hrun how hgr B3 hbA O2 B2 HS1 HL1
        go_wp2_with (at_builtin; refine Lib.wpList_append_run _ rfl _ _ _ _ rfl _ _ rfl rfl _ _ HRUN.out ?_)
        clear HRUN
        go_wp2
        go_roundw
        case rel => exact ⟨t + 1, by go_num, by omega, HN⟩
        case measure => simp [intOf]; omega
      · rw [if_neg hp, List.append_nil] at HS1
        have HN : Hid (w2.ownsRow w.heap.size 72 2 u5 (F (t + 1)).length (celC amE (F (t + 1))) ∧ Below w.heap.size w w2) := by
          rw [HS1.out]
          exact ⟨O2.out, B2.out⟩
        clear O2 B2 HS1 HL1
        go_wp2
        go_roundw
        case rel => exact ⟨t + 1, by go_num, by omega, HN⟩
        case measure => simp [intOf]; omega
    · have hltI : ¬ (t : Int) < 4 := by omega
      have het : t = 4 := by omega
      subst het
      obtain ⟨va, vc, hv⟩ := own_len HR.out.1
      rw [hv] at HR ⊢
      clear hv HX HY HS0 HAS HL H00
      go_wp2
      go_ret
      exact ⟨va, vc, rfl, HR.out⟩
end Go.Proofs.YtilinemcmgjiiaaDoor
