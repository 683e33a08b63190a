/- Whether a peer has not voted yet. -/
import Derived.Test.YtilinemcmgjiiaaDoorPu
namespace Go.Proofs.YtilinemcmgjiiaaDoor
open Go.RowKit
set_option linter.all false
set_option maxHeartbeats 4000000 in
theorem vote1_is (p : PeeV) (w : World) : Calls Tryd.prog 43 #[.agg #[.int .i64 p.k, .int .i64 p.n, .int .i64 p.g, .bool p.vo, .bool p.ac]] w fun e w' => e = .returned (.bool (!p.vo)) ∧ Below w.heap.size w w' := by
  have B1 := hideIt (below1 w (.cells #[.int .i64 p.k, .int .i64 p.n, .int .i64 p.g, .bool p.vo, .bool p.ac] 67))
  go_enter Tryd.func43, Tryd.ntmps43
  go_wp2
  go_ret
  exact ⟨rfl, B1.out⟩
def idxN : List PeeV → Nat → Int
  | [], _ => -1
  | q :: l, j => if q.vo = false then (j : Int) else idxN l (j + 1)
theorem idxN_at {l : List PeeV} {t : Nat} (h : t < l.length) : idxN (l.drop t) t = if l[t].vo = false then (t : Int) else idxN (l.drop (t + 1)) (t + 1) := by
  rw [List.drop_eq_getElem_cons h]
  rfl
theorem idxN_any : ∀ (l : List PeeV) (j : Nat), decide (0 ≤ idxN l j) = l.any (fun p => !p.vo)
  | [], j => rfl
  | q :: l, j => by
    unfold idxN
    rw [List.any_cons]
    cases h : q.vo
    · rw [if_pos rfl, decide_eq_true (by omega)]; rfl
    · rw [if_neg (by decide), idxN_any l (j + 1)]; rfl
set_option maxHeartbeats 4000000 in
set_option maxRecDepth 100000 in
theorem indexN_is (v : Value) (l : List PeeV) (w : World) (h : Pees w v l) : Calls Tryd.prog 59 #[v, .func (.func 43) #[] #[]] w fun e w' => e = .returned (.int .i64 (idxN l 0)) ∧ Below w.heap.size w w' := by
  have HP := hideIt h
  obtain ⟨va, vc, rfl⟩ := h.slice
  have hps := h.1
  have HST := hideIt (fun t (ht : t < l.length) => idxN_at ht)
  have HE : Hid (idxN (l.drop l.length) l.length = -1) := by show _ = _; rw [List.drop_length]; rfl
  have H0 : Hid (idxN (l.drop 0) 0 = idxN l 0) := by show _ = _; rw [List.drop_zero]
  have HV := hideIt vote1_is
  generalize idxN l 0 = R at *
  clear h
  go_enter Tryd.func59, Tryd.ntmps59
  go_upto_region 2 with fail
  go_loopw [8] (fun x wr => ∃ t : Nat, x = .int .i64 t ∧ t ≤ l.length ∧ Hid (idxN (l.drop t) t = R ∧ Below w.heap.size w wr)) (fun x _ => l.length - (intOf x).toNat)
  case atStart => exact ⟨0, rfl, Nat.zero_le _, ⟨H0.out, Below.refl _ _⟩⟩
  case round =>
    obtain ⟨t, rfl, ht, HR⟩ := hrel
    by_cases hlt : t < l.length
    · have hltI : (t : Int) < (l.length : Int) := by omega
      have ht0 : (0 : Int) ≤ (t : Int) := by omega
      have hw : IntKind.i64.wrap ((t : Int) + 1) = ((t + 1 : Nat) : Int) := by rw [IntKind.wrap_i64]; omega
      obtain ⟨-, a2, c2, e, hcap, hr⟩ := HP.out
      simp only [Value.slice.injEq, true_and] at e
      obtain ⟨rfl, rfl⟩ := e
      obtain ⟨pb, po, rfl, hpl, hcc⟩ := hr (by omega)
      have hgr2 : pb < wr.heap.size := Nat.lt_of_lt_of_le hpl HR.out.2.size
      have pq : ∀ i v, (peeE l[t])[i]? = some v → wr.cell? ⟨pb, po + t * 5 + i, none⟩ = some v := fun i v hv => by
        have hi : i < 5 := (List.getElem?_eq_some_iff.1 hv).1
        rw [HR.out.2.cell (p := ⟨pb, po + t * 5 + i, none⟩) hpl, show po + t * 5 + i = po + (t * 5 + i) by omega, hcc (t * 5 + i) (by omega), celC_get peeK l t hlt i hi]
        exact hv
      have HS := hideIt (HST.out t hlt)
      have HV1 := hideIt (HV.out l[t])
      have p0c : wr.cell? ⟨pb, po + t * 5, none⟩ = some (.int .i64 l[t].k) := pq 0 _ rfl
      have p1c : wr.cell? ⟨pb, po + t * 5 + 1, none⟩ = some (.int .i64 l[t].n) := pq 1 _ rfl
      have p2c : wr.cell? ⟨pb, po + t * 5 + 2, none⟩ = some (.int .i64 l[t].g) := pq 2 _ rfl
      have p3c : wr.cell? ⟨pb, po + t * 5 + 3, none⟩ = some (.bool l[t].vo) := pq 3 _ rfl
      have p4c : wr.cell? ⟨pb, po + t * 5 + 4, none⟩ = some (.bool l[t].ac) := pq 4 _ rfl
      have BW := hideIt HR.out.2
      have HRR := hideIt HR.out.1
      clear hcc hr hcap hpl HST pq HV HR HP
      generalize l[t] = y at *
      obtain ⟨y1, y2, y3, y4, y5⟩ := y
      dsimp only at p0c p1c p2c p3c p4c HS HV1
      cases y4
      · rw [if_pos rfl] at HS
        have HRF : Hid (R = t) := by show _ = _; rw [← HRR.out, HS.out]
        go_wp2_with fail
        refine (HV1.out _).mono ?_
        rintro e w1 ⟨rfl, hb⟩
        dsimp only
        have B2 := hideIt (below_via BW.out hb)
        clear hb BW
        go_wp2
        go_ret
        exact ⟨by rw [HRF.out]; rfl, B2.out⟩
      · rw [if_neg (by decide)] at HS
        go_wp2_with fail
        refine (HV1.out _).mono ?_
        rintro e w1 ⟨rfl, hb⟩
        dsimp only
        have B2 := hideIt (below_via BW.out hb)
        clear hb BW
        go_wp2
        go_roundw
        case rel => exact ⟨t + 1, by go_num, by omega, ⟨by rw [← HS.out]; exact HRR.out, B2.out⟩⟩
        case measure => simp [intOf]; omega
    · have hltI : ¬ (t : Int) < (l.length : Int) := by omega
      have het : t = l.length := by omega
      subst het
      have HRF : Hid (R = -1) := by show _ = _; rw [← HR.out.1, HE.out]
      have B2 := hideIt HR.out.2
      clear HR HP HST HE H0
      go_wp2
      go_ret
      exact ⟨by rw [HRF.out]; rfl, B2.out⟩
set_option maxHeartbeats 4000000 in
theorem notAll_is (v : Value) (l : List PeeV) (w : World) (h : Pees w v l) : Calls Tryd.prog 42 #[v, .func (.func 43) #[] #[]] w fun e w' => e = .returned (.bool (l.any (fun p => !p.vo))) ∧ Below w.heap.size w w' := by
  have HI := hideIt (indexN_is v l w h)
  have HA := hideIt (idxN_any l 0)
  obtain ⟨va, vc, rfl⟩ := h.slice
  clear h
  generalize idxN l 0 = R at *
  generalize l.any (fun p => !p.vo) = Q at *
  go_enter Tryd.func42, Tryd.ntmps42
  go_wp2_with fail
  refine HI.out.mono ?_
  rintro e w1 ⟨rfl, hb⟩
  dsimp only
  have B2 := hideIt hb
  clear hb HI
  go_wp2
  go_ret
  exact ⟨by rw [← HA.out]; rfl, B2.out⟩
end Go.Proofs.YtilinemcmgjiiaaDoor
