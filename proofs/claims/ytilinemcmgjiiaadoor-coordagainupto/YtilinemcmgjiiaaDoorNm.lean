/- Names, keys; slices.Index and Contains of peers: walked. -/
import Derived.Test.YtilinemcmgjiiaaDoorFn
import Derived.Test.YtilinemcmgjiiaaDoorBegW
namespace Go.Proofs.YtilinemcmgjiiaaDoor
open Go.RowKit
set_option linter.all false
theorem SGot.upto {α : Type} {k s : Nat} {enc : α → List Value} (hk : ∀ x, (enc x).length = k) {w : World} {a : Option Addr} {c : Nat} {l : List α} (h : SGot k s enc w (.slice a l.length c) l) (i : Nat) (hi : i ≤ l.length) : SGot k s enc w (.slice a i c) (l.take i) := by
  obtain ⟨h1, a', c', e, hcap, hr⟩ := h
  simp only [Value.slice.injEq, true_and] at e
  obtain ⟨rfl, rfl⟩ := e
  have hl : (l.take i).length = i := by rw [List.length_take]; omega
  refine ⟨by rw [hl]; exact Nat.le_trans (Nat.mul_le_mul_right _ hi) h1, a, c, by rw [hl], by omega, fun h0 => ?_⟩
  rw [hl] at h0
  obtain ⟨g, off, rfl, hg, hc⟩ := hr (by omega)
  refine ⟨g, off, rfl, hg, fun j hj => ?_⟩
  rw [hl] at hj
  have hm : i * k ≤ l.length * k := Nat.mul_le_mul_right _ hi
  rw [hc j (by omega)]
  have e2 : celC enc l = celC enc (l.take i) ++ celC enc (l.drop i) := by rw [← celC_app, List.take_append_drop]
  rw [e2, List.getElem?_append_left (by rw [celC_len hk, hl]; omega)]
def isKB (k n : Int) : Bool := fitsB ⟨9, 0, 0, 0, 0, 0, 0, false, ⟨k, n⟩, 0⟩
def nmB (c q : Int) : Bool := !((begV [] (c, q)).2.2.2 == 1)
set_option maxHeartbeats 4000000 in
set_option maxRecDepth 100000 in
theorem isKeyC_is (k n : Int) (w : World) (hF : Forms w) : Calls Tryd.prog 51 #[.agg #[.int .i64 k, .int .i64 n]] w fun e w' => e = .returned (.bool (isKB k n)) ∧ Below w.heap.size w w' := by
  have hb := below1 w (.cells #[.int .i64 k, .int .i64 n] 37)
  have HF := hideIt (fits_is ⟨9, 0, 0, 0, 0, 0, 0, false, ⟨k, n⟩, 0⟩ _ (hF.keep hb))
  have B1 := hideIt hb
  unfold isKB
  generalize fitsB ⟨9, 0, 0, 0, 0, 0, 0, false, ⟨k, n⟩, 0⟩ = R at *
  simp only [reqC] at HF
  clear hb hF
  go_enter Tryd.func51, Tryd.ntmps51
  go_wp2_with fail
  refine HF.out.mono ?_
  rintro e w1 ⟨rfl, hb⟩
  dsimp only
  have B2 := hideIt (below_via B1.out hb)
  clear B1 HF hb
  go_wp2
  go_ret
  exact ⟨rfl, B2.out⟩
set_option maxHeartbeats 4000000 in
set_option maxRecDepth 100000 in
theorem isNameC_is (c q : Int) (w : World) : Calls Tryd.prog 31 #[.agg #[.int .i64 c, .int .i64 q]] w fun e w' => e = .returned (.bool (nmB c q)) ∧ Below w.heap.size w w' := by
  have hb := below1 w (.cells #[.int .i64 c, .int .i64 q] 35)
  have HF := hideIt (begin_is (.slice none 0 0) [] c q _ (Sess.nil (w.alloc (.cells #[.int .i64 c, .int .i64 q] 35))))
  have B1 := hideIt hb
  unfold nmB
  simp only [List.map_nil] at HF
  generalize begV [] (c, q) = R at *
  obtain ⟨r1, r2, r3, r4⟩ := R
  unfold BegBack at HF
  dsimp only at HF ⊢
  generalize r1.length = n1 at *
  clear hb
  go_enter Tryd.func31, Tryd.ntmps31
  go_wp2_with fail
  refine HF.out.mono ?_
  rintro e w1 ⟨a, cc, ys, ⟨⟨code, num, aam, fl⟩, aa, ac, fa, fc⟩, rfl, -, -, -, -, hb⟩
  dsimp only
  simp only [AnsX.cs, AnsX.am, AnsX.fl]
  have hb2 := below1 w1 (.cells #[.int .i64 code, .int .i64 num, .slice aa aam.length ac, .slice fa fl.length fc] 44)
  have B2 := hideIt (below_via (below_via B1.out hb) hb2)
  clear B1 HF hb hb2
  go_wp2
  go_ret
  refine ⟨?_, B2.out⟩
  rfl
def eqP (p q : PeeV) : Bool := (p.k == q.k && p.n == q.n) && (p.g == q.g && (p.vo == q.vo && p.ac == q.ac))
theorem eqlPee (p q : PeeV) (w : World) : (binOp .eql 67 (.agg #[.int .i64 p.k, .int .i64 p.n, .int .i64 p.g, .bool p.vo, .bool p.ac]) (.agg #[.int .i64 q.k, .int .i64 q.n, .int .i64 q.g, .bool q.vo, .bool q.ac])).run Tryd.prog w = .ok (.bool (eqP p q)) w := by
  obtain ⟨a1, a2, a3, a4, a5⟩ := p
  obtain ⟨b1, b2, b3, b4, b5⟩ := q
  simp [go_sem, eqP]
  by_cases h1 : a1 = b1 <;> by_cases h2 : a2 = b2 <;> by_cases h3 : a3 = b3 <;> cases a4 <;> cases b4 <;> cases a5 <;> cases b5 <;> simp [h1, h2, h3, go_sem]
def idxP (p : PeeV) : List PeeV → Nat → Int
  | [], _ => -1
  | q :: l, j => if eqP p q = true then (j : Int) else idxP p l (j + 1)
theorem idxP_at {l : List PeeV} {t : Nat} (h : t < l.length) (p : PeeV) : idxP p (l.drop t) t = if eqP p l[t] = true then (t : Int) else idxP p (l.drop (t + 1)) (t + 1) := by
  rw [List.drop_eq_getElem_cons h]
  rfl
theorem idxP_any (p : PeeV) : ∀ (l : List PeeV) (j : Nat), decide (0 ≤ idxP p l j) = l.any (eqP p)
  | [], j => rfl
  | q :: l, j => by
    unfold idxP
    rw [List.any_cons]
    cases h : eqP p q
    · rw [if_neg (by decide), idxP_any p l (j + 1)]; rfl
    · rw [if_pos rfl, decide_eq_true (by omega)]; rfl
set_option maxHeartbeats 4000000 in
set_option maxRecDepth 100000 in
theorem indexP_is (v : Value) (l : List PeeV) (p : PeeV) (w : World) (h : Pees w v l) : Calls Tryd.prog 69 #[v, .agg #[.int .i64 p.k, .int .i64 p.n, .int .i64 p.g, .bool p.vo, .bool p.ac]] w fun e w' => e = .returned (.int .i64 (idxP p l 0)) ∧ Below w.heap.size w w' := by
  have hb := below1 w (.cells #[.int .i64 p.k, .int .i64 p.n, .int .i64 p.g, .bool p.vo, .bool p.ac] 67)
  have X := hideIt (heap_alloc_new w (.cells #[.int .i64 p.k, .int .i64 p.n, .int .i64 p.g, .bool p.vo, .bool p.ac] 67))
  have HP := hideIt (h.keep hb)
  have B1 := hideIt hb
  obtain ⟨va, vc, rfl⟩ := h.slice
  have hps := h.1
  have HST := hideIt (fun t (ht : t < l.length) => idxP_at ht p)
  have HE : Hid (idxP p (l.drop l.length) l.length = -1) := by show _ = _; rw [List.drop_length]; rfl
  have H0 : Hid (idxP p (l.drop 0) 0 = idxP p l 0) := by show _ = _; rw [List.drop_zero]
  have HQ := hideIt (fun q W => eqlPee p q W)
  generalize idxP p l 0 = R at *
  clear hb h
  go_enter Tryd.func69, Tryd.ntmps69
  go_upto_region 2 with fail
  generalize w.alloc (.cells #[.int .i64 p.k, .int .i64 p.n, .int .i64 p.g, .bool p.vo, .bool p.ac] 67) = W1 at *
  go_loopw [8] (fun x wr => ∃ t : Nat, x = .int .i64 t ∧ t ≤ l.length ∧ Hid (idxP p (l.drop t) t = R ∧ Below W1.heap.size W1 wr)) (fun x _ => l.length - (intOf x).toNat)
  case atStart => exact ⟨0, rfl, Nat.zero_le _, ⟨H0.out, Below.refl _ _⟩⟩
  case round =>
    obtain ⟨t, rfl, ht, HR⟩ := hrel
    by_cases hlt : t < l.length
    · have hltI : (t : Int) < (l.length : Int) := by omega
      have ht0 : (0 : Int) ≤ (t : Int) := by omega
      have hw : IntKind.i64.wrap ((t : Int) + 1) = ((t + 1 : Nat) : Int) := by rw [IntKind.wrap_i64]; omega
      obtain ⟨-, a2, c2, e, hcap, hr⟩ := HP.out
      simp only [Value.slice.injEq, true_and] at e
      obtain ⟨rfl, rfl⟩ := e
      obtain ⟨pb, po, rfl, hpl, hcc⟩ := hr (by omega)
      have hgr2 : pb < wr.heap.size := Nat.lt_of_lt_of_le hpl HR.out.2.size
      have pq : ∀ i v, (peeE l[t])[i]? = some v → wr.cell? ⟨pb, po + t * 5 + i, none⟩ = some v := fun i v hv => by
        have hi : i < 5 := (List.getElem?_eq_some_iff.1 hv).1
        rw [HR.out.2.cell (p := ⟨pb, po + t * 5 + i, none⟩) hpl, show po + t * 5 + i = po + (t * 5 + i) by omega, hcc (t * 5 + i) (by omega), celC_get peeK l t hlt i hi]
        exact hv
      have HS := hideIt (HST.out t hlt)
      have hqq := HQ.out l[t]
      obtain ⟨⟨c0, c1, c2, c3, c4⟩, cf, cz⟩ := at5 (blkK X.out HR.out.2)
      have p0c : wr.cell? ⟨pb, po + t * 5, none⟩ = some (.int .i64 l[t].k) := pq 0 _ rfl
      have p1c : wr.cell? ⟨pb, po + t * 5 + 1, none⟩ = some (.int .i64 l[t].n) := pq 1 _ rfl
      have p2c : wr.cell? ⟨pb, po + t * 5 + 2, none⟩ = some (.int .i64 l[t].g) := pq 2 _ rfl
      have p3c : wr.cell? ⟨pb, po + t * 5 + 3, none⟩ = some (.bool l[t].vo) := pq 3 _ rfl
      have p4c : wr.cell? ⟨pb, po + t * 5 + 4, none⟩ = some (.bool l[t].ac) := pq 4 _ rfl
      have BW := hideIt HR.out.2
      have HRR := hideIt HR.out.1
      clear hcc hr hcap hpl HST pq HQ HR HP
      generalize l[t] = y at *
      go_upto_region 4 with fail
      cases he : eqP p y
      · rw [he] at hqq HS
        rw [if_neg (by decide)] at HS
        clear he
        go_quiet (fail)
        go_wp2
        go_roundw
        case rel => exact ⟨t + 1, by go_num, by omega, ⟨by rw [← HS.out]; exact HRR.out, below_drewN BW.out _⟩⟩
        case measure => simp [intOf]; omega
      · rw [he] at hqq HS
        rw [if_pos rfl] at HS
        clear he
        have HRF : Hid (R = t) := by show _ = _; rw [← HRR.out, HS.out]
        have B9 := hideIt (fun m => below_via B1.out (below_drewN BW.out m))
        go_quiet (fail)
        have B10 := hideIt (B9.out nq)
        clear B9 BW B1
        go_wp2
        go_ret
        exact ⟨by rw [HRF.out]; rfl, B10.out⟩
    · have hltI : ¬ (t : Int) < (l.length : Int) := by omega
      have het : t = l.length := by omega
      subst het
      have HRF : Hid (R = -1) := by show _ = _; rw [← HR.out.1, HE.out]
      have B2 := hideIt (below_via B1.out HR.out.2)
      clear HR HP HST HE H0 B1
      go_wp2
      go_ret
      exact ⟨by rw [HRF.out]; rfl, B2.out⟩
set_option maxHeartbeats 4000000 in
set_option maxRecDepth 100000 in
theorem containsP_is (v : Value) (l : List PeeV) (p : PeeV) (w : World) (h : Pees w v l) : Calls Tryd.prog 52 #[v, .agg #[.int .i64 p.k, .int .i64 p.n, .int .i64 p.g, .bool p.vo, .bool p.ac]] w fun e w' => e = .returned (.bool (l.any (eqP p))) ∧ Below w.heap.size w w' := by
  have hb := below1 w (.cells #[.int .i64 p.k, .int .i64 p.n, .int .i64 p.g, .bool p.vo, .bool p.ac] 67)
  have X := hideIt (heap_alloc_new w (.cells #[.int .i64 p.k, .int .i64 p.n, .int .i64 p.g, .bool p.vo, .bool p.ac] 67))
  have HI := hideIt (indexP_is v l p _ (h.keep hb))
  have HA := hideIt (idxP_any p l 0)
  have B1 := hideIt hb
  obtain ⟨va, vc, rfl⟩ := h.slice
  clear h hb
  generalize idxP p l 0 = R at *
  generalize l.any (eqP p) = Q at *
  go_enter Tryd.func52, Tryd.ntmps52
  go_upto_region 1 with fail
  generalize w.alloc (.cells #[.int .i64 p.k, .int .i64 p.n, .int .i64 p.g, .bool p.vo, .bool p.ac] 67) = W1 at *
  obtain ⟨⟨c0, c1, c2, c3, c4⟩, cf, cz⟩ := at5 X.out
  go_wp2_with fail
  refine HI.out.mono ?_
  rintro e w1 ⟨rfl, hb⟩
  dsimp only
  have B2 := hideIt (below_via B1.out hb)
  clear hb B1 HI X c0 c1 c2 c3 c4 cf cz
  go_wp2
  go_ret
  exact ⟨by rw [← HA.out]; rfl, B2.out⟩
end Go.Proofs.YtilinemcmgjiiaaDoor
