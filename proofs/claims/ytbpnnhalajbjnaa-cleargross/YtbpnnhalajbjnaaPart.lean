/- clear's parted, walked. -/
import Derived.Test.YtbpnnhalajbjnaaCop
namespace Go.Proofs.Ytbpnnhalajbjnaa
open Go.RowKit
set_option linter.all false
structure AmV where
  asset : Int
  n : Int
def amE (x : AmV) : List Value := [.int .i64 x.asset, .int .i64 x.n]
theorem amK (x : AmV) : (amE x).length = 2 := rfl
theorem am1 (x : AmV) : ∀ u ∈ amE x, u.oneCell' = true := by
  intro u hu
  simp only [amE, List.mem_cons, List.not_mem_nil, or_false] at hu
  rcases hu with rfl | rfl <;> rfl
theorem info52 : (Try.prog.info? 52).map (fun i => (i.zero, i.size, i.bytes)) = some (some (.agg #[.int .i64 0, .int .i64 0]), 2, 16) := by kernel_rfl
/-- What is taken, what is left, on their way. -/
structure TL (w : World) (A : List AmV) (R : List OweV) (u v : Value) (W : World) : Prop where
  ra : W.ownsRow w.heap.size 52 2 u A.length (celC amE A)
  rl : W.ownsRow w.heap.size 45 3 v R.length (celC oweE R)
  bel : Below w.heap.size w W
theorem TL.keep {w W W' : World} {A : List AmV} {R : List OweV} {u v : Value} (h : TL w A R u v W) (hb : Below W.heap.size W W') : TL w A R u v W' := ⟨own_keep h.ra hb, own_keep h.rl hb, below_via h.bel hb⟩
theorem TL.appA {w W : World} {A : List AmV} {R : List OweV} {u v : Value} (h : TL w A R u v W) (x : AmV) (hl : A.length * 16 + 16 ≤ 140737488355328) : ∃ a' c' w', (Builtin.append_ #[39, 39] 39 #[u, .slice (some ⟨W.heap.size, 0, none⟩) 1 1]).run Try.prog (W.alloc (.cells (amE x).toArray 52)) = .ok (.slice a' (A.length + 1) c') w' ∧ TL w (A ++ [x]) R (.slice a' (A.length + 1) c') v w' := by
  have hb := below1 W (.cells (amE x).toArray 52)
  have h1 := h.keep hb
  obtain ⟨v', w', hrun, how, hgr⟩ := app1 (enc := amE) (t := 39) amK am1 Try.underlying39 info52 rfl (by omega) (W.alloc (.cells (amE x).toArray 52)) w.heap.size u A x W.heap.size 1 h1.bel.size h1.ra (heap_alloc_new W _) (by omega) (by unfold maxLen; omega)
  obtain ⟨a', c', rfl⟩ := own_len how
  have hlen : (A ++ [x]).length = A.length + 1 := by simp
  rw [hlen] at hrun how
  exact ⟨a', c', w', hrun, by rw [hlen]; exact how, own_type hgr h1.ra h1.rl (by decide), grown_own hgr h1.ra (Nat.le_refl _) h1.bel⟩
theorem TL.appR {w W : World} {A : List AmV} {R : List OweV} {u v : Value} (h : TL w A R u v W) (x : OweV) (hl : R.length * 24 + 24 ≤ 140737488355328) : ∃ a' c' w', (Builtin.append_ #[35, 35] 35 #[v, .slice (some ⟨W.heap.size, 0, none⟩) 1 1]).run Try.prog (W.alloc (.cells (oweE x).toArray 45)) = .ok (.slice a' (R.length + 1) c') w' ∧ TL w A (R ++ [x]) u (.slice a' (R.length + 1) c') w' := by
  have hb := below1 W (.cells (oweE x).toArray 45)
  have h1 := h.keep hb
  obtain ⟨v', w', hrun, how, hgr⟩ := app1 (enc := oweE) (t := 35) oweK owe1 Try.underlying35 info63 rfl (by omega) (W.alloc (.cells (oweE x).toArray 45)) w.heap.size v R x W.heap.size 1 h1.bel.size h1.rl (heap_alloc_new W _) (by omega) (by unfold maxLen; omega)
  obtain ⟨a', c', rfl⟩ := own_len how
  have hlen : (R ++ [x]).length = R.length + 1 := by simp
  rw [hlen] at hrun how
  exact ⟨a', c', w', hrun, own_type hgr h1.rl h1.ra (by decide), by rw [hlen]; exact how, grown_own hgr h1.rl (Nat.le_refl _) h1.bel⟩
def takA (acc : Int) (l : List OweV) : List AmV := (l.filter (fun o => decide (o.acc = acc))).map (fun o => ⟨o.asset, o.n⟩)
def lefA (acc : Int) (l : List OweV) : List OweV := l.filter (fun o => !decide (o.acc = acc))
theorem takA_len (acc : Int) (l : List OweV) : (takA acc l).length ≤ l.length := by
  unfold takA
  rw [List.length_map]
  exact List.length_filter_le _ _
theorem lefA_len (acc : Int) (l : List OweV) : (lefA acc l).length ≤ l.length := List.length_filter_le _ _
set_option maxHeartbeats 8000000 in
set_option maxRecDepth 100000 in
theorem parted_is (v : Value) (l : List OweV) (acc : Int) (w : World) (h : Owes w v l) : Calls Try.prog 29 #[v, .int .i64 acc] w fun e w' => ∃ a c b d, e = .returned (.tuple #[.slice a (takA acc l).length c, .slice b (lefA acc l).length d]) ∧ TL w (takA acc l) (lefA acc l) (.slice a (takA acc l).length c) (.slice b (lefA acc l).length d) w' := by
  obtain ⟨a, c, rfl, h8, hr⟩ := h.owes
  have HH := hideIt hr
  clear hr h
  have HS1 := hideIt (fun t (ht : t < l.length) => show takA acc (l.take (t + 1)) = takA acc (l.take t) ++ (if l[t].acc = acc then [⟨l[t].asset, l[t].n⟩] else []) by
    unfold takA
    rw [List.take_succ_eq_append_getElem ht, List.filter_append, List.map_append]
    congr 1
    by_cases e : l[t].acc = acc <;> simp [e])
  have HS2 := hideIt (fun t (ht : t < l.length) => show lefA acc (l.take (t + 1)) = lefA acc (l.take t) ++ (if l[t].acc = acc then [] else [l[t]]) by
    unfold lefA
    rw [List.take_succ_eq_append_getElem ht, List.filter_append]
    congr 1
    by_cases e : l[t].acc = acc <;> simp [e])
  have HL1 := hideIt (fun t => Nat.le_trans (takA_len acc (l.take t)) (List.length_take_le t l))
  have HL2 := hideIt (fun t => Nat.le_trans (lefA_len acc (l.take t)) (List.length_take_le t l))
  have HF1 : Hid (takA acc (l.take l.length) = takA acc l) := by show _ = _; rw [List.take_length]
  have HF2 : Hid (lefA acc (l.take l.length) = lefA acc l) := by show _ = _; rw [List.take_length]
  have HI : Hid (takA acc (l.take 0) = [] ∧ lefA acc (l.take 0) = []) := by constructor <;> simp [takA, lefA]
  generalize takA acc l = RA at *
  generalize lefA acc l = RL at *
  generalize hfu : (fun t : Nat => takA acc (l.take t)) = FA at *
  generalize hfv : (fun t : Nat => lefA acc (l.take t)) = FL at *
  have HT1 : Hid (∀ t, takA acc (l.take t) = FA t) := fun t => congrFun hfu t
  have HT2 : Hid (∀ t, lefA acc (l.take t) = FL t) := fun t => congrFun hfv t
  simp only [HT1.out, HT2.out] at HS1 HS2 HL1 HL2 HF1 HF2 HI
  clear hfu hfv HT1 HT2
  have X0 : Hid (TL w [] [] (.slice none 0 0) (.slice none 0 0) w) := ⟨own_nil _ _, own_nil _ _, Below.refl _ _⟩
  go_enter Try.func29, Try.ntmps29
  go_wp2
  go_loopw [4, 5, 10] (fun u v x wr => ∃ t : Nat, ∃ ua un uc va vn vc, ∃ A R, u = .slice ua un uc ∧ v = .slice va vn vc ∧ x = .int .i64 t ∧ t ≤ l.length ∧ un = A.length ∧ vn = R.length ∧ Hid (FA t = A ∧ FL t = R) ∧ Hid (TL w A R (.slice ua un uc) (.slice va vn vc) wr)) (fun _ _ x _ => l.length - (intOf x).toNat)
  case atStart => exact ⟨0, none, 0, 0, none, 0, 0, [], [], rfl, rfl, rfl, Nat.zero_le _, rfl, rfl, HI, X0⟩
  case round =>
    clear HI X0
    obtain ⟨t, ua, un, uc, va, vn, vc, A, R, rfl, rfl, rfl, ht, hun, hvn, HE, HP⟩ := hrel
    have hA := HL1.out t
    have hR := HL2.out t
    rw [HE.out.1] at hA
    rw [HE.out.2] at hR
    subst hun
    subst hvn
    by_cases hlt : t < l.length
    · have hltI : (t : Int) < (l.length : Int) := by omega
      have ht0 : (0 : Int) ≤ (t : Int) := by omega
      have hw : IntKind.i64.wrap ((t : Int) + 1) = ((t + 1 : Nat) : Int) := by rw [IntKind.wrap_i64]; omega
      obtain ⟨b, off, rfl, hbl, q0, q1, q2⟩ := HH.out t hlt
      have hs1 := HS1.out t hlt
      have hs2 := HS2.out t hlt
      rw [HE.out.1] at hs1
      rw [HE.out.2] at hs2
      have hblr : b < wr.heap.size := Nat.lt_of_lt_of_le hbl HP.out.bel.size
      have c0 := (HP.out.bel.cell (p := ⟨b, off + t * 3, none⟩) hbl).trans q0
      have c1 := (HP.out.bel.cell (p := ⟨b, off + t * 3 + 1, none⟩) hbl).trans q1
      have c2 := (HP.out.bel.cell (p := ⟨b, off + t * 3 + 2, none⟩) hbl).trans q2
      clear q0 q1 q2 HH HS1 HS2 HF1 HF2 HL1 HL2 HE
      generalize l[t] = y at *
      obtain ⟨ya, ys, yn⟩ := y
      dsimp only at c0 c1 c2 hs1 hs2
      have Z := hideIt (HP.out.keep (below1 wr (.cells #[.int .i64 ya, .int .i64 ys, .int .i64 yn] 45)))
      have K1 := hideIt (heap_alloc_new wr (.cells #[.int .i64 ya, .int .i64 ys, .int .i64 yn] 45))
      have HS1 := hideIt hs1
      have HS2 := hideIt hs2
      clear HP hs1 hs2
      go_upto_region 4 with fail
      clear c0 c1 c2 hblr
      generalize wr.alloc (.cells #[.int .i64 ya, .int .i64 ys, .int .i64 yn] 45) = W1 at *
      generalize wr.heap.size = kb at *
      have k0 : W1.cell? ⟨kb, 0, none⟩ = some (.int .i64 ya) := by rw [cell_at K1.out]; rfl
      have k1 : W1.cell? ⟨kb, 1, none⟩ = some (.int .i64 ys) := by rw [cell_at K1.out]; rfl
      have k2 : W1.cell? ⟨kb, 2, none⟩ = some (.int .i64 yn) := by rw [cell_at K1.out]; rfl
      have kz : kb < W1.heap.size := (Array.getElem?_eq_some_iff.1 K1.out).1
      clear K1
      by_cases he : ya = acc
      · subst he
        obtain ⟨a', c', w', hrun, hO'⟩ := Z.out.appA ⟨ys, yn⟩ (by omega)
        have HRUN := hideIt hrun
        simp only [amE] at HRUN
        have Z2 := hideIt hO'
        have HN : Hid (FA (t + 1) = A ++ [⟨ys, yn⟩] ∧ FL (t + 1) = R) := ⟨by rw [HS1.out, if_pos rfl], by rw [HS2.out, if_pos rfl, List.append_nil]⟩
        clear hrun hO' Z HS1 HS2
        go_wp2_with (at_builtin; refine Lib.wpList_append_run _ rfl _ _ _ _ rfl _ _ rfl rfl _ _ HRUN.out ?_)
        clear HRUN
        go_wp2
        go_roundw
        case rel => first | exact ⟨t + 1, a', _, c', va, _, vc, _, _, rfl, rfl, by go_num, by omega, by simp, rfl, HN, Z2⟩ | ((repeat apply Exists.intro); exact ⟨⟨t + 1, a', _, c', va, _, vc, _, _, rfl, rfl, by go_num, by omega, by simp, rfl, HN, Z2⟩, rfl⟩)
        case measure => simp [intOf]; omega
      · obtain ⟨a', c', w', hrun, hO'⟩ := Z.out.appR ⟨ya, ys, yn⟩ (by omega)
        have HRUN := hideIt hrun
        simp only [oweE] at HRUN
        have Z2 := hideIt hO'
        have HN : Hid (FA (t + 1) = A ∧ FL (t + 1) = R ++ [⟨ya, ys, yn⟩]) := ⟨by rw [HS1.out, if_neg he, List.append_nil], by rw [HS2.out, if_neg he]⟩
        clear hrun hO' Z HS1 HS2
        go_wp2_with (at_builtin; refine Lib.wpList_append_run _ rfl _ _ _ _ rfl _ _ rfl rfl _ _ HRUN.out ?_)
        clear HRUN
        go_wp2
        go_roundw
        case rel => first | exact ⟨t + 1, ua, _, uc, a', _, c', _, _, rfl, rfl, by go_num, by omega, rfl, by simp, HN, Z2⟩ | ((repeat apply Exists.intro); exact ⟨⟨t + 1, ua, _, uc, a', _, c', _, _, rfl, rfl, by go_num, by omega, rfl, by simp, HN, Z2⟩, rfl⟩)
        case measure => simp [intOf]; omega
    · have hltI : ¬ (t : Int) < (l.length : Int) := by omega
      have het : t = l.length := by omega
      subst het
      have HQ : Hid (A = RA ∧ R = RL) := ⟨HE.out.1.symm.trans HF1.out, HE.out.2.symm.trans HF2.out⟩
      clear HH HS1 HS2 HF1 HF2 HL1 HL2 HE
      go_wp2
      go_ret2
      obtain ⟨rfl, rfl⟩ := HQ.out
      exact ⟨_, _, _, _, rfl, HP.out⟩
end Go.Proofs.Ytbpnnhalajbjnaa
