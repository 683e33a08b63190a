/- What all packets are, and when none is sent or doubled: walked. -/
import Derived.Test.YtagfolckodpioaaSn
namespace Go.Proofs.Ytagfolckodpioaa.K2
open Go.RowKit Go.Maps Go.Proofs.Ytagfolckodpioaa
set_option linter.all false
theorem appL {α : Type} {k bytes : Nat} {enc : α → List Value} {t e : TypeId} {z : Value} (hk : ∀ x, (enc x).length = k) (h1 : ∀ x, ∀ u ∈ enc x, u.oneCell' = true) (ht : Try.prog.underlying t = some (.slice e))
    (hi : (Try.prog.info? e).map (fun i => (i.zero, i.size, i.bytes)) = some (some z, k, bytes)) (hz : z.cells.size = k) (hk0 : 0 < k) (hb0 : 8 ≤ bytes) (w : World) (B : Nat) (v : Value) (xs l : List α) (b : Addr) (n c : Nat) (hn : n = l.length) (hB : B ≤ w.heap.size)
    (ho : w.ownsRow B e k v xs.length (celC enc xs)) (hg : SGot k bytes enc w (.slice (some b) n c) l) (hl : (xs.length + l.length) * bytes ≤ 140737488355328) :
    ∃ v' w', (Builtin.append_ #[t, t] t #[v, .slice (some b) n c]).run Try.prog w = .ok v' w' ∧ w'.ownsRow B e k v' (xs ++ l).length (celC enc (xs ++ l)) ∧ w.grownBy w' v.ownBlock := by
  subst hn
  obtain ⟨i, hi, hz0, hz1, hz2⟩ := info_parts hi
  have hm : xs.length + l.length ≤ maxLen := by
    have : (xs.length + l.length) * 8 ≤ (xs.length + l.length) * bytes := Nat.mul_le_mul_left _ hb0
    unfold maxLen
    omega
  obtain ⟨h8, a', c', e', _, hr⟩ := hg
  simp only [Value.slice.injEq] at e'
  obtain ⟨v', w', r1, r2, r3, _⟩ := run_append_own (P := Try.prog) w B t t e i _ k bytes ht hi hz0 hz1 hz2 hz hk0 v xs.length (celC enc xs) ho b l.length c (celC enc l) (celC_len hk l) (fun j u hu => by
    have hj := (List.getElem?_eq_some_iff.1 hu).1
    rw [celC_len hk] at hj
    have hp : 0 < l.length := by
      rcases Nat.eq_zero_or_pos l.length with h0 | h0
      · rw [h0] at hj
        omega
      · exact h0
    obtain ⟨b', off, hb, _, hc⟩ := hr hp
    have : b = ⟨b', off, none⟩ := by
      have := e'.1.trans hb
      simpa using this
    rw [this, addN, hc j hj, hu]) (celC_one h1 l) hm hl hB
  refine ⟨v', w', r1, ?_, r3⟩
  rw [List.length_append, celC_app]
  exact r2
set_option maxRecDepth 100000 in
set_option maxHeartbeats 4000000 in
theorem cloneP_is (v : Value) (l : List PkV) (w : World) (h : SGot 3 32 pkE w v l) : Calls Try.prog 56 #[v] w fun e w' => ∃ v', e = .returned v' ∧ w'.ownsRow w.heap.size 56 3 v' l.length (celC pkE l) ∧ Below w.heap.size w w' := by
  obtain ⟨a, c, rfl⟩ := h.slice
  have q63 : ∀ (w : World) (a : Option Addr) (n c n' c' : Nat), (binOp .eql 63 (.slice a n c) (.slice none n' c')).run Try.prog w = .ok (.bool a.isNone) w := fun w a n c n' c' => Lib.run_eql_slice_nil w _ _ a n c n' c' Try.underlying63
  cases a with
  | none =>
    have h0 : l.length = 0 := by
      obtain ⟨_, a', c', e', _, hr⟩ := h
      simp only [Value.slice.injEq] at e'
      rcases Nat.eq_zero_or_pos l.length with h0 | h0
      · exact h0
      · obtain ⟨b, off, hb, _⟩ := hr h0
        rw [← e'.1] at hb
        cases hb
    have hl : l = [] := List.length_eq_zero_iff.1 h0
    subst hl
    simp only [List.length_nil]
    clear h h0
    go_enter Try.func56, Try.ntmps56
    go_wp2
    go_ret
    exact ⟨_, rfl, own_nil _ _, Below.refl _ _⟩
  | some b =>
    obtain ⟨v', w', hrun, how, hgr⟩ := appL (enc := pkE) (t := 63) pkE_len pkE_one Try.underlying63 info56 rfl (by omega) (by omega) (w.alloc (.cells #[] 56)) w.heap.size (.slice (some ⟨w.heap.size, 0, none⟩) 0 0) [] l b l.length c rfl (by simp) (World.ownsRow_made w #[] 0 (Nat.le_refl _) (Nat.zero_le _) (by simp)) (h.keep (below1 w _)) (by have := h.1; rw [List.length_nil]; omega)
    rw [List.nil_append] at how
    have HRUN := hideIt hrun
    have HR := hideIt (And.intro how (below_out (below1 w (.cells #[] 56)) (Out.ofGrown (F := fun k => w.heap.size ≤ k) hgr (fun k hk => by simp only [Value.ownBlock, Option.some.injEq] at hk; omega)) (fun _ h => h)))
    clear hrun how hgr h
    generalize l.length = n at *
    obtain ⟨bb, bo, bp⟩ := b
    go_enter Try.func56, Try.ntmps56
    go_wp2_with (at_builtin; refine Lib.wpList_append_run _ rfl _ _ _ _ rfl _ _ rfl rfl _ _ HRUN.out ?_)
    go_ret
    exact ⟨_, rfl, HR.out.1, HR.out.2⟩
set_option maxHeartbeats 4000000 in
theorem all_is (B n mb : Nat) (room sent taken : Int) (l : List PkV) (row : Value) (c : Nat) (f : Pks) (w : World) (h : NA B n mb room sent taken l row c f w) (hl : l.length ≤ 3000) : Calls Try.prog 25 #[.pointer (some ⟨n, 0, none⟩)] w fun e w' => ∃ v', e = .returned v' ∧ w'.ownsRow w.heap.size 56 3 v' l.length (celC pkE l) ∧ Below w.heap.size w w' := by
  have HC := hideIt (cloneP_is row l w (own_sgot h.own (by omega)))
  obtain ⟨⟨c0, c1, c2, c3, c4⟩, cf, cz⟩ := five5_at h.blk
  clear h
  go_enter Try.func25, Try.ntmps25
  go_wp2_with fail
  refine HC.out.mono ?_
  rintro e w1 ⟨v', rfl, ho, hb⟩
  dsimp only
  have HO := hideIt ho
  have HB := hideIt hb
  clear ho hb HC c0 c1 c2 c3 c4 cf cz
  go_wp2
  go_ret
  exact ⟨_, rfl, HO.out, HB.out⟩
/-- Why nothing is sent. -/
def sndE (p : PkV) : Int := if (wiB p.frm 1 7 && wiB p.dst 1 7) = true then (if p.text.size ≤ 70008 then 50 else 2) else 1
set_option maxHeartbeats 8000000 in
set_option maxRecDepth 100000 in
theorem send_no (B n mb : Nat) (room sent taken : Int) (l : List PkV) (row : Value) (c : Nat) (f : Pks) (p : PkV) (w : World) (h : NA B n mb room sent taken l row c f w) (hno : ¬ (wiB p.frm 1 7 = true ∧ wiB p.dst 1 7 = true ∧ p.text.size ≤ 70008 ∧ (l.length : Int) < room)) : Calls Try.prog 19 #[.pointer (some ⟨n, 0, none⟩), pkV p] w fun e w' => e = .returned (.int .i64 (sndE p)) ∧ Below w.heap.size w w' := by
  have hb1 := below1 w (.cells #[.int .i64 p.frm, .int .i64 p.dst, .string p.text] 56)
  have N1 := hideIt (h.keep hb1)
  have K1 := hideIt (heap_alloc_new w (.cells #[.int .i64 p.frm, .int .i64 p.dst, .string p.text] 56))
  have B1 := hideIt hb1
  have I1 := hideIt (fun W => isNode_is p.frm W)
  have I2 := hideIt (fun W => isNode_is p.dst W)
  have HE : Hid (sndE p = if (wiB p.frm 1 7 && wiB p.dst 1 7) = true then (if p.text.size ≤ 70008 then 50 else 2) else 1) := rfl
  clear h hb1
  unfold pkV at *
  obtain ⟨pf, pd, pt⟩ := p
  simp only at *
  obtain ⟨ra, rc, rfl⟩ := own_len N1.out.own
  generalize sndE ⟨pf, pd, pt⟩ = er at *
  cases h1 : wiB pf 1 7 with
  | false =>
    rw [h1] at I1
    have HR : Hid (er = 1) := by show _ = _; rw [HE.out, h1]; rfl
    clear HE hno h1 I2
    go_enter Try.func19, Try.ntmps19
    go_upto_region 1 with fail
    generalize w.alloc (.cells #[.int .i64 pf, .int .i64 pd, .string pt] 56) = W1 at *
    obtain ⟨b0, b1, b2, bf, bz⟩ := three_at K1.out
    go_wp2_with fail
    refine (I1.out _).mono ?_
    rintro e w1 ⟨rfl, rfl⟩
    dsimp only
    clear b0 b1 b2 bf bz
    go_wp2
    go_ret
    exact ⟨by rw [HR.out]; rfl, B1.out⟩
  | true =>
    rw [h1] at I1
    cases h2 : wiB pd 1 7 with
    | false =>
      rw [h2] at I2
      have HR : Hid (er = 1) := by show _ = _; rw [HE.out, h1, h2]; rfl
      clear HE hno h1 h2
      go_enter Try.func19, Try.ntmps19
      go_upto_region 1 with fail
      generalize w.alloc (.cells #[.int .i64 pf, .int .i64 pd, .string pt] 56) = W1 at *
      obtain ⟨b0, b1, b2, bf, bz⟩ := three_at K1.out
      go_wp2_with fail
      refine (I1.out _).mono ?_
      rintro e w1 ⟨rfl, rfl⟩
      dsimp only
      go_wp2_with fail
      refine (I2.out _).mono ?_
      rintro e w2 ⟨rfl, rfl⟩
      dsimp only
      clear b0 b1 b2 bf bz
      go_wp2
      go_ret
      exact ⟨by rw [HR.out]; rfl, B1.out⟩
    | true =>
      rw [h2] at I2
      by_cases h3 : pt.size ≤ 70008
      · have h4 : room ≤ (l.length : Int) := by
          by_cases c : (l.length : Int) < room
          · exact absurd ⟨h1, h2, h3, c⟩ hno
          · omega
        have HR : Hid (er = 50) := by show _ = _; rw [HE.out, h1, h2]; exact if_pos h3
        have hlen : ¬ (70008 : Int) < (pt.size : Int) := by omega
        clear HE hno h1 h2
        go_enter Try.func19, Try.ntmps19
        go_upto_region 1 with fail
        generalize w.alloc (.cells #[.int .i64 pf, .int .i64 pd, .string pt] 56) = W1 at *
        obtain ⟨b0, b1, b2, bf, bz⟩ := three_at K1.out
        go_wp2_with fail
        refine (I1.out _).mono ?_
        rintro e w1 ⟨rfl, rfl⟩
        dsimp only
        go_wp2_with fail
        refine (I2.out _).mono ?_
        rintro e w2 ⟨rfl, rfl⟩
        dsimp only
        go_upto_region 5 with fail
        have HFU := hideIt (full_any n room sent taken ra l.length rc mb w2 N1.out.blk)
        have hfd : decide (room ≤ (l.length : Int)) = true := decide_eq_true h4
        rw [hfd] at HFU
        go_wp2_with fail
        refine HFU.out.mono ?_
        rintro e w3 ⟨rfl, hb⟩
        dsimp only
        have B3 := hideIt (below_via B1.out hb)
        clear hb N1 K1 B1 HFU hfd b0 b1 b2 bf bz I1 I2
        go_wp2
        go_ret
        exact ⟨by rw [HR.out]; rfl, B3.out⟩
      · have HR : Hid (er = 2) := by show _ = _; rw [HE.out, h1, h2]; exact if_neg h3
        have hlen : (70008 : Int) < (pt.size : Int) := by omega
        clear HE hno h1 h2
        go_enter Try.func19, Try.ntmps19
        go_upto_region 1 with fail
        generalize w.alloc (.cells #[.int .i64 pf, .int .i64 pd, .string pt] 56) = W1 at *
        obtain ⟨b0, b1, b2, bf, bz⟩ := three_at K1.out
        go_wp2_with fail
        refine (I1.out _).mono ?_
        rintro e w1 ⟨rfl, rfl⟩
        dsimp only
        go_wp2_with fail
        refine (I2.out _).mono ?_
        rintro e w2 ⟨rfl, rfl⟩
        dsimp only
        go_wp2
        go_ret
        exact ⟨by rw [HR.out]; rfl, B1.out⟩
end Go.Proofs.Ytagfolckodpioaa.K2
