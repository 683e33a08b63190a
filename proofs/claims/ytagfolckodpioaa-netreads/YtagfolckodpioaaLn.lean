/- How many packets are there: the walk over the map. -/
import Derived.Test.YtagfolckodpioaaSn
import Derived.Maps.RangeWalk
namespace Go.Proofs.Ytagfolckodpioaa.K2
open Go.RowKit Go.Maps Go.Proofs.Ytagfolckodpioaa
set_option linter.all false
theorem PM.val {w : World} {mb c : Nat} {f : Pks} (h : PM w mb c f) : ∃ n D, w.ownsMap Try.prog 56 heldR mb n D ∧ (∀ kl, has D kl = true → ∃ x p, PkOk x ∧ kl = pkK x ∧ f x = some p ∧ ∀ z, D.atKey kl z = .held (.int .i64 p)) ∧ ∀ x p, PkOk x → f x = some p → has D (pkK x) = true := by
  obtain ⟨n, D, h1, h2, h3, h4, h5⟩ := h
  refine ⟨n, D, h2, fun kl hk => ?_, fun x p hx hp => has_true_of_atKey (h3 x hx p hp)⟩
  obtain ⟨x, hx, rfl⟩ := h5 kl hk
  cases hf : f x with
  | none =>
    rw [has_false_of_atKey (h4 x hx hf)] at hk
    cases hk
  | some p => exact ⟨x, p, hx, rfl, hf, h3 x hx p hf⟩
/-- What is still to come. -/
def sumK (f : Pks) (left : Lit → Bool) (ks : List PkV) : Int := (ks.map (fun p => if left (pkK p) = true then pg f p else 0)).sum
theorem sumK_none {f : Pks} {left : Lit → Bool} (h : ∀ kl, left kl = false) (ks : List PkV) : sumK f left ks = 0 := by
  induction ks with
  | nil => rfl
  | cons p ks ih =>
    unfold sumK at *
    rw [List.map_cons, List.sum_cons, ih, h, if_neg (by decide)]
    rfl
theorem sumK_skip {f : Pks} {left : Lit → Bool} {x : PkV} : ∀ {ks : List PkV}, (∀ p ∈ ks, pkK p ≠ pkK x) → sumK f (fun z => left z && !z.sameKey (pkK x)) ks = sumK f left ks
  | [], _ => rfl
  | p :: ks, h => by
    have ih := sumK_skip (f := f) (left := left) (x := x) (ks := ks) (fun q hq => h q (List.mem_cons_of_mem _ hq))
    have hp := sameKey_ne (h p (List.mem_cons_self ..))
    unfold sumK at *
    simp only [List.map_cons, List.sum_cons, ih, hp, Bool.not_false, Bool.and_true]
theorem sumK_step {f : Pks} {left : Lit → Bool} {x : PkV} (hl : left (pkK x) = true) : ∀ {ks : List PkV}, (ks.map pkK).Nodup → x ∈ ks → sumK f (fun z => left z && !z.sameKey (pkK x)) ks = sumK f left ks - pg f x
  | [], _, hx => by simp at hx
  | p :: ks, hn, hx => by
    rw [List.map_cons, List.nodup_cons] at hn
    have hself : (pkK x).sameKey (pkK x) = true := WideAt.sameKey_self trivial
    rw [List.mem_cons] at hx
    rcases hx with rfl | hx
    · have ih := sumK_skip (f := f) (left := left) (x := x) (ks := ks) (fun q hq e => hn.1 (by rw [← e]; exact List.mem_map_of_mem hq))
      unfold sumK at *
      simp only [List.map_cons, List.sum_cons, ih, hself, hl, Bool.not_true, Bool.and_false]
      simp
      omega
    · have ih := sumK_step (f := f) hl hn.2 hx
      have hp := sameKey_ne (a := pkK p) (b := pkK x) (fun e => hn.1 (by rw [e]; exact List.mem_map_of_mem hx))
      unfold sumK at *
      simp only [List.map_cons, List.sum_cons, ih, hp, Bool.not_false, Bool.and_true]
      omega
theorem sumK_bd {f : Pks} (hf : ∀ x, 0 ≤ pg f x ∧ pg f x ≤ 1000000) (left : Lit → Bool) : ∀ (ks : List PkV), 0 ≤ sumK f left ks ∧ sumK f left ks ≤ ks.length * 1000000
  | [] => by simp [sumK]
  | p :: ks => by
    have ih := sumK_bd hf left ks
    have hp := hf p
    unfold sumK at *
    simp only [List.map_cons, List.sum_cons, List.length_cons]
    push_cast
    split <;> omega
set_option maxHeartbeats 8000000 in
set_option maxRecDepth 100000 in
theorem len_is (B n mb : Nat) (room sent taken : Int) (l : List PkV) (row : Value) (c : Nat) (f : Pks) (ks : List PkV) (w : World) (h : NA B n mb room sent taken l row c f w) (hf : ∀ x, 0 ≤ pg f x ∧ pg f x ≤ 1000000) (hn : (ks.map pkK).Nodup) (hk : ∀ x p, PkOk x → f x = some p → x ∈ ks) (hl : ks.length ≤ 100000) (hall : ∀ x ∈ ks, PkOk x ∧ ∃ p, f x = some p) : Calls Try.prog 30 #[.pointer (some ⟨n, 0, none⟩)] w fun e w' => e = .returned (.int .i64 (sumK f (fun _ => true) ks)) ∧ Below w.heap.size w w' := by
  obtain ⟨k, D, hown, hv, hh⟩ := h.mp.val
  have HV := hideIt hv
  have HH := hideIt hh
  have HST := hideIt (fun (left : Lit → Bool) (x : PkV) (hx : x ∈ ks) (hl : left (pkK x) = true) => sumK_step (f := f) hl hn hx)
  have HBD := hideIt (fun left => sumK_bd hf left ks)
  have HNO := hideIt (fun (left : Lit → Bool) (h : ∀ kl, left kl = false) => sumK_none (f := f) h ks)
  have HK := hideIt hk
  have HPG := hideIt hf
  have HT : Hid (sumK f (fun z => has D z) ks = sumK f (fun _ => true) ks) := by
    show _ = _
    unfold sumK
    congr 1
    apply List.map_congr_left
    intro p hp
    obtain ⟨ho, q, hq⟩ := hall p hp
    dsimp only
    exact (if_pos (hh p q ho hq)).trans (if_pos rfl).symm
  obtain ⟨⟨c0, c1, c2, c3, c4⟩, cf, cz⟩ := five5_at h.blk
  generalize sumK f (fun _ => true) ks = TT at *
  clear hv hh h hk hall hn hf
  go_enter Try.func30, Try.ntmps30
  go_wp2_with (first | (at_range; refine wpList_range_own _ rfl _ 87 rfl 56 3 pk_keyed Try.underlying87 heldR mb k D rfl hown ?_; intro w0 hrg0 hg0 hs0) | go_in)
  go_frame
  have B0 : Hid (Below w.heap.size w w0) := grown_none hg0
  have HRG := hideIt hrg0
  clear hg0 hs0 hown hrg0 c0 c1 c2 c3 c4 cf cz
  go_loopw [3] (fun v wr => ∃ left cnt, ∃ acc : Int, v = .int .i64 acc ∧ Hid (wr.ranges Try.prog 56 heldR mb w.heap.size k D left cnt ∧ (∀ kl, left kl = true → has D kl = true) ∧ acc + sumK f left ks = TT ∧ 0 ≤ acc ∧ Below w.heap.size w wr)) (fun _ wr => wr.rangeLeft mb w.heap.size)
  case atStart => exact ⟨_, _, 0, rfl, hideIt ⟨HRG.out, fun _ h => h, by rw [Int.zero_add]; exact HT.out, Int.le_refl _, B0.out⟩⟩
  case round =>
    clear HRG B0
    obtain ⟨left, cnt, acc, rfl, HR⟩ := hrel
    have hrg := HR.out.1
    go_wp2_with (first | (at_next; refine wpList_next_ranges _ rfl _ rfl 56 pk_keyed heldR (fun v : Value => v) (fun v : Value => v) (fun key kl h => ⟨key, rfl⟩) (fun v y h => ⟨v, rfl⟩) mb w.heap.size k D left cnt rfl hrg ?_ ?_) | go_in)
    · intro h0 hl
      have he := HR.out.2.2.1
      rw [HNO.out left hl, Int.add_zero] at he
      have HE := hideIt he
      have BB := hideIt HR.out.2.2.2.2
      clear he hrg HR
      go_wp2
      go_ret
      exact ⟨by rw [HE.out]; rfl, BB.out⟩
    · intro x v kl yd yps w1 cnt1 hkey hlk hR hat hrg1 hlt hg1 hs1 hen
      obtain ⟨x', p, hx', hkl, hfp, hval⟩ := HV.out kl (HR.out.2.1 kl hlk)
      have hvp : v = .int .i64 p := by
        have h1 := hat (.held (.int .i64 0))
        rw [hval] at h1
        unfold heldR at hR
        cases hR
        simpa using h1.symm
      subst hvp
      have hst := HST.out left x' (HK.out x' p hx' hfp) (by rw [← hkl]; exact hlk)
      have hbd := HBD.out left
      have hbd2 := HBD.out (fun z => left z && !z.sameKey (pkK x'))
      have hpg : pg f x' = p := by unfold pg; rw [hfp]; rfl
      rw [hpg] at hst
      have hac := HR.out.2.2.1
      have ha0 := HR.out.2.2.2.1
      have hTT := HBD.out (fun z => has D z)
      rw [HT.out] at hTT
      have hpf := (HPG.out x').1
      rw [hpg] at hpf
      have hp0 : 0 ≤ p ∧ acc + p ≤ 100000000000 := by omega
      have R1 := hideIt hrg1
      have RO := hideIt hrg
      have B1 : Hid (Below w.heap.size w w1) := below_out HR.out.2.2.2.2 (Out.ofGrown (F := fun k => k = w.heap.size) hg1 (fun k e => by cases e; rfl)) (fun k e => by omega)
      have LT := hideIt hlt
      have hw : IntKind.i64.wrap (acc + p) = acc + p := by rw [IntKind.wrap_i64]; omega
      have Z : Hid (w1.ranges Try.prog 56 heldR mb w.heap.size k D (fun z => left z && !z.sameKey kl) cnt1 ∧ (∀ k', (left k' && !k'.sameKey kl) = true → has D k' = true) ∧ acc + p + sumK f (fun z => left z && !z.sameKey kl) ks = TT ∧ 0 ≤ acc + p ∧ Below w.heap.size w w1) := by
        refine ⟨R1.out, fun k' hk => HR.out.2.1 k' (by simp at hk; exact hk.1), ?_, by omega, B1.out⟩
        rw [hkl, hst]
        omega
      clear hg1 hs1 hrg1 hrg hat hR hval HR hkey hlk hst hbd hbd2 hac hTT hpg hfp hpf
      go_wp2
      go_roundw
      case rel => exact ⟨_, _, _, rfl, Z⟩
      case measure => rw [R1.out.left_eq, RO.out.left_eq]; exact LT.out
end Go.Proofs.Ytagfolckodpioaa.K2
