/- Texts of my own, laid together. -/
import Derived.Test.YtcaehfkfohianaaGreatPz12
import Derived.Test.YtcaehfkfohianaaGreatPz09
import Derived.Test.YtcaehfkfohianaaGreatPz11
import Derived.Test.YtcaehfkfohianaaGreatPz07
import Derived.Test.YtcaehfkfohianaaGreatPz08
set_option linter.all false
namespace Go.Proofs.YtcaehfkfohianaaGreat
open Go.RowKit
theorem send_d (W : WkV) (k : Nat) : (sendW W k).d = W.d := by
 unfold sendW
 split
 ·rfl
 ·rfl
theorem each_d {f : WkV → Nat → WkV} (hf : ∀ W k, (f W k).d = W.d) (W : WkV) : ∀ k, (eachW f k W).d = W.d
 | 0 => rfl
 | k + 1 => by
  unfold eachW
  split
  ·exact each_d hf W k
  ·rw [hf];exact each_d hf W k
theorem add_go {d0 : NodeV} {W : WkV} {e : EntV} (h : FW d0 W.d) (l : LD W.d) (hr : W.d.b.r = 3) (h0 : (addW W e).2 = 0) : FW d0 (addW W e).1.d ∧ Led (addW W e).1.d := by
 unfold addW at h0 ⊢
 split at h0
 ·rename_i ha
  rw [if_pos ha];obtain ⟨p1, p2⟩ := put_led h l ha;obtain ⟨q1, q2⟩ := adv_led p1 p2 hr;simp only [allW, each_d send_d]
  exact ⟨q1, fun _ => q2, fun hn => absurd hr hn⟩
 ·simp at h0
theorem lead_go {d0 : NodeV} {W : WkV} (h : FW d0 W.d) (hr : W.d.b.r = 3) (h0 : (leadW W).2 = 0) : FW d0 (leadW W).1.d ∧ Led (leadW W).1.d := by
 obtain ⟨p1, p2⟩ := new_led h;exact add_go (W := {W with d := {W.d with ld := W.d.me, nx := (List.replicate (W.d.n + 1).toNat ((lastL W.d.L).1 + 1)).set 0 0, mt := List.replicate (W.d.n + 1).toNat 0}, wt := true}) p1 p2 hr h0
theorem FW.bal {d0 d : NodeV} (h : FW d0 d) {b : Tm.Bal} {ld : Int} (hm : Tm.mayB b = true) (hv : VoteF d.b b) (h1 : (b.l.length : Int) ≤ d.n) (h2 : b.r = 2 → 2 * (b.l.length : Int) ≤ d.n) (hl : 0 ≤ ld ∧ ld ≤ d.n) : FW d0 {d with b := b, ld := ld} :=
 ⟨h.me, h.n, ⟨h.nb.n, h.nb.me, hl, hm, h.nb.L, h.nb.tx⟩, h.log, h.vote.trans hv, h1, h2⟩
theorem time_go {d0 : NodeV} {W : WkV} (h : FW d0 W.d) (l : Led W.d) (h0 : (timeW W).2 = 0) : FW d0 (timeW W).1.d ∧ Led (timeW W).1.d := by
 unfold timeW at h0 ⊢
 by_cases c1 : W.d.b.r = 3
 ·rw [if_pos c1];simp only [allW, each_d send_d]
  exact ⟨h, l⟩
 ·rw [if_neg c1] at h0 ⊢
  by_cases c2 : (Tm.beginL W.d.b W.d.me W.d.n).2 ≠ 0
  ·rw [if_pos c2] at h0
   simp at h0
  ·rw [if_neg c2] at h0 ⊢;obtain ⟨b1, b2, b3, b4, b5⟩ := begin_bal (Decidable.not_not.1 c2);have hn := h.nb.n;have hb : FW d0 {W.d with b := (Tm.beginL W.d.b W.d.me W.d.n).1, ld := 0} := h.bal b4 b5 (by rw [b3]; simp only [List.length_singleton]; omega) (by
    rw [b3];simp only [List.length_singleton]
    split
    ·intro h; omega
    ·intro h; omega) (by omega)
   by_cases c3 : (Tm.beginL W.d.b W.d.me W.d.n).1.r = 3
   ·rw [if_pos c3] at h0 ⊢;exact lead_go (W := {W with d := {W.d with b := (Tm.beginL W.d.b W.d.me W.d.n).1, ld := 0}, wt := true}) hb c3 h0
   ·rw [if_neg c3];simp only [allW, each_d (f := pollW) (fun W k => rfl)]
    exact ⟨hb, fun hr => absurd hr c3, fun _ => l.2 c1⟩
theorem prop_go {d0 : NodeV} {W : WkV} {t : ByteArray} (h : FW d0 W.d) (l : Led W.d) (h0 : (propW W t).2 = 0) : FW d0 (propW W t).1.d ∧ Led (propW W t).1.d := by
 unfold propW at h0 ⊢
 by_cases c1 : W.d.b.r ≠ 3
 ·rw [if_pos c1] at h0
  simp at h0
 ·rw [if_neg c1] at h0 ⊢
  by_cases c2 : 4000 < t.size
  ·rw [if_pos c2] at h0
   simp at h0
  ·rw [if_neg c2] at h0 ⊢;exact add_go h (l.1 (Decidable.not_not.1 c1)) (Decidable.not_not.1 c1) h0
theorem save_go {d0 : NodeV} {W : WkV} {i : Int} {t : ByteArray} (h : FW d0 W.d) (l : Led W.d) (h0 : (saveW W i t).2 = 0) : FW d0 (saveW W i t).1.d ∧ Led (saveW W i t).1.d := by
 unfold saveW at h0 ⊢
 by_cases c1 : 50000 < t.size
 ·rw [if_pos c1] at h0
  simp at h0
 ·rw [if_neg c1] at h0 ⊢
  by_cases c2 : (compL W.d.L i).2 ≠ 0
  ·rw [if_pos c2] at h0;exact absurd h0 c2
  ·rw [if_neg c2];obtain ⟨a1, a2, a3, a4, a5⟩ := comp_log (Decidable.not_not.1 c2);have hin := mayB_in a1;have e : lasI (compL W.d.L i).1 = lasI W.d.L := by
    rw [a4];unfold lasI at hin ⊢;simp only [List.length_drop];omega
   refine ⟨⟨h.me, h.n, ⟨h.nb.n, h.nb.me, h.nb.ld, h.nb.b, a5.may, ?_⟩, h.log.trans a5, h.vote, h.bl, h.b2⟩, fun hr => ?_, l.2⟩
   ·have h5 : textB t i = true := by
     simp only [textB, Bool.and_eq_true, Bool.or_eq_true, decide_eq_true_eq]
     exact ⟨by omega, .inl (by omega)⟩
    show textB t (compL W.d.L i).1.bi = true
    rw [a4];exact h5
   ·have hl := l.1 hr;refine ⟨hl.ld, hl.nl, hl.n0, ?_, hl.ml, hl.m0, ?_⟩
    ·simp only [snapW];rw [e];exact hl.nb
    ·simp only [snapW];rw [e];exact hl.mb
theorem foll_go {d0 d : NodeV} (h : FW d0 d) {ld : Int} (hl : 0 ≤ ld ∧ ld ≤ d.n) : FW d0 {d with b := ⟨d.b.t, d.b.v, 1, []⟩, ld := ld, nx := [], mt := []} ∧ Led {d with b := ⟨d.b.t, d.b.v, 1, []⟩, ld := ld, nx := [], mt := []} := by
 have hb := bal_in h.nb.b;have hn := h.nb.n;refine ⟨⟨h.me, h.n, ⟨h.nb.n, h.nb.me, hl, bal_of hb.1 hb.2.1 hb.2.2.1 rfl, h.nb.L, h.nb.tx⟩, h.log, ⟨h.vote.t, h.vote.v⟩, by simp only [List.length_nil]; omega, fun hr => by simp at hr⟩, fun hr => by simp at hr, fun _ => ⟨rfl, rfl⟩⟩
theorem hear_go {d0 : NodeV} {W : WkV} {t : Int} (h : FW d0 W.d) (l : Led W.d) (ht : 1 ≤ t ∧ t ≤ 1000000) : FW d0 (hearW W t).d ∧ Led (hearW W t).d ∧ t ≤ (hearW W t).d.b.t := by
 obtain ⟨e, m, v, g, c⟩ := hear_bal h.nb.b ht;have hn := h.nb.n;unfold hearW;rw [e]
 simp only
 rcases c with ⟨c1, c2⟩ | ⟨c1, c2⟩
 ·rw [c1, if_pos ⟨rfl, rfl⟩]
  exact ⟨h, l, c2⟩
 ·rw [c2] at m v ⊢;rw [if_neg (fun hh => by have := hh.1; simp only at this; omega)]
  have hb : FW d0 {W.d with b := ⟨t, 0, 1, []⟩, ld := W.d.ld} := h.bal m v (by simp only [List.length_nil]; omega) (fun hr => by simp at hr) h.nb.ld
  have := foll_go hb (ld := 0) (by simp only; omega)
  exact ⟨this.1, this.2, Int.le_refl _⟩
theorem sent_in {m : MsgW} (h : sentB m = true) : (1 ≤ m.frm ∧ m.frm ≤ 7) ∧ (1 ≤ m.dst ∧ m.dst ≤ 7) ∧ m.frm ≠ m.dst ∧ (1 ≤ m.term ∧ m.term ≤ 1000000) ∧ (m.kind = 1 ∨ m.kind = 2 ∨ m.kind = 3 ∨ m.kind = 4 ∨ m.kind = 5) ∧ (m.kind = 1 → Tm.mkB m.pi m.pt = true) ∧ (m.kind = 5 → mkB m.si m.st = true ∧ 0 < m.si ∧ m.tx.size ≤ 50000) ∧ (m.kind = 4 → 0 ≤ m.mtch ∧ m.mtch ≤ 1000000) := by
 unfold sentB Nt.mayB at h;simp only [Bool.and_eq_true, Nt.headB, msgN, Nt.wiB, decide_eq_true_eq, Bool.not_eq_true', beq_eq_false_iff_ne] at h;obtain ⟨⟨⟨⟨h1, h2⟩, h3⟩, h4⟩, h5⟩ := h;unfold Nt.bodyB at h5;simp only [Nt.fOf] at h5;refine ⟨of_decide_eq_true h1, of_decide_eq_true h2, h3, of_decide_eq_true h4, ?_⟩
 by_cases k1 : m.kind = 1
 ·rw [if_pos k1] at h5;simp only [Bool.and_eq_true] at h5
  exact ⟨.inl k1, fun _ => h5.2, fun h => by omega, fun h => by omega⟩
 ·rw [if_neg k1] at h5
  by_cases k2 : m.kind = 2
  ·exact ⟨.inr (.inl k2), fun h => by omega, fun h => by omega, fun h => by omega⟩
  ·rw [if_neg k2] at h5
   by_cases k3 : m.kind = 3
   ·exact ⟨.inr (.inr (.inl k3)), fun h => by omega, fun h => by omega, fun h => by omega⟩
   ·rw [if_neg k3] at h5
    by_cases k4 : m.kind = 4
    ·rw [if_pos k4] at h5;simp only [Bool.and_eq_true, Nt.wiB, decide_eq_true_eq] at h5
     exact ⟨.inr (.inr (.inr (.inl k4))), fun h => by omega, fun h => by omega, fun _ => h5.2⟩
    ·rw [if_neg k4] at h5
     by_cases k5 : m.kind = 5
     ·rw [if_pos k5] at h5;simp only [Bool.and_eq_true, Nt.snB, Nt.mkB, Nt.wiB, decide_eq_true_eq, beq_iff_eq] at h5;obtain ⟨_, ⟨⟨⟨e1, e2⟩, e3⟩, e4⟩, e5⟩ := h5;refine ⟨.inr (.inr (.inr (.inr k5))), fun h => by omega, fun _ => ⟨?_, e4, e5⟩, fun h => by omega⟩;simp only [mkB, wiB, Bool.and_eq_true, decide_eq_true_eq, beq_iff_eq]
      exact ⟨⟨e1, e2⟩, e3.symm⟩
     ·rw [if_neg k5] at h5;cases h5
theorem poll_go {d0 : NodeV} {W : WkV} {m : MsgW} (h : FW d0 W.d) (l : Led W.d) (hs : sentB m = true) (hk : m.kind = 1) (ht : m.term ≤ W.d.b.t) : FW d0 (pollED W m).d ∧ Led (pollED W m).d := by
 obtain ⟨s1, s2, s3, s4, s5, s6, s7, s8⟩ := sent_in hs;have ha : Tm.askB m.frm m.term m.pi m.pt (lastL W.d.L).1 (lastL W.d.L).2 = true := by
  have h1 := last_mark h.nb.L;simp only [mkB, wiB, Bool.and_eq_true, decide_eq_true_eq, beq_iff_eq] at h1;simp only [Tm.askB, Tm.wiB, Bool.and_eq_true, decide_eq_true_eq];refine ⟨⟨⟨s1, s4⟩, s6 hk⟩, ?_⟩;simp only [Tm.mkB, Tm.wiB, Bool.and_eq_true, decide_eq_true_eq, beq_iff_eq]
  exact ⟨h1.1, h1.2.symm⟩
 have hG := grant_bal h.nb.b ha ht;unfold pollED tellW
 simp only
 rcases hG with e | ⟨e, r1, v1, t1, m1⟩
 ·rw [e]
  exact ⟨⟨h.me, h.n, ⟨h.nb.n, h.nb.me, h.nb.ld, h.nb.b, h.nb.L, h.nb.tx⟩, h.log, h.vote, h.bl, h.b2⟩, l⟩
 ·rw [e];have hv : VoteF W.d.b ⟨W.d.b.t, m.frm, W.d.b.r, W.d.b.l⟩ := ⟨Int.le_refl _, fun _ h2 => by rcases v1 with v1 | v1; exact absurd v1 h2; exact v1.symm⟩
  have hb := h.bal (ld := W.d.ld) m1 hv h.bl h.b2 h.nb.ld
  exact ⟨hb, fun hr => l.1 hr |>.rec (fun a1 a2 a3 a4 a5 a6 a7 => ⟨a1, a2, a3, a4, a5, a6, a7⟩), l.2⟩
theorem gran_go {d0 : NodeV} {W : WkV} {m : MsgW} (h : FW d0 W.d) (l : Led W.d) (hs : sentB m = true) (hf : m.frm ≤ W.d.n) (ht : m.term ≤ W.d.b.t) (h0 : (granED W m).2 = 0) : FW d0 (granED W m).1.d ∧ Led (granED W m).1.d := by
 obtain ⟨s1, s2, s3, s4, s5, s6, s7, s8⟩ := sent_in hs;have hn := h.nb.n;have hC := count_bal (ok := m.ok) h.nb.b (x := m.frm) (n := W.d.n) ⟨s1.1, hf, hn.2⟩ s4 ht;unfold granED at h0 ⊢
 rcases hC with e | ⟨r2, e, m1, l1, c1⟩
 ·rw [e] at h0 ⊢;simp only at h0 ⊢;rw [if_pos (Decidable.em (W.d.b.r = 3))]
  exact ⟨h, l⟩
 ·rw [e] at h0 ⊢;simp only at h0 ⊢;have hb2 := h.b2 r2;have hv : VoteF W.d.b (Tm.voteL W.d.b m.frm W.d.n) := ⟨Int.le_refl _, fun _ _ => rfl⟩;have hb : FW d0 {W.d with b := Tm.voteL W.d.b m.frm W.d.n, ld := W.d.ld} := h.bal m1 hv (by omega) (fun hr => by
   rcases c1 with c1 | c1
   ·omega
   ·exact c1.2) h.nb.ld
  by_cases c : W.d.b.r = 3 ∨ (Tm.voteL W.d.b m.frm W.d.n).r ≠ 3
  ·rw [if_pos c]
   exact ⟨hb, fun hr => by rcases c with c | c; omega; exact absurd hr c, fun _ => l.2 (by omega)⟩
  ·rw [if_neg c] at h0 ⊢;have hr : (Tm.voteL W.d.b m.frm W.d.n).r = 3 := by
    rcases Decidable.em ((Tm.voteL W.d.b m.frm W.d.n).r = 3) with h | h
    ·exact h
    ·exact absurd (.inr h) c
   exact lead_go (W := {W with d := {W.d with b := Tm.voteL W.d.b m.frm W.d.n}}) hb hr h0
theorem log_go {d0 d : NodeV} (h : FW d0 d) (l : Led d) (hr : d.b.r ≠ 3) {M : LogV} {t : ByteArray} (hM : LogF d.L M) (ht : textB t M.bi = true) : FW d0 {d with L := M, tx := t} ∧ Led {d with L := M, tx := t} :=
 ⟨⟨h.me, h.n, ⟨h.nb.n, h.nb.me, h.nb.ld, h.nb.b, hM.may, ht⟩, h.log.trans hM, h.vote, h.bl, h.b2⟩, fun h3 => absurd h3 hr, l.2⟩
theorem acc_go2 {d0 : NodeV} {W : WkV} {m : MsgW} (h : FW d0 W.d) (l : Led W.d) (hr : W.d.b.r ≠ 3) : FW d0 (accW W m).d ∧ Led (accW W m).d := by
 unfold accW
 split
 ·exact ⟨h, l⟩
 ·rename_i h1
  split
  ·exact ⟨h, l⟩
  ·obtain ⟨a1, a2, a3⟩ := acc_log (pi := m.pi) (pt := m.pt) (es := m.es) (cc := m.cm) h.nb.L (Decidable.not_not.1 h1);have := log_go h l hr (t := W.d.tx) a1 (by rw [a2]; exact h.nb.tx)
   split
   ·exact this
   ·exact this
theorem inst_go {d0 : NodeV} {W : WkV} {m : MsgW} (h : FW d0 W.d) (l : Led W.d) (hr : W.d.b.r ≠ 3) (hs : sentB m = true) (hk : m.kind = 5) : FW d0 (instW W m).d ∧ Led (instW W m).d := by
 obtain ⟨s1, s2, s3, s4, s5, s6, s7, s8⟩ := sent_in hs;obtain ⟨k1, k2, k3⟩ := s7 hk;obtain ⟨i1, i2, i3⟩ := inst_log (L := W.d.L) h.nb.L k1 (by omega);unfold instW;cases c : (instL W.d.L m.si m.st).2.1
 ·exact ⟨h, l⟩
 ·obtain ⟨j1, j2, j3, j4, j5⟩ := i2 c;have := log_go h l hr (t := m.tx) j2 (by
   simp only [textB, Bool.and_eq_true, Bool.or_eq_true, decide_eq_true_eq];rw [j3]
   exact ⟨k3, .inl k2⟩)
  exact this
theorem led_go {d0 : NodeV} {W : WkV} {m : MsgW} (h : FW d0 W.d) (l : Led W.d) (hs : sentB m = true) (hf : m.frm ≤ W.d.n) (hk : m.kind = 3 ∨ m.kind = 5) : FW d0 (ledW W m).d ∧ Led (ledW W m).d := by
 obtain ⟨s1, s2, s3, s4, s5, s6, s7, s8⟩ := sent_in hs;unfold ledW
 split
 ·exact ⟨h, l⟩
 ·split
  ·exact ⟨h, l⟩
  ·obtain ⟨f1, f2⟩ := foll_go h (ld := m.frm) ⟨by omega, hf⟩
   split
   ·exact acc_go2 (W := {follW W m.frm with wt := true}) f1 f2 (by simp [follW])
   ·exact inst_go (W := {follW W m.frm with wt := true}) f1 f2 (by simp [follW]) hs (by omega)
theorem rows_go {d0 d : NodeV} (h : FW d0 d) {nx mt : List Int} : FW d0 {d with nx := nx, mt := mt} := ⟨h.me, h.n, ⟨h.nb.n, h.nb.me, h.nb.ld, h.nb.b, h.nb.L, h.nb.tx⟩, h.log, h.vote, h.bl, h.b2⟩
theorem LD.at_ {d : NodeV} (l : LD d) (h : NB d) {f : Int} (h1 : 1 ≤ f) (h2 : f ≤ d.n) : (1 ≤ d.nx.getD f.toNat 0 ∧ d.nx.getD f.toNat 0 ≤ lasI d.L + 1) ∧ (0 ≤ d.mt.getD f.toNat 0 ∧ d.mt.getD f.toNat 0 ≤ lasI d.L) ∧ f.toNat < d.nx.length ∧ f.toNat < d.mt.length := by
 have a := l.nl;have b := l.ml
 exact ⟨l.nb _ (by omega) (by omega), l.mb _ (by omega) (by omega), by omega, by omega⟩
theorem appd_go {d0 : NodeV} {W : WkV} {m : MsgW} (h : FW d0 W.d) (l : Led W.d) (hf : 1 ≤ m.frm ∧ m.frm ≤ W.d.n) : FW d0 (appdW W m).d ∧ Led (appdW W m).d := by
 unfold appdW
 split
 ·exact ⟨h, l⟩
 ·rename_i c
  have hr : W.d.b.r = 3 := by
   rcases Decidable.em (W.d.b.r = 3) with h | h
   ·exact h
   ·exact absurd (.inl h) c
  have hm : m.mtch ≤ lasI W.d.L := by
   rw [← last_fst h.nb.L];exact Int.not_lt.1 (fun h => c (.inr (.inr h)))
  have hl := l.1 hr;obtain ⟨n1, n2, n3, n4⟩ := hl.at_ h.nb hf.1 hf.2;generalize hn0 : W.d.nx.getD m.frm.toNat 0 = n0 at *;generalize hm0 : W.d.mt.getD m.frm.toNat 0 = m0 at *
  split
  ·rw [send_d];refine ⟨rows_go h (mt := W.d.mt), fun _ => ⟨hl.ld, ?_, ?_, ?_, hl.ml, hl.m0, hl.mb⟩, fun hn => absurd hr hn⟩
   ·simp only [putN, List.length_set];exact hl.nl
   ·simp only [putN];rw [head_set (by omega)];exact hl.n0
   ·simp only [putN];exact set_all (p := fun x => 1 ≤ x ∧ x ≤ lasI W.d.L + 1) hl.nb (by omega)
  ·have f1 : FW d0 {W.d with mt := putN W.d.mt m.frm (max m0 m.mtch), nx := putN W.d.nx m.frm (max n0 (max m0 m.mtch + 1))} := rows_go h;have f2 : LD {W.d with mt := putN W.d.mt m.frm (max m0 m.mtch), nx := putN W.d.nx m.frm (max n0 (max m0 m.mtch + 1))} := by
    refine ⟨hl.ld, ?_, ?_, ?_, ?_, ?_, ?_⟩
    ·simp only [putN, List.length_set];exact hl.nl
    ·simp only [putN];rw [head_set (by omega)];exact hl.n0
    ·simp only [putN];exact set_all (p := fun x => 1 ≤ x ∧ x ≤ lasI W.d.L + 1) hl.nb (by omega)
    ·simp only [putN, List.length_set];exact hl.ml
    ·simp only [putN];rw [head_set (by omega)];exact hl.m0
    ·simp only [putN];exact set_all (p := fun x => 0 ≤ x ∧ x ≤ lasI W.d.L) hl.mb (by omega)
   obtain ⟨g1, g2⟩ := adv_led f1 f2 hr
   simp only
   split
   ·rw [send_d]
    exact ⟨g1, fun _ => g2, fun hn => absurd hr hn⟩
   ·exact ⟨g1, fun _ => g2, fun hn => absurd hr hn⟩
theorem mess_go {d0 : NodeV} {W : WkV} {m : MsgW} (h : FW d0 W.d) (l : Led W.d) (h0 : (messW W m).2 = 0) : FW d0 (messW W m).1.d ∧ Led (messW W m).1.d := by
 unfold messW at h0 ⊢
 split at h0
 ·simp at h0
 ·rename_i c
  rw [if_neg c];have hs : sentB m = true := by
   cases hh : sentB m
   ·exact absurd (.inl hh) c
   ·rfl
  have hf : m.frm ≤ W.d.n := Int.not_lt.1 (fun h => c (.inr (.inr h)));obtain ⟨s1, s2, s3, s4, s5, s6, s7, s8⟩ := sent_in hs;obtain ⟨g1, g2, g3⟩ := hear_go h l s4;have hf2 : m.frm ≤ (hearW W m.term).d.n := by
   rw [g1.n, ← h.n];exact hf
  generalize hearW W m.term = V at *
  split at h0
  ·rename_i k1
   rw [if_pos k1];exact poll_go g1 g2 hs k1 g3
  ·rename_i k1
   rw [if_neg k1]
   split at h0
   ·rename_i k2
    rw [if_pos k2];exact gran_go g1 g2 hs hf2 g3 h0
   ·rename_i k2
    rw [if_neg k2]
    split at h0
    ·rename_i k4
     rw [if_pos k4];exact appd_go g1 g2 ⟨s1.1, hf2⟩
    ·rename_i k4
     rw [if_neg k4];exact led_go g1 g2 hs hf2 (by omega)
theorem ev_go {d0 : NodeV} {W : WkV} {e : EvV} (h : FW d0 W.d) (l : Led W.d) (h0 : (evW W e).2 = 0) : FW d0 (evW W e).1.d ∧ Led (evW W e).1.d := by
 unfold evW at h0 ⊢
 split at h0
 ·rename_i k1
  rw [if_pos k1];exact time_go h l h0
 ·rename_i k1
  rw [if_neg k1]
  split at h0
  ·rename_i k2
   rw [if_pos k2];exact prop_go h l h0
  ·rename_i k2
   rw [if_neg k2]
   split at h0
   ·rename_i k3
    rw [if_pos k3];exact mess_go h l h0
   ·rename_i k3
    rw [if_neg k3];exact save_go h l h0
def Inv (d : NodeV) : Prop := nodeB d = true ∧ (d.b.r = 2 → 2 * (d.b.l.length : Int) ≤ d.n)
theorem Inv.fw {d : NodeV} (h : Inv d) : FW d d ∧ Led d := by
 obtain ⟨h1, h2, h3⟩ := (nodeB_iff d).1 h.1
 exact ⟨⟨rfl, rfl, h1, LogF.refl h1.L, VoteF.refl _, h2, h.2⟩, h3⟩
theorem step_go {d : NodeV} {e : EvV} (h : Inv d) (h0 : (stepN d e).2 = 0) : FW d (stepN d e).1.d ∧ Inv (stepN d e).1.d := by
 have hf := h.fw;have key : FW d (stepN d e).1.d ∧ Led (stepN d e).1.d := by
  unfold stepN at h0 ⊢;rw [h.1, if_neg (by simp)] at h0 ⊢
  split at h0
  ·simp at h0
  ·rename_i c
   rw [if_neg c]
   split at h0
   ·rename_i c2
    exact absurd h0 c2
   ·rename_i c2
    rw [if_neg c2];have := ev_go (W := ⟨d, [], [], 0, false⟩) (e := e) hf.1 hf.2 (Decidable.not_not.1 c2);simp only [hardW]
    split
    ·exact this
    ·exact this
 refine ⟨key.1, (nodeB_iff _).2 ⟨key.1.nb, key.1.bl, key.2⟩, key.1.b2⟩
theorem start_go {me n t v si st : Int} {tx : ByteArray} {l : List EntV} (h : (startN me n t v si st tx l).2 = 0) : Inv (startN me n t v si st tx l).1 ∧ (startN me n t v si st tx l).1 = ⟨me, n, ⟨t, v, 1, []⟩, 0, ⟨si, st, l, si⟩, tx, [], []⟩ := by
 unfold startN at h ⊢
 split at h
 ·rename_i c
  rw [if_pos c]
  exact ⟨⟨c, fun h => by simp at h⟩, rfl⟩
 ·simp at h
def msgZ : MsgW := ⟨0, 0, 0, 0, 0, 0, [], 0, false, 0, 0, 0, noT⟩
def txA : ByteArray := ⟨#[97]⟩
def lvD : NodeV := ⟨1, 1, ⟨0, 0, 1, []⟩, 0, ⟨0, 0, [], 0⟩, noT, [], []⟩
def lvT : EvV := ⟨1, 0, noT, msgZ⟩
def lvQ : EvV := ⟨2, 0, txA, msgZ⟩
theorem lv_start : startN 1 1 0 0 0 0 noT [] = (lvD, 0) := by kernel_rfl
theorem lv_t : (stepN lvD lvT).2 = 0 ∧ (stepN lvD lvT).1.rs.length = 2 ∧ (stepN lvD lvT).1.wt = true := ⟨by kernel_rfl, by kernel_rfl, by kernel_rfl⟩
theorem lv_q : (stepN (stepN lvD lvT).1.d lvQ).2 = 0 ∧ (stepN (stepN lvD lvT).1.d lvQ).1.d.b.r = 3 ∧ (stepN (stepN lvD lvT).1.d lvQ).1.ix = 2 ∧ (stepN (stepN lvD lvT).1.d lvQ).1.d.L.cm = 2 ∧ (stepN (stepN lvD lvT).1.d lvQ).1.d.L.l.length = 2 ∧ ((stepN (stepN lvD lvT).1.d lvQ).1.d.L.l.getD 1 noE).text = txA := ⟨by kernel_rfl, by kernel_rfl, by kernel_rfl, by kernel_rfl, by kernel_rfl, by kernel_rfl⟩
theorem lv_inv : Inv lvD := by
 have h := start_go (me := 1) (n := 1) (t := 0) (v := 0) (si := 0) (st := 0) (tx := noT) (l := []) (by rw [lv_start]);rw [lv_start] at h;exact h.1
end Go.Proofs.YtcaehfkfohianaaGreat
namespace Go.Proofs.YtcaehfkfohianaaGreat
open Go.Shelf
def lays113_ren : Go.Shelf.Ren := ⟨fun | 113 => 128 | n => n, fun | 28 => 32 | 3 => 3 | 4 => 4 | 9 => 9 | 20 => 20 | 0 => 0 | n => n, fun | n => n⟩
theorem lays113 : Go.Proofs.Lays.n113 Tryz.prog lays113_ren := {
 mixed := by kernel_rfl
 f113 := Tryz.func128.trans (congrArg some (by kernel_rfl))
 t0 := Tryz.underlying0
 a0 := Tryz.isAgg0
 z0 := Tryz.sizeOf0
 v0 := Tryz.zeroValue0
 t3 := Tryz.underlying3
 a3 := Tryz.isAgg3
 z3 := Tryz.sizeOf3
 v3 := Tryz.zeroValue3
 t4 := Tryz.underlying4
 a4 := Tryz.isAgg4
 z4 := Tryz.sizeOf4
 v4 := Tryz.zeroValue4
 t9 := Tryz.underlying9
 a9 := Tryz.isAgg9
 z9 := Tryz.sizeOf9
 v9 := Tryz.zeroValue9
 t20 := Tryz.underlying20
 a20 := Tryz.isAgg20
 z20 := Tryz.sizeOf20
 v20 := Tryz.zeroValue20
 t28 := Tryz.underlying32
 a28 := Tryz.isAgg32
 z28 := Tryz.sizeOf32
 v28 := Tryz.zeroValue32 }
open Go.Lib in
theorem slices_Max_int (b off n c : Nat) (zs : List Int) (w : World) (hn : 0 < n) (hz : n ≤ zs.length) (hbig : n ≤ 9223372036854775807) (hc : ∀ j, j < zs.length → w.cell? ⟨b, off + j, none⟩ = some (.int .i64 (zs.getD j 0))) :
  Calls Tryz.prog 128 #[.slice (some ⟨b, off, none⟩) n c] w fun e w' => e = .returned (.int .i64 (Lib.maxOf (zs.take n))) ∧ w' = w := Any.slices_Max_int lays113 b off n c zs w hn hz hbig hc
end Go.Proofs.YtcaehfkfohianaaGreat
namespace Go.Proofs.YtcaehfkfohianaaGreat
open Go.RowKit
set_option maxHeartbeats 1000000 in
theorem rafWithin_is (x lo hi : Int) (w : World) : Calls Tryz.prog 45 #[.int .i64 x, .int .i64 lo, .int .i64 hi] w fun e w' => e = .returned (.bool (wiB x lo hi)) ∧ w' = w := by
 unfold wiB
 by_cases h : lo ≤ x
 ·go_enter Tryz.func45, Tryz.ntmps45
  go_wp2;go_ret
  exact ⟨by simp [h], rfl⟩
 ·go_enter Tryz.func45, Tryz.ntmps45
  go_wp2;go_ret
  exact ⟨by rw [decide_eq_false (by omega)]; rfl, rfl⟩
theorem hear_one (b : Tm.Bal) : (Tm.hear2L b 1).2 = if Tm.mayB b then 0 else 70 := by
 unfold Tm.hear2L;cases Tm.mayB b
 ·rfl
 ·rfl
set_option maxHeartbeats 4000000 in
theorem isBallot_is (b : Tm.Bal) (g : Value) (w : World) (h : Tm.GotAt w g b.l) : Calls Tryz.prog 46 #[Tm.balV b g] w fun e w' => e = .returned (.bool (Tm.mayB b)) ∧ Below w.heap.size w w' := by
 have hb0 := below1 w (.cells #[.int .i64 b.t, .int .i64 b.v, .int .i64 b.r, g] 34);have HB0 := hideIt hb0;have HC := hideIt (Tm.hear_is b g 1 _ (h.keep hb0));have HO := hear_one b;obtain ⟨ga, gc, rfl⟩ : ∃ a c, g = .slice a b.l.length c := by
  obtain ⟨_, a, c, e, _⟩ := h
  exact ⟨a, c, e⟩
 clear h hb0;unfold Tm.BalErr at HC;generalize Tm.hear2L b 1 = Z at *;obtain ⟨ZB, ZE⟩ := Z;simp only at HO HC;unfold Tm.balV at *;cases hm : Tm.mayB b
 ·rw [hm] at HO;simp only [Bool.false_eq_true, if_false] at HO;subst HO
  go_enter Tryz.func46, Tryz.ntmps46
  go_wp2_with fail
  refine HC.out.mono ?_;rintro e w1 ⟨g', rfl, ho, hb⟩;dsimp only;obtain ⟨xa, xc, rfl⟩ := Tm.own_len ho;have HF := hideIt (below_via HB0.out (below_via hb (below1 w1 (.cells #[.int .i64 ZB.t, .int .i64 ZB.v, .int .i64 ZB.r, .slice xa ZB.l.length xc] 34))));clear ho hb;go_wp2;go_ret
  exact ⟨rfl, HF.out⟩
 ·rw [hm] at HO;simp only [if_true] at HO;subst HO
  go_enter Tryz.func46, Tryz.ntmps46
  go_wp2_with fail
  refine HC.out.mono ?_;rintro e w1 ⟨g', rfl, ho, hb⟩;dsimp only;obtain ⟨xa, xc, rfl⟩ := Tm.own_len ho;have HF := hideIt (below_via HB0.out (below_via hb (below1 w1 (.cells #[.int .i64 ZB.t, .int .i64 ZB.v, .int .i64 ZB.r, .slice xa ZB.l.length xc] 34))));clear ho hb;go_wp2;go_ret
  exact ⟨rfl, HF.out⟩
theorem str_empty (t : ByteArray) : t.toList.isEmpty = decide (t.size = 0) := by
 rw [Go.Lib.toList_data];cases t with
 | mk a =>
  show a.toList.isEmpty = decide (a.size = 0)
  cases h : a.toList with
  | nil => rw [decide_eq_true (by rw [← Array.length_toList, h]; rfl)]; rfl
  | cons x l => rw [decide_eq_false (by rw [← Array.length_toList, h]; simp)]; rfl
set_option maxHeartbeats 4000000 in
theorem isTextOf_is (t : ByteArray) (bi bt : Int) (w : World) (h8 : t.size ≤ 140737488355328) : Calls Tryz.prog 48 #[.string t, .agg #[.int .i64 bi, .int .i64 bt]] w fun e w' => e = .returned (.bool (textB t bi)) ∧ Below w.heap.size w w' := by
 have HB0 := hideIt (below1 w (.cells #[.int .i64 bi, .int .i64 bt] 25));have c0 : (w.alloc (.cells #[.int .i64 bi, .int .i64 bt] 25)).cell? ⟨w.heap.size, 0, none⟩ = some (.int .i64 bi) := by rw [Tm.cell_at (heap_alloc_new w _)]; rfl
 unfold textB
 by_cases h1 : t.size ≤ 50000
 ·have h1I : (t.size : Int) ≤ 50000 := by omega
  by_cases h2 : 0 < bi
  ·go_enter Tryz.func48, Tryz.ntmps48
   go_wp2;go_ret
   exact ⟨by simp [h1, h2], HB0.out⟩
  ·have h2I : bi ≤ 0 := by omega
   by_cases h3 : t.size = 0
   ·have ht : t.toList.isEmpty = true := by rw [str_empty, decide_eq_true h3]
    go_enter Tryz.func48, Tryz.ntmps48
    go_wp2;go_ret
    exact ⟨by simp [h1, h2, h3], HB0.out⟩
   ·have ht : t.toList.isEmpty = false := by rw [str_empty, decide_eq_false h3]
    go_enter Tryz.func48, Tryz.ntmps48
    go_wp2;go_ret
    exact ⟨by simp [h1, h2, h3], HB0.out⟩
 ·have h1I : ¬ (t.size : Int) ≤ 50000 := by omega
  go_enter Tryz.func48, Tryz.ntmps48
  go_wp2;go_ret
  exact ⟨by simp [h1], HB0.out⟩
theorem GotAt.open {w : World} {v : Value} {l : List Int} (h : Tm.GotAt w v l) : ∃ a c, v = .slice a l.length c := by
 obtain ⟨_, a, c, e, _⟩ := h
 exact ⟨a, c, e⟩
structure IGot (w : World) (v : Value) (m : List Int) : Prop where
 got : Tm.GotAt w v m
 cap : ∃ a c, v = .slice a m.length c ∧ m.length ≤ c ∧ c ≤ maxLen
theorem IGot.keep {w w' : World} {v : Value} {m : List Int} (h : IGot w v m) (hb : Below w.heap.size w w') : IGot w' v m := ⟨h.got.keep hb, h.cap⟩
set_option maxRecDepth 100000 in
set_option maxHeartbeats 1000000 in
theorem areOfNodes_is (v : Value) (l : List Int) (n lo hi : Int) (w : World) (hG : IGot w v l) (hn : 1 ≤ n ∧ n ≤ 7) : Calls Tryz.prog 83 #[v, .int .i64 n, .int .i64 lo, .int .i64 hi] w fun e w' => e = .returned (.bool (ofNodes l n lo hi)) ∧ w' = w := by
 have hw : IntKind.i64.wrap (n + 1) = n + 1 := by rw [IntKind.wrap_i64]; omega
 obtain ⟨n1, n2⟩ := hn;have h := hG.got;obtain ⟨xa, xc, rfl, hxc, hxm⟩ := hG.cap;unfold ofNodes
 by_cases hl : (l.length : Int) = n + 1
 ·have hlb : ((l.length : Int) != n + 1) = false := by rw [hl]; simp
  have h8 : 2 ≤ l.length ∧ l.length ≤ 8 := by omega
  rcases h.parts with ⟨rfl, _⟩ | ⟨b, off, c, hev, hb, hc8, hc1, hc⟩
  ·simp at h8
  ·simp only [Value.slice.injEq] at hev;obtain ⟨rfl, -, rfl⟩ := hev;have hc0 := hc 0 (by omega);rw [Nat.add_zero] at hc0;have hmn := hideIt (slices_Min_int b (off + 1) (l.length - 1) (xc - 1) (l.drop 1) w (by omega) (by rw [List.length_drop]; omega) (by omega) (fun j hj => by
    rw [List.length_drop] at hj;have := hc (1 + j) (by omega);rw [show off + 1 + j = off + (1 + j) by omega, this]
    simp [List.getD_eq_getElem?_getD, List.getElem?_drop, Nat.add_comm]))
   have hmx := hideIt (slices_Max_int b off l.length xc l w (by omega) (Nat.le_refl _) (by omega) (fun j hj => hc j hj));rw [List.take_of_length_le (by rw [List.length_drop]; omega)] at hmn
   rw [List.take_of_length_le (Nat.le_refl _)] at hmx;have hhd : l.head? = some (l.getD 0 0) := by
    cases l with
    | nil => simp at h8
    | cons x k => rfl
   have HHD := hideIt hhd;generalize l.getD 0 0 = x at *;have hlI : (l.length : Int) ≤ 8 := by omega
   have hxI : (l.length : Int) ≤ (xc : Int) := by omega
   have h1c : ¬ (xc = 1) := by omega
   have h1I : (1 : Int) ≤ (l.length : Int) := by omega
   have h1J : (1 : Int) ≤ (xc : Int) := by omega
   have h10 : xc - 1 ≠ 0 := by omega
   have hl2 : (2 : Int) ≤ (l.length : Int) := by omega
   have HL := hideIt hl;clear hl hhd hc h hc8 hG;generalize Lib.minOf (l.drop 1) = mn at *;generalize Lib.maxOf l = mx at *
   by_cases hx : x = 0
   ·have HX := hideIt hx;have hxb : (x != 0) = false := by rw [hx]; rfl
    subst hx
    by_cases hmn2 : lo ≤ mn
    ·have HN := hideIt hmn2
     go_enter Tryz.func83, Tryz.ntmps83
     go_wp2_with fail
     refine hmn.out.mono ?_;rintro e w1 ⟨rfl, rfl⟩;dsimp only
     go_wp2_with fail
     refine hmx.out.mono ?_;rintro e w1 ⟨rfl, rfl⟩;dsimp only;go_wp2;go_ret
     exact ⟨by rw [HHD.out, decide_eq_true HL.out, decide_eq_true HN.out]; simp, rfl⟩
    ·have HN := hideIt hmn2
     go_enter Tryz.func83, Tryz.ntmps83
     go_wp2_with fail
     refine hmn.out.mono ?_;rintro e w1 ⟨rfl, rfl⟩;dsimp only;go_wp2;go_ret
     exact ⟨by rw [decide_eq_false (show ¬ lo ≤ mn by have := HN.out; omega)]; simp, rfl⟩
   ·have hxb : (x != 0) = true := bne_iff_ne.2 hx
    go_enter Tryz.func83, Tryz.ntmps83
    go_wp2;go_ret
    exact ⟨by rw [HHD.out]; simp [hx], rfl⟩
 ·have hlb : ((l.length : Int) != n + 1) = true := bne_iff_ne.2 hl;clear h hG
  go_enter Tryz.func83, Tryz.ntmps83
  go_wp2;go_ret
  exact ⟨by rw [decide_eq_false hl]; rfl, rfl⟩
def nodA (d : NodeV) (gb gl gn gm : Value) : Array Value := #[.int .i64 d.me, .int .i64 d.n, .int .i64 d.b.t, .int .i64 d.b.v, .int .i64 d.b.r, gb, .int .i64 d.ld, .int .i64 d.L.bi, .int .i64 d.L.bt, gl, .int .i64 d.L.cm, .string d.tx, gn, gm]
structure NodAt (w : World) (d : NodeV) (gb gl gn gm : Value) : Prop where
 b : Tm.GotAt w gb d.b.l
 l : EGot w gl d.L.l
 n : IGot w gn d.nx
 m : IGot w gm d.mt
 t : d.tx.size ≤ 140737488355328
theorem NodAt.keep {w w' : World} {d : NodeV} {gb gl gn gm : Value} (h : NodAt w d gb gl gn gm) (hb : Below w.heap.size w w') : NodAt w' d gb gl gn gm := ⟨h.b.keep hb, h.l.keep hb, h.n.keep hb, h.m.keep hb, h.t⟩
theorem at14 {w : World} {p : Nat} {ty : TypeId} {z0 z1 z2 z3 z4 z5 z6 z7 z8 z9 z10 z11 z12 z13 : Value} (h : w.heap[p]? = some (.cells #[z0, z1, z2, z3, z4, z5, z6, z7, z8, z9, z10, z11, z12, z13] ty (0, 0))) : (w.cell? ⟨p, 0, none⟩ = some z0 ∧ w.cell? ⟨p, 1, none⟩ = some z1 ∧ w.cell? ⟨p, 2, none⟩ = some z2 ∧ w.cell? ⟨p, 3, none⟩ = some z3 ∧ w.cell? ⟨p, 4, none⟩ = some z4 ∧ w.cell? ⟨p, 5, none⟩ = some z5 ∧ w.cell? ⟨p, 6, none⟩ = some z6 ∧ w.cell? ⟨p, 7, none⟩ = some z7 ∧ w.cell? ⟨p, 8, none⟩ = some z8 ∧ w.cell? ⟨p, 9, none⟩ = some z9 ∧ w.cell? ⟨p, 10, none⟩ = some z10 ∧ w.cell? ⟨p, 11, none⟩ = some z11 ∧ w.cell? ⟨p, 12, none⟩ = some z12 ∧ w.cell? ⟨p, 13, none⟩ = some z13) ∧ (∀ j, w.frozen? ⟨p, j, none⟩ = false) ∧ p < w.heap.size :=
 ⟨⟨by rw [Tm.cell_at h]; rfl, by rw [Tm.cell_at h]; rfl, by rw [Tm.cell_at h]; rfl, by rw [Tm.cell_at h]; rfl, by rw [Tm.cell_at h]; rfl, by rw [Tm.cell_at h]; rfl, by rw [Tm.cell_at h]; rfl, by rw [Tm.cell_at h]; rfl, by rw [Tm.cell_at h]; rfl, by rw [Tm.cell_at h]; rfl, by rw [Tm.cell_at h]; rfl, by rw [Tm.cell_at h]; rfl, by rw [Tm.cell_at h]; rfl, by rw [Tm.cell_at h]; rfl⟩, fun j => Tm.free_at h j, (Array.getElem?_eq_some_iff.1 h).1⟩
theorem blkK {w w' : World} {p : Nat} {o : Obj} (h : w.heap[p]? = some o) (hb : Below w.heap.size w w') : w'.heap[p]? = some o := (hb.block p (Array.getElem?_eq_some_iff.1 h).1).trans h
theorem lastL_in (L : LogV) : 0 ≤ (lastL L).1 ∧ (lastL L).1 ≤ 1000000 := by
 unfold lastL;cases hm : mayB L
 ·simp
 ·simp only [if_true];unfold mayB at hm;simp only [Bool.and_eq_true, decide_eq_true_eq] at hm;have h1 : 0 ≤ L.bi := by
   have h0 := hm.1.1.1.1;unfold mkB at h0;simp only [Bool.and_eq_true] at h0;have := of_decide_eq_true h0.1.1;omega
  have h2 := hm.1.2;have e : (lasM L).1 = lasI L := by
   unfold lasM markL
   split
   ·rename_i h
    exact h.symm
   ·rename_i h
    have hb : hasB L (lasI L) = true := by
     unfold hasB;refine decide_eq_true ?_;unfold lasI at h ⊢;omega
    rw [hb]
    rfl
  rw [e];unfold lasI at h2 ⊢;omega
theorem fldSpot (x y : Int) (W : World) : (Instr.field 25 (.agg #[.int .i64 x, .int .i64 y]) 0).run Tryz.prog W = .ok (.int .i64 x) W := by
 simp [Instr.field, run_underlying Tryz.underlying25, go_sem, asAgg]
set_option maxRecDepth 100000 in
set_option maxHeartbeats 4000000 in
theorem leads_is (d : NodeV) (gb gl gn gm : Value) (w : World) (h : NodAt w d gb gl gn gm) (hn : 1 ≤ d.n ∧ d.n ≤ 7) : Calls Tryz.prog 49 #[.agg (nodA d gb gl gn gm)] w fun e w' => e = .returned (.bool (leadB d)) ∧ Below w.heap.size w w' := by
 have hb0 := below1 w (.cells (nodA d gb gl gn gm) 38);have HB0 := hideIt hb0;have HX0 := hideIt (heap_alloc_new w (.cells (nodA d gb gl gn gm) 38));have HLS := hideIt (last_is d.L gl _ (h.l.keep hb0));have HLI := lastL_in d.L;have HN1 := hideIt (fun W (hW : Below w.heap.size w W) => areOfNodes_is gn d.nx d.n 1 ((lastL d.L).1 + 1) W (h.n.keep hW) hn);have HN2 := hideIt (fun W (hW : Below w.heap.size w W) => areOfNodes_is gm d.mt d.n 0 (lastL d.L).1 W (h.m.keep hW) hn);obtain ⟨na, nc, rfl, -, -⟩ := h.n.cap;obtain ⟨ma, mc, rfl, -, -⟩ := h.m.cap;obtain ⟨ba, bc, rfl⟩ := GotAt.open h.b;obtain ⟨la, lc, rfl⟩ : ∃ a c, gl = .slice a d.L.l.length c := by
  obtain ⟨_, a, c, e, _⟩ := h.l
  exact ⟨a, c, e⟩
 clear h hb0;have hE : leadB d = if d.b.r = 3 then decide (d.ld = d.me) && (ofNodes d.nx d.n 1 ((lastL d.L).1 + 1) && ofNodes d.mt d.n 0 (lastL d.L).1) else decide (d.nx.length = 0) && decide (d.mt.length = 0) := rfl
 generalize leadB d = B at *;generalize (lastL d.L).1 = last at *;generalize (lastL d.L).2 = lastT at *;have HE := hideIt hE;clear hE;have hw : IntKind.i64.wrap (last + 1) = last + 1 := by rw [IntKind.wrap_i64]; omega
 unfold nodA logV logA at *;obtain ⟨n1, n2⟩ := hn;have hix : IntKind.i64.wrap last = last := by rw [IntKind.wrap_i64]; omega
 go_enter Tryz.func49, Tryz.ntmps49
 go_upto_region 1 with fail
 generalize (World.alloc w _) = W0 at *;obtain ⟨⟨k0, k1, k2, k3, k4, k5, k6, k7, k8, k9, k10, k11, k12, k13⟩, kf, kz⟩ := at14 HX0.out
 by_cases hr : d.b.r = 3
 ·have hrb : (d.b.r != 3) = false := by rw [hr]; rfl
  go_upto_region 3 with fail
  have hE := HE.out;rw [if_pos hr] at hE;have HF := hideIt hE;clear hr hrb hE HE
  go_wp2_with fail
  refine HLS.out.mono ?_;rintro e w1 ⟨rfl, hb⟩;dsimp only;have HX1 := hideIt (blkK HX0.out hb);have HB1 := hideIt (below_via HB0.out hb);clear k0 k1 k2 k3 k4 k5 k6 k7 k8 k9 k10 k11 k12 k13 kf kz;clear HX0 HB0 HLS hb;obtain ⟨⟨k0, k1, k2, k3, k4, k5, k6, k7, k8, k9, k10, k11, k12, k13⟩, kf, kz⟩ := at14 HX1.out;have hm1 := HN1.out _ HB1.out;have hfs := fldSpot last lastT w1
  by_cases hld : d.ld = d.me
  ·have hlb : (d.ld == d.me) = true := beq_iff_eq.2 hld;cases hA : ofNodes d.nx d.n 1 (last + 1)
   ·rw [hA] at hm1 HF;have HM1 := hideIt hm1;clear hm1 HN1 HN2 hld
    go_wp2_with fail
    refine HM1.out.mono ?_;rintro e w2 ⟨rfl, rfl⟩;dsimp only;go_wp2;go_ret
    exact ⟨by rw [HF.out]; simp, HB1.out⟩
   ·rw [hA] at hm1 HF;have HM1 := hideIt hm1;have HM2 := hideIt (HN2.out _ HB1.out);clear hm1 HN1 HN2
    go_wp2_with fail
    refine HM1.out.mono ?_;rintro e w2 ⟨rfl, rfl⟩;dsimp only
    go_wp2_with fail
    refine HM2.out.mono ?_;rintro e w2 ⟨rfl, rfl⟩;dsimp only;go_wp2;go_ret
    exact ⟨by rw [HF.out, decide_eq_true hld]; simp, HB1.out⟩
  ·have hlb : (d.ld == d.me) = false := beq_eq_false_iff_ne.2 hld;have E1 : decide (d.ld = d.me) = false := decide_eq_false hld;clear hm1 HN1 HN2 hld;go_wp2;go_ret
   exact ⟨by rw [HF.out, E1]; simp, HB1.out⟩
 ·have hrb : (d.b.r != 3) = true := bne_iff_ne.2 hr;have hE := HE.out;rw [if_neg hr] at hE;have HF := hideIt hE;clear hr HLS HN1 HN2 HX0 hE HE;generalize d.nx.length = c1 at *;generalize d.mt.length = c2 at *
  by_cases h1 : c1 = 0
  ·subst h1
   by_cases h2 : c2 = 0
   ·subst h2;go_wp2;go_ret
    exact ⟨by rw [HF.out]; simp, HB0.out⟩
   ·have h2b : ((c2 : Int) == 0) = false := beq_eq_false_iff_ne.2 (by omega);have E2 : decide (c2 = 0) = false := decide_eq_false h2;clear h2;go_wp2;go_ret
    exact ⟨by rw [HF.out, E2]; simp, HB0.out⟩
  ·have h1b : ((c1 : Int) == 0) = false := beq_eq_false_iff_ne.2 (by omega);have E1 : decide (c1 = 0) = false := decide_eq_false h1;clear h1;go_wp2;go_ret
   exact ⟨by rw [HF.out, E1]; simp, HB0.out⟩
structure NodeOwn (B : Nat) (w : World) (d : NodeV) (gb gl gn gm : Value) : Prop where
 b : w.ownsRow B 3 1 gb d.b.l.length (d.b.l.map Tm.iv)
 l : w.ownsRow B 55 3 gl d.L.l.length (entC d.L.l)
 n : w.ownsRow B 3 1 gn d.nx.length (d.nx.map Tm.iv)
 m : w.ownsRow B 3 1 gm d.mt.length (d.mt.map Tm.iv)
def NodeBack (d : NodeV) (w : World) (e : Ending) (w' : World) : Prop := ∃ gb gl gn gm, e = .returned (.agg (nodA d gb gl gn gm)) ∧ NodeOwn w.heap.size w' d gb gl gn gm ∧ Below w.heap.size w w'
theorem NodeOwn.keep {B : Nat} {w w' : World} {d : NodeV} {gb gl gn gm : Value} (h : NodeOwn B w d gb gl gn gm) (hb : Below w.heap.size w w') : NodeOwn B w' d gb gl gn gm := ⟨own_keep h.b hb, own_keep h.l hb, own_keep h.n hb, own_keep h.m hb⟩
theorem NodeOwn.base {B B' : Nat} {w : World} {d : NodeV} {gb gl gn gm : Value} (h : NodeOwn B w d gb gl gn gm) (hb : B' ≤ B) : NodeOwn B' w d gb gl gn gm := ⟨own_base h.b hb, own_base h.l hb, own_base h.n hb, own_base h.m hb⟩
theorem from_all {L : LogV} (h : mayB L = true) : fromL L (L.bi + 1) 400 = L.l := by
 have h4 : L.l.length ≤ 400 := by
  unfold mayB at h;simp only [Bool.and_eq_true, decide_eq_true_eq] at h;exact h.1.1.1.2
 unfold fromL;rw [h];cases hl : L.l with
 | nil =>
  split
  ·simp
  ·rfl
 | cons a k =>
  have hb : hasB L (L.bi + 1) = true := by
   unfold hasB lasI;rw [hl];refine decide_eq_true ?_;simp only [List.length_cons];omega
  rw [hb];rw [hl] at h4;rw [show (L.bi + 1 - L.bi - 1).toNat = 0 by omega, List.drop_zero];simp only [Bool.true_and];rw [if_pos (by decide)];exact List.take_of_length_le h4
structure AnW (w W : World) (cs zs : Array Value) : Prop where
 box : W.heap[w.heap.size]? = some (.cells cs 38 (0, 0))
 res : W.heap[w.heap.size + 1]? = some (.cells zs 38 (0, 0))
 bel : Below w.heap.size w W
theorem AnW.first (w : World) (cs zs : Array Value) : AnW w ((w.alloc (.cells cs 38)).alloc (.cells zs 38)) cs zs := ⟨(two_heap w _ _).1, (two_heap w _ _).2.1, below2 w _ _⟩
theorem AnW.size {w W : World} {cs zs : Array Value} (h : AnW w W cs zs) : w.heap.size + 2 ≤ W.heap.size := (Array.getElem?_eq_some_iff.1 h.res).1
theorem AnW.call {w W W' : World} {cs zs : Array Value} (h : AnW w W cs zs) (hb : Below W.heap.size W W') : AnW w W' cs zs := ⟨blkK h.box hb, blkK h.res hb, below_via h.bel hb⟩
theorem AnW.put {w W : World} {cs zs : Array Value} (h : AnW w W cs zs) (j : Nat) (v : Value) : AnW w (W.setCell ⟨w.heap.size, j, none⟩ v) (cs.setIfInBounds j v) zs := ⟨heap_set h.box j v, setOther v h.res (by omega), belowSet v h.bel (Nat.le_refl _)⟩
theorem put14 {W : World} {b : Nat} {ty : TypeId} {z0 z1 z2 z3 z4 z5 z6 z7 z8 z9 z10 z11 z12 z13 : Value} (v0 v1 v2 v3 v4 v5 v6 v7 v8 v9 v10 v11 v12 v13 : Value) (h : W.heap[b]? = some (.cells #[z0, z1, z2, z3, z4, z5, z6, z7, z8, z9, z10, z11, z12, z13] ty (0, 0))) :
  ((((((((((((((W.setCell ⟨b, 0, none⟩ v0).setCell ⟨b, 1, none⟩ v1).setCell ⟨b, 2, none⟩ v2).setCell ⟨b, 3, none⟩ v3).setCell ⟨b, 4, none⟩ v4).setCell ⟨b, 5, none⟩ v5).setCell ⟨b, 6, none⟩ v6).setCell ⟨b, 7, none⟩ v7).setCell ⟨b, 8, none⟩ v8).setCell ⟨b, 9, none⟩ v9).setCell ⟨b, 10, none⟩ v10).setCell ⟨b, 11, none⟩ v11).setCell ⟨b, 12, none⟩ v12).setCell ⟨b, 13, none⟩ v13).heap[b]? = some (.cells #[v0, v1, v2, v3, v4, v5, v6, v7, v8, v9, v10, v11, v12, v13] ty (0, 0)) := by
 have h0 : (W.setCell ⟨b, 0, none⟩ v0).heap[b]? = some (.cells #[v0, z1, z2, z3, z4, z5, z6, z7, z8, z9, z10, z11, z12, z13] ty (0, 0)) := heap_set h 0 v0;have h1 : ((W.setCell ⟨b, 0, none⟩ v0).setCell ⟨b, 1, none⟩ v1).heap[b]? = some (.cells #[v0, v1, z2, z3, z4, z5, z6, z7, z8, z9, z10, z11, z12, z13] ty (0, 0)) := heap_set h0 1 v1;have h2 : (((W.setCell ⟨b, 0, none⟩ v0).setCell ⟨b, 1, none⟩ v1).setCell ⟨b, 2, none⟩ v2).heap[b]? = some (.cells #[v0, v1, v2, z3, z4, z5, z6, z7, z8, z9, z10, z11, z12, z13] ty (0, 0)) := heap_set h1 2 v2;have h3 : ((((W.setCell ⟨b, 0, none⟩ v0).setCell ⟨b, 1, none⟩ v1).setCell ⟨b, 2, none⟩ v2).setCell ⟨b, 3, none⟩ v3).heap[b]? = some (.cells #[v0, v1, v2, v3, z4, z5, z6, z7, z8, z9, z10, z11, z12, z13] ty (0, 0)) := heap_set h2 3 v3;have h4 : (((((W.setCell ⟨b, 0, none⟩ v0).setCell ⟨b, 1, none⟩ v1).setCell ⟨b, 2, none⟩ v2).setCell ⟨b, 3, none⟩ v3).setCell ⟨b, 4, none⟩ v4).heap[b]? = some (.cells #[v0, v1, v2, v3, v4, z5, z6, z7, z8, z9, z10, z11, z12, z13] ty (0, 0)) := heap_set h3 4 v4;have h5 : ((((((W.setCell ⟨b, 0, none⟩ v0).setCell ⟨b, 1, none⟩ v1).setCell ⟨b, 2, none⟩ v2).setCell ⟨b, 3, none⟩ v3).setCell ⟨b, 4, none⟩ v4).setCell ⟨b, 5, none⟩ v5).heap[b]? = some (.cells #[v0, v1, v2, v3, v4, v5, z6, z7, z8, z9, z10, z11, z12, z13] ty (0, 0)) := heap_set h4 5 v5;have h6 : (((((((W.setCell ⟨b, 0, none⟩ v0).setCell ⟨b, 1, none⟩ v1).setCell ⟨b, 2, none⟩ v2).setCell ⟨b, 3, none⟩ v3).setCell ⟨b, 4, none⟩ v4).setCell ⟨b, 5, none⟩ v5).setCell ⟨b, 6, none⟩ v6).heap[b]? = some (.cells #[v0, v1, v2, v3, v4, v5, v6, z7, z8, z9, z10, z11, z12, z13] ty (0, 0)) := heap_set h5 6 v6;have h7 : ((((((((W.setCell ⟨b, 0, none⟩ v0).setCell ⟨b, 1, none⟩ v1).setCell ⟨b, 2, none⟩ v2).setCell ⟨b, 3, none⟩ v3).setCell ⟨b, 4, none⟩ v4).setCell ⟨b, 5, none⟩ v5).setCell ⟨b, 6, none⟩ v6).setCell ⟨b, 7, none⟩ v7).heap[b]? = some (.cells #[v0, v1, v2, v3, v4, v5, v6, v7, z8, z9, z10, z11, z12, z13] ty (0, 0)) := heap_set h6 7 v7;have h8 : (((((((((W.setCell ⟨b, 0, none⟩ v0).setCell ⟨b, 1, none⟩ v1).setCell ⟨b, 2, none⟩ v2).setCell ⟨b, 3, none⟩ v3).setCell ⟨b, 4, none⟩ v4).setCell ⟨b, 5, none⟩ v5).setCell ⟨b, 6, none⟩ v6).setCell ⟨b, 7, none⟩ v7).setCell ⟨b, 8, none⟩ v8).heap[b]? = some (.cells #[v0, v1, v2, v3, v4, v5, v6, v7, v8, z9, z10, z11, z12, z13] ty (0, 0)) := heap_set h7 8 v8;have h9 : ((((((((((W.setCell ⟨b, 0, none⟩ v0).setCell ⟨b, 1, none⟩ v1).setCell ⟨b, 2, none⟩ v2).setCell ⟨b, 3, none⟩ v3).setCell ⟨b, 4, none⟩ v4).setCell ⟨b, 5, none⟩ v5).setCell ⟨b, 6, none⟩ v6).setCell ⟨b, 7, none⟩ v7).setCell ⟨b, 8, none⟩ v8).setCell ⟨b, 9, none⟩ v9).heap[b]? = some (.cells #[v0, v1, v2, v3, v4, v5, v6, v7, v8, v9, z10, z11, z12, z13] ty (0, 0)) := heap_set h8 9 v9;have h10 : (((((((((((W.setCell ⟨b, 0, none⟩ v0).setCell ⟨b, 1, none⟩ v1).setCell ⟨b, 2, none⟩ v2).setCell ⟨b, 3, none⟩ v3).setCell ⟨b, 4, none⟩ v4).setCell ⟨b, 5, none⟩ v5).setCell ⟨b, 6, none⟩ v6).setCell ⟨b, 7, none⟩ v7).setCell ⟨b, 8, none⟩ v8).setCell ⟨b, 9, none⟩ v9).setCell ⟨b, 10, none⟩ v10).heap[b]? = some (.cells #[v0, v1, v2, v3, v4, v5, v6, v7, v8, v9, v10, z11, z12, z13] ty (0, 0)) := heap_set h9 10 v10;have h11 : ((((((((((((W.setCell ⟨b, 0, none⟩ v0).setCell ⟨b, 1, none⟩ v1).setCell ⟨b, 2, none⟩ v2).setCell ⟨b, 3, none⟩ v3).setCell ⟨b, 4, none⟩ v4).setCell ⟨b, 5, none⟩ v5).setCell ⟨b, 6, none⟩ v6).setCell ⟨b, 7, none⟩ v7).setCell ⟨b, 8, none⟩ v8).setCell ⟨b, 9, none⟩ v9).setCell ⟨b, 10, none⟩ v10).setCell ⟨b, 11, none⟩ v11).heap[b]? = some (.cells #[v0, v1, v2, v3, v4, v5, v6, v7, v8, v9, v10, v11, z12, z13] ty (0, 0)) := heap_set h10 11 v11;have h12 : (((((((((((((W.setCell ⟨b, 0, none⟩ v0).setCell ⟨b, 1, none⟩ v1).setCell ⟨b, 2, none⟩ v2).setCell ⟨b, 3, none⟩ v3).setCell ⟨b, 4, none⟩ v4).setCell ⟨b, 5, none⟩ v5).setCell ⟨b, 6, none⟩ v6).setCell ⟨b, 7, none⟩ v7).setCell ⟨b, 8, none⟩ v8).setCell ⟨b, 9, none⟩ v9).setCell ⟨b, 10, none⟩ v10).setCell ⟨b, 11, none⟩ v11).setCell ⟨b, 12, none⟩ v12).heap[b]? = some (.cells #[v0, v1, v2, v3, v4, v5, v6, v7, v8, v9, v10, v11, v12, z13] ty (0, 0)) := heap_set h11 12 v12;exact heap_set h12 13 v13
theorem NodeOwn.set {B b j : Nat} {w : World} {d : NodeV} {gb gl gn gm : Value} (v : Value) (h : NodeOwn B w d gb gl gn gm) (hb : b < B) : NodeOwn B (w.setCell ⟨b, j, none⟩ v) d gb gl gn gm := ⟨ownSet v h.b hb, ownSet v h.l hb, ownSet v h.n hb, ownSet v h.m hb⟩
theorem nodeSet14 {B : Nat} {W : World} {d : NodeV} {gb gl gn gm : Value} (b : Nat) (v0 v1 v2 v3 v4 v5 v6 v7 v8 v9 v10 v11 v12 v13 : Value) (h : NodeOwn B W d gb gl gn gm) (hb : b < B) : NodeOwn B ((((((((((((((W.setCell ⟨b, 0, none⟩ (v0)).setCell ⟨b, 1, none⟩ (v1)).setCell ⟨b, 2, none⟩ (v2)).setCell ⟨b, 3, none⟩ (v3)).setCell ⟨b, 4, none⟩ (v4)).setCell ⟨b, 5, none⟩ (v5)).setCell ⟨b, 6, none⟩ (v6)).setCell ⟨b, 7, none⟩ (v7)).setCell ⟨b, 8, none⟩ (v8)).setCell ⟨b, 9, none⟩ (v9)).setCell ⟨b, 10, none⟩ (v10)).setCell ⟨b, 11, none⟩ (v11)).setCell ⟨b, 12, none⟩ (v12)).setCell ⟨b, 13, none⟩ (v13)) d gb gl gn gm := (NodeOwn.set v13 (NodeOwn.set v12 (NodeOwn.set v11 (NodeOwn.set v10 (NodeOwn.set v9 (NodeOwn.set v8 (NodeOwn.set v7 (NodeOwn.set v6 (NodeOwn.set v5 (NodeOwn.set v4 (NodeOwn.set v3 (NodeOwn.set v2 (NodeOwn.set v1 (NodeOwn.set v0 h hb) hb) hb) hb) hb) hb) hb) hb) hb) hb) hb) hb) hb) hb)
theorem belowSet14 {B : Nat} {W0 W : World} (b : Nat) (v0 v1 v2 v3 v4 v5 v6 v7 v8 v9 v10 v11 v12 v13 : Value) (h : Below B W0 W) (hb : B ≤ b) : Below B W0 ((((((((((((((W.setCell ⟨b, 0, none⟩ (v0)).setCell ⟨b, 1, none⟩ (v1)).setCell ⟨b, 2, none⟩ (v2)).setCell ⟨b, 3, none⟩ (v3)).setCell ⟨b, 4, none⟩ (v4)).setCell ⟨b, 5, none⟩ (v5)).setCell ⟨b, 6, none⟩ (v6)).setCell ⟨b, 7, none⟩ (v7)).setCell ⟨b, 8, none⟩ (v8)).setCell ⟨b, 9, none⟩ (v9)).setCell ⟨b, 10, none⟩ (v10)).setCell ⟨b, 11, none⟩ (v11)).setCell ⟨b, 12, none⟩ (v12)).setCell ⟨b, 13, none⟩ (v13)) := (belowSet v13 (belowSet v12 (belowSet v11 (belowSet v10 (belowSet v9 (belowSet v8 (belowSet v7 (belowSet v6 (belowSet v5 (belowSet v4 (belowSet v3 (belowSet v2 (belowSet v1 (belowSet v0 h hb) hb) hb) hb) hb) hb) hb) hb) hb) hb) hb) hb) hb) hb)
def zN : Array Value := #[.int .i64 0, .int .i64 0, .int .i64 0, .int .i64 0, .int .i64 0, .slice none 0 0, .int .i64 0, .int .i64 0, .int .i64 0, .slice none 0 0, .int .i64 0, .string ⟨#[]⟩, .slice none 0 0, .slice none 0 0]
set_option maxRecDepth 100000 in
set_option maxHeartbeats 8000000 in
theorem anewN_is (d : NodeV) (gb gl gn gm : Value) (w : World) (h : NodAt w d gb gl gn gm) (hm : mayB d.L = true) (ht : d.tx.size ≤ 60000) : Calls Tryz.prog 27 #[.agg (nodA d gb gl gn gm)] w (NodeBack d w) := by
 have hF := from_all hm;have hbi : 0 ≤ d.L.bi ∧ d.L.bi ≤ 1000000 := by
  unfold mayB at hm;simp only [Bool.and_eq_true, decide_eq_true_eq] at hm;have h0 := hm.1.1.1.1;have h2 := hm.1.2;unfold mkB at h0;unfold lasI at h2;simp only [Bool.and_eq_true] at h0;have := of_decide_eq_true h0.1.1;omega
 have H1 := hideIt (fun W (hW : Below w.heap.size w W) => Tm.clone_any gb d.b.l W (h.b.keep hW));have H2 := hideIt (fun W (hW : Below w.heap.size w W) => from_is d.L gl (d.L.bi + 1) 400 W (h.l.keep hW) (by unfold i64B; omega))
 have H3 := hideIt (fun W => clone_any d.tx W ht);have H4 := hideIt (fun W (hW : Below w.heap.size w W) => Tm.clone_any gn d.nx W (h.n.got.keep hW));have H5 := hideIt (fun W (hW : Below w.heap.size w W) => Tm.clone_any gm d.mt W (h.m.got.keep hW));rw [hF] at H2;have hwr : IntKind.i64.wrap (d.L.bi + 1) = d.L.bi + 1 := by rw [IntKind.wrap_i64]; omega
 obtain ⟨na, nc, rfl, -, -⟩ := h.n.cap;obtain ⟨ma, mc, rfl, -, -⟩ := h.m.cap;obtain ⟨ba, bc, rfl⟩ := GotAt.open h.b;obtain ⟨la, lc, rfl⟩ : ∃ a c, gl = .slice a d.L.l.length c := by
  obtain ⟨_, a, c, e, _⟩ := h.l
  exact ⟨a, c, e⟩
 clear h hm hF ht hbi;unfold logV logA at H2;have I0 := hideIt (AnW.first w (nodA d (.slice ba d.b.l.length bc) (.slice la d.L.l.length lc) (.slice na d.nx.length nc) (.slice ma d.mt.length mc)) zN);unfold NodeBack;unfold nodA zN at I0
 go_enter Tryz.func27, Tryz.ntmps27
 unfold nodA
 go_upto_region 1 with fail
 generalize (World.alloc (World.alloc w _) _) = W0 at *;have HC1 := hideIt (H1.out W0 I0.out.bel);obtain ⟨⟨k0, k1, k2, k3, k4, k5, k6, k7, k8, k9, k10, k11, k12, k13⟩, kf, kz⟩ := at14 I0.out.box
 go_wp2_with fail
 refine HC1.out.mono ?_;rintro e w1 ⟨g, rfl, ho, hb⟩;dsimp only;clear k0 k1 k2 k3 k4 k5 k6 k7 k8 k9 k10 k11 k12 k13 kf kz;have J1 := hideIt (I0.out.call hb);obtain ⟨a1, c1, rfl⟩ := Tm.own_len ho;have O1 := hideIt (ownSet (b := w.heap.size) (j := 5) (.slice a1 d.b.l.length c1) (own_base ho I0.out.size) (by omega));obtain ⟨⟨k0, k1, k2, k3, k4, k5, k6, k7, k8, k9, k10, k11, k12, k13⟩, kf, kz⟩ := at14 J1.out.box;have I1 : Hid (AnW w (w1.setCell ⟨w.heap.size, 5, none⟩ (.slice a1 d.b.l.length c1)) (nodA d (.slice a1 d.b.l.length c1) (.slice la d.L.l.length lc) (.slice na d.nx.length nc) (.slice ma d.mt.length mc)) zN) := hideIt (J1.out.put 5 (.slice a1 d.b.l.length c1));clear ho hb HC1 H1 I0 J1;unfold nodA zN at I1
 go_upto_region 2 with fail
 generalize (World.setCell w1 _ _) = W1 at *;clear k0 k1 k2 k3 k4 k5 k6 k7 k8 k9 k10 k11 k12 k13 kf kz;have HC2 := hideIt (H2.out W1 I1.out.bel);obtain ⟨⟨k0, k1, k2, k3, k4, k5, k6, k7, k8, k9, k10, k11, k12, k13⟩, kf, kz⟩ := at14 I1.out.box
 go_wp2_with fail
 refine HC2.out.mono ?_;rintro e w2 ⟨g, rfl, ho, hb⟩;dsimp only;clear k0 k1 k2 k3 k4 k5 k6 k7 k8 k9 k10 k11 k12 k13 kf kz;have J2 := hideIt (I1.out.call hb);obtain ⟨a2, c2, rfl⟩ := own_len ho;have O2 := hideIt (ownSet (b := w.heap.size) (j := 9) (.slice a2 d.L.l.length c2) (own_base ho I1.out.size) (by omega));have O1' := hideIt (ownSet (b := w.heap.size) (j := 9) (.slice a2 d.L.l.length c2) (own_keep O1.out hb) (by omega));clear O1;have O1 := O1';clear O1';obtain ⟨⟨k0, k1, k2, k3, k4, k5, k6, k7, k8, k9, k10, k11, k12, k13⟩, kf, kz⟩ := at14 J2.out.box;have I2 : Hid (AnW w (w2.setCell ⟨w.heap.size, 9, none⟩ (.slice a2 d.L.l.length c2)) (nodA d (.slice a1 d.b.l.length c1) (.slice a2 d.L.l.length c2) (.slice na d.nx.length nc) (.slice ma d.mt.length mc)) zN) := hideIt (J2.out.put 9 (.slice a2 d.L.l.length c2));clear ho hb HC2 H2 I1 J2;unfold nodA zN at I2
 go_upto_region 3 with fail
 generalize (World.setCell w2 _ _) = W2 at *;clear k0 k1 k2 k3 k4 k5 k6 k7 k8 k9 k10 k11 k12 k13 kf kz;have HC3 := hideIt (H3.out W2);obtain ⟨⟨k0, k1, k2, k3, k4, k5, k6, k7, k8, k9, k10, k11, k12, k13⟩, kf, kz⟩ := at14 I2.out.box
 go_wp2_with fail
 refine HC3.out.mono ?_;rintro e w3 ⟨rfl, hb⟩;dsimp only;clear k0 k1 k2 k3 k4 k5 k6 k7 k8 k9 k10 k11 k12 k13 kf kz;have J3 := hideIt (I2.out.call hb);have O1' := hideIt (ownSet (b := w.heap.size) (j := 11) (.string d.tx) (own_keep O1.out hb) (by omega));clear O1;have O1 := O1';clear O1';have O2' := hideIt (ownSet (b := w.heap.size) (j := 11) (.string d.tx) (own_keep O2.out hb) (by omega));clear O2;have O2 := O2';clear O2';obtain ⟨⟨k0, k1, k2, k3, k4, k5, k6, k7, k8, k9, k10, k11, k12, k13⟩, kf, kz⟩ := at14 J3.out.box;have I3 : Hid (AnW w (w3.setCell ⟨w.heap.size, 11, none⟩ (.string d.tx)) (nodA d (.slice a1 d.b.l.length c1) (.slice a2 d.L.l.length c2) (.slice na d.nx.length nc) (.slice ma d.mt.length mc)) zN) := hideIt (J3.out.put 11 (.string d.tx));clear hb HC3 H3 I2 J3;unfold nodA zN at I3
 go_upto_region 4 with fail
 generalize (World.setCell w3 _ _) = W3 at *;clear k0 k1 k2 k3 k4 k5 k6 k7 k8 k9 k10 k11 k12 k13 kf kz;have HC4 := hideIt (H4.out W3 I3.out.bel);obtain ⟨⟨k0, k1, k2, k3, k4, k5, k6, k7, k8, k9, k10, k11, k12, k13⟩, kf, kz⟩ := at14 I3.out.box
 go_wp2_with fail
 refine HC4.out.mono ?_;rintro e w4 ⟨g, rfl, ho, hb⟩;dsimp only;clear k0 k1 k2 k3 k4 k5 k6 k7 k8 k9 k10 k11 k12 k13 kf kz;have J4 := hideIt (I3.out.call hb);obtain ⟨a4, c4, rfl⟩ := Tm.own_len ho;have O4 := hideIt (ownSet (b := w.heap.size) (j := 12) (.slice a4 d.nx.length c4) (own_base ho I3.out.size) (by omega));have O1' := hideIt (ownSet (b := w.heap.size) (j := 12) (.slice a4 d.nx.length c4) (own_keep O1.out hb) (by omega));clear O1;have O1 := O1';clear O1';have O2' := hideIt (ownSet (b := w.heap.size) (j := 12) (.slice a4 d.nx.length c4) (own_keep O2.out hb) (by omega));clear O2;have O2 := O2';clear O2';obtain ⟨⟨k0, k1, k2, k3, k4, k5, k6, k7, k8, k9, k10, k11, k12, k13⟩, kf, kz⟩ := at14 J4.out.box;have I4 : Hid (AnW w (w4.setCell ⟨w.heap.size, 12, none⟩ (.slice a4 d.nx.length c4)) (nodA d (.slice a1 d.b.l.length c1) (.slice a2 d.L.l.length c2) (.slice a4 d.nx.length c4) (.slice ma d.mt.length mc)) zN) := hideIt (J4.out.put 12 (.slice a4 d.nx.length c4));clear ho hb HC4 H4 I3 J4;unfold nodA zN at I4
 go_upto_region 5 with fail
 generalize (World.setCell w4 _ _) = W4 at *;clear k0 k1 k2 k3 k4 k5 k6 k7 k8 k9 k10 k11 k12 k13 kf kz;have HC5 := hideIt (H5.out W4 I4.out.bel);obtain ⟨⟨k0, k1, k2, k3, k4, k5, k6, k7, k8, k9, k10, k11, k12, k13⟩, kf, kz⟩ := at14 I4.out.box
 go_wp2_with fail
 refine HC5.out.mono ?_;rintro e w5 ⟨g, rfl, ho, hb⟩;dsimp only;clear k0 k1 k2 k3 k4 k5 k6 k7 k8 k9 k10 k11 k12 k13 kf kz;have J5 := hideIt (I4.out.call hb);obtain ⟨a5, c5, rfl⟩ := Tm.own_len ho;have O5 := hideIt (ownSet (b := w.heap.size) (j := 13) (.slice a5 d.mt.length c5) (own_base ho I4.out.size) (by omega));have O1' := hideIt (ownSet (b := w.heap.size) (j := 13) (.slice a5 d.mt.length c5) (own_keep O1.out hb) (by omega));clear O1;have O1 := O1';clear O1';have O2' := hideIt (ownSet (b := w.heap.size) (j := 13) (.slice a5 d.mt.length c5) (own_keep O2.out hb) (by omega));clear O2;have O2 := O2';clear O2';have O4' := hideIt (ownSet (b := w.heap.size) (j := 13) (.slice a5 d.mt.length c5) (own_keep O4.out hb) (by omega));clear O4;have O4 := O4';clear O4';obtain ⟨⟨k0, k1, k2, k3, k4, k5, k6, k7, k8, k9, k10, k11, k12, k13⟩, kf, kz⟩ := at14 J5.out.box;have I5 : Hid (AnW w (w5.setCell ⟨w.heap.size, 13, none⟩ (.slice a5 d.mt.length c5)) (nodA d (.slice a1 d.b.l.length c1) (.slice a2 d.L.l.length c2) (.slice a4 d.nx.length c4) (.slice a5 d.mt.length c5)) zN) := hideIt (J5.out.put 13 (.slice a5 d.mt.length c5));clear ho hb HC5 H5 I4 J5;unfold nodA zN at I5
 go_upto_region 6 with fail
 generalize (World.setCell w5 _ _) = W5 at *;clear k0 k1 k2 k3 k4 k5 k6 k7 k8 k9 k10 k11 k12 k13 kf kz;obtain ⟨⟨k0, k1, k2, k3, k4, k5, k6, k7, k8, k9, k10, k11, k12, k13⟩, kf, kz⟩ := at14 I5.out.box;obtain ⟨⟨d0, d1, d2, d3, d4, d5, d6, d7, d8, d9, d10, d11, d12, d13⟩, df, dz⟩ := at14 I5.out.res;have F1 := hideIt (put14 (.int .i64 d.me) (.int .i64 d.n) (.int .i64 d.b.t) (.int .i64 d.b.v) (.int .i64 d.b.r) (.slice a1 d.b.l.length c1) (.int .i64 d.ld) (.int .i64 d.L.bi) (.int .i64 d.L.bt) (.slice a2 d.L.l.length c2) (.int .i64 d.L.cm) (.string d.tx) (.slice a4 d.nx.length c4) (.slice a5 d.mt.length c5) I5.out.res);have F2 := hideIt (nodeSet14 (d := d) (w.heap.size + 1) (.int .i64 d.me) (.int .i64 d.n) (.int .i64 d.b.t) (.int .i64 d.b.v) (.int .i64 d.b.r) (.slice a1 d.b.l.length c1) (.int .i64 d.ld) (.int .i64 d.L.bi) (.int .i64 d.L.bt) (.slice a2 d.L.l.length c2) (.int .i64 d.L.cm) (.string d.tx) (.slice a4 d.nx.length c4) (.slice a5 d.mt.length c5) ⟨O1.out, O2.out, O4.out, O5.out⟩ (by omega));have F3 := hideIt (belowSet14 (w.heap.size + 1) (.int .i64 d.me) (.int .i64 d.n) (.int .i64 d.b.t) (.int .i64 d.b.v) (.int .i64 d.b.r) (.slice a1 d.b.l.length c1) (.int .i64 d.ld) (.int .i64 d.L.bi) (.int .i64 d.L.bt) (.slice a2 d.L.l.length c2) (.int .i64 d.L.cm) (.string d.tx) (.slice a4 d.nx.length c4) (.slice a5 d.mt.length c5) I5.out.bel (by omega));clear I5 O1 O2 O4 O5;go_wp2;have f1 := F1.out;have f2 := F2.out;have f3 := F3.out;clear F1 F2 F3
 revert f1 f2 f3
 generalize (World.setCell _ ⟨w.heap.size + 1, 13, none⟩ _) = W;intro e1 e2 e3;exact bodyPost_ret (v := .agg (nodA d (.slice a1 d.b.l.length c1) (.slice a2 d.L.l.length c2) (.slice a4 d.nx.length c4) (.slice a5 d.mt.length c5))) (by simp [results, Tryz.results27, go_sem, Tm.cell_at e1, nodA]) rfl ⟨_, _, _, _, rfl, e2.base (by omega), e3⟩
end Go.Proofs.YtcaehfkfohianaaGreat
