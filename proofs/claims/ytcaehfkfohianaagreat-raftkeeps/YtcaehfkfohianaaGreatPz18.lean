/- Texts of my own, laid together. -/
import Derived.Test.YtcaehfkfohianaaGreatZq
import Derived.Test.YtcaehfkfohianaaGreatPz17
import Derived.Test.YtcaehfkfohianaaGreatPz16
import Derived.BigRegion
import Derived.Test.YtcaehfkfohianaaGreatPz15
set_option linter.all false
namespace Go.Proofs.YtcaehfkfohianaaGreat
open Go.RowKit
theorem sameN_refl : ∀ l : List EntV, sameN l l = l.length
 | [] => rfl
 | a :: l => by
  have h : eqE a a = true := by simp [eqE]
  unfold sameN;rw [h, if_pos rfl, sameN_refl l]
  rfl
theorem hear_same {W : WkV} (hm : Tm.mayB W.d.b = true) {t : Int} (h1 : 1 ≤ t ∧ t ≤ 1000000) (h2 : t ≤ W.d.b.t) : hearW W t = W := by
 obtain ⟨e, _, _, _, c⟩ := hear_bal hm h1;unfold hearW;rw [e]
 rcases c with ⟨c1, c2⟩ | ⟨c1, c2⟩
 ·simp only
  rw [c1, if_pos ⟨rfl, rfl⟩]
 ·omega
theorem acc_c1 {W : WkV} {m : MsgW} (h : (accL W.d.L m.pi m.pt m.es m.cm).2.2.2 ≠ 0) : accW W m = answW W m false W.d.L.cm := by
 unfold accW;rw [if_pos h]
theorem acc_c2 {W : WkV} {m : MsgW} (h : ¬ (accL W.d.L m.pi m.pt m.es m.cm).2.2.2 ≠ 0) (h2 : (accL W.d.L m.pi m.pt m.es m.cm).2.2.1 = false) : accW W m = answW W m false (min (lastL W.d.L).1 (m.pi - 1)) := by
 unfold accW;rw [if_neg h, if_pos h2]
theorem acc_c3 {W : WkV} {m : MsgW} (h : ¬ (accL W.d.L m.pi m.pt m.es m.cm).2.2.2 ≠ 0) (h2 : ¬ (accL W.d.L m.pi m.pt m.es m.cm).2.2.1 = false) : accW W m = answW (if sameN W.d.L.l (accL W.d.L m.pi m.pt m.es m.cm).1.l < max W.d.L.l.length (accL W.d.L m.pi m.pt m.es m.cm).1.l.length then tailW {W with d := {W.d with L := (accL W.d.L m.pi m.pt m.es m.cm).1}} ((accL W.d.L m.pi m.pt m.es m.cm).1.bi + 1 + (sameN W.d.L.l (accL W.d.L m.pi m.pt m.es m.cm).1.l : Nat)) else {W with d := {W.d with L := (accL W.d.L m.pi m.pt m.es m.cm).1}}) m true (accL W.d.L m.pi m.pt m.es m.cm).2.1 := by
 unfold accW;rw [if_neg h, if_neg h2]
theorem acc_d {W : WkV} {m : MsgW} (h : ¬ (accL W.d.L m.pi m.pt m.es m.cm).2.2.2 ≠ 0) (h2 : ¬ (accL W.d.L m.pi m.pt m.es m.cm).2.2.1 = false) : (accW W m).d = {W.d with L := (accL W.d.L m.pi m.pt m.es m.cm).1} ∧ (accW W m).ms.length = W.ms.length + 1 := by
 rw [acc_c3 h h2]
 constructor
 ·simp only [answW, tellW]
  split
  ·rfl
  ·rfl
 ·simp only [answW, tellW]
  split
  ·simp [tailW]
  ·simp
theorem led_again {V : WkV} {m : MsgW} (hm : V.ms = []) (hk : m.kind = 3) : (ledW ⟨(ledW V m).d, [], [], 0, false⟩ m).rs = [] ∧ (ledW ⟨(ledW V m).d, [], [], 0, false⟩ m).ms.length = (ledW V m).ms.length ∧ (ledW ⟨(ledW V m).d, [], [], 0, false⟩ m).d.L = (ledW V m).d.L ∧ (ledW ⟨(ledW V m).d, [], [], 0, false⟩ m).d.b.t = (ledW V m).d.b.t ∧ (ledW ⟨(ledW V m).d, [], [], 0, false⟩ m).d.b.v = (ledW V m).d.b.v ∧ (ledW V m).d.b.t = V.d.b.t := by
 by_cases c1 : m.term < V.d.b.t
 ·have e1 : ledW V m = answW V m false 0 := by
   unfold ledW;rw [if_pos c1]
  rw [e1];have e2 : ledW ⟨(answW V m false 0).d, [], [], 0, false⟩ m = answW ⟨(answW V m false 0).d, [], [], 0, false⟩ m false 0 := by
   unfold ledW;rw [if_pos (show m.term < (answW V m false 0).d.b.t from c1)]
  rw [e2]
  exact ⟨rfl, by simp [answW, tellW, hm], rfl, rfl, rfl, rfl⟩
 ·by_cases c2 : V.d.b.r = 3
  ·have e1 : ledW V m = V := by
    unfold ledW;rw [if_neg c1, if_pos c2]
   rw [e1];have e2 : ledW ⟨V.d, [], [], 0, false⟩ m = ⟨V.d, [], [], 0, false⟩ := by
    unfold ledW;rw [if_neg c1, if_pos c2]
   rw [e2]
   exact ⟨rfl, by rw [hm], rfl, rfl, rfl, rfl⟩
  ·have e1 : ledW V m = accW {follW V m.frm with wt := true} m := by
    unfold ledW;rw [if_neg c1, if_neg c2, if_pos hk]
   have key : ∀ d : NodeV, d.b.t = V.d.b.t → d.b.v = V.d.b.v → d.b.r = 1 → ledW ⟨d, [], [], 0, false⟩ m = accW {follW ⟨d, [], [], 0, false⟩ m.frm with wt := true} m := by
    intro d h1 h2 h3;unfold ledW;rw [if_neg (show ¬ m.term < d.b.t by rw [h1]; exact c1), if_neg (show ¬ d.b.r = 3 by omega), if_pos hk]
   rw [e1]
   by_cases a1 : (accL V.d.L m.pi m.pt m.es m.cm).2.2.2 ≠ 0
   ·have e3 : accW {follW V m.frm with wt := true} m = answW {follW V m.frm with wt := true} m false V.d.L.cm := by
     exact acc_c1 (W := {follW V m.frm with wt := true}) a1
    rw [e3, key (answW {follW V m.frm with wt := true} m false V.d.L.cm).d rfl rfl rfl];have e4 : accW {follW ⟨(answW {follW V m.frm with wt := true} m false V.d.L.cm).d, [], [], 0, false⟩ m.frm with wt := true} m = answW {follW ⟨(answW {follW V m.frm with wt := true} m false V.d.L.cm).d, [], [], 0, false⟩ m.frm with wt := true} m false V.d.L.cm := by
     exact acc_c1 (W := {follW ⟨(answW {follW V m.frm with wt := true} m false V.d.L.cm).d, [], [], 0, false⟩ m.frm with wt := true}) a1
    rw [e4]
    exact ⟨rfl, by simp [answW, tellW, follW, hm], rfl, rfl, rfl, rfl⟩
   ·by_cases a2 : (accL V.d.L m.pi m.pt m.es m.cm).2.2.1 = false
    ·have e3 : accW {follW V m.frm with wt := true} m = answW {follW V m.frm with wt := true} m false (min (lastL V.d.L).1 (m.pi - 1)) := by
      exact acc_c2 (W := {follW V m.frm with wt := true}) a1 a2
     rw [e3, key (answW {follW V m.frm with wt := true} m false (min (lastL V.d.L).1 (m.pi - 1))).d rfl rfl rfl];have e4 : accW {follW ⟨(answW {follW V m.frm with wt := true} m false (min (lastL V.d.L).1 (m.pi - 1))).d, [], [], 0, false⟩ m.frm with wt := true} m = answW {follW ⟨(answW {follW V m.frm with wt := true} m false (min (lastL V.d.L).1 (m.pi - 1))).d, [], [], 0, false⟩ m.frm with wt := true} m false (min (lastL V.d.L).1 (m.pi - 1)) := by
      exact acc_c2 (W := {follW ⟨(answW {follW V m.frm with wt := true} m false (min (lastL V.d.L).1 (m.pi - 1))).d, [], [], 0, false⟩ m.frm with wt := true}) a1 a2
     rw [e4]
     exact ⟨rfl, by simp [answW, tellW, follW, hm], rfl, rfl, rfl, rfl⟩
    ·have hag := acc_again (Decidable.not_not.1 a1);have e3 : (accW {follW V m.frm with wt := true} m).d = {(follW V m.frm).d with L := (accL V.d.L m.pi m.pt m.es m.cm).1} ∧ (accW {follW V m.frm with wt := true} m).ms.length = 1 := by
      have hd := acc_d (W := {follW V m.frm with wt := true}) a1 a2
      exact ⟨hd.1, by rw [hd.2]; simp [follW, hm]⟩
     rw [e3.1, e3.2, key {(follW V m.frm).d with L := (accL V.d.L m.pi m.pt m.es m.cm).1} rfl rfl rfl];generalize hA : accL V.d.L m.pi m.pt m.es m.cm = A at *;have e5 : accW {follW ⟨{(follW V m.frm).d with L := A.1}, [], [], 0, false⟩ m.frm with wt := true} m = answW {follW ⟨{(follW V m.frm).d with L := A.1}, [], [], 0, false⟩ m.frm with wt := true} m true A.2.1 := by
      have e6 := acc_c3 (W := {follW ⟨{(follW V m.frm).d with L := A.1}, [], [], 0, false⟩ m.frm with wt := true}) (m := m) (by
       show ¬ (accL A.1 m.pi m.pt m.es m.cm).2.2.2 ≠ 0
       rw [hag];exact a1) (by
       show ¬ (accL A.1 m.pi m.pt m.es m.cm).2.2.1 = false
       rw [hag];exact a2)
      rw [e6, show (({follW ⟨{(follW V m.frm).d with L := A.1}, [], [], 0, false⟩ m.frm with wt := true} : WkV)).d.L = A.1 from rfl, hag, sameN_refl, if_neg (by omega)]
      rfl
     rw [e5]
     exact ⟨rfl, rfl, rfl, rfl, rfl, rfl⟩
theorem again_step {d : NodeV} {e : EvV} (h : Inv d) (h0 : (stepN d e).2 = 0) (k : e.kind = 3) (km : e.m.kind = 3) : (stepN (stepN d e).1.d e).2 = 0 ∧ (stepN (stepN d e).1.d e).1.rs = [] ∧ (stepN (stepN d e).1.d e).1.ms.length = (stepN d e).1.ms.length ∧ (stepN (stepN d e).1.d e).1.d.L = (stepN d e).1.d.L := by
 have hgo := step_go h h0;have hd1 := hgo.2.1;have hf := h.fw;have hb1 := hgo.1.nb.b;generalize hD : (stepN d e).1.d = D at *;have e0 : stepN d e = (hardW (messW ⟨d, [], [], 0, false⟩ e.m).1 d.b.t d.b.v, 0) ∧ (messW ⟨d, [], [], 0, false⟩ e.m).2 = 0 := by
  unfold stepN at h0 ⊢;have hev : evW ⟨d, [], [], 0, false⟩ e = messW ⟨d, [], [], 0, false⟩ e.m := by
   unfold evW;rw [if_neg (by omega), if_neg (by omega), if_pos k]
  rw [h.1, if_neg (by simp), show wiB e.kind 1 4 = true from decide_eq_true (by omega), if_neg (by simp), hev] at h0 ⊢
  split at h0
  ·rename_i c
   exact absurd h0 c
  ·rename_i c
   rw [if_neg c]
   exact ⟨rfl, Decidable.not_not.1 c⟩
 have hc : ¬ (sentB e.m = false ∨ e.m.dst ≠ d.me ∨ d.n < e.m.frm) := by
  intro hc;have := e0.2;unfold messW at this;rw [if_pos hc] at this
  simp at this
 have hs : sentB e.m = true := by
  cases hh : sentB e.m
  ·exact absurd (.inl hh) hc
  ·rfl
 obtain ⟨s1, s2, s3, s4, s5, s6, s7, s8⟩ := sent_in hs;have hgoH := hear_go (W := ⟨d, [], [], 0, false⟩) hf.1 hf.2 s4;have hmsH : (hearW ⟨d, [], [], 0, false⟩ e.m.term).ms = [] := hear_ms _ _;have e1 : (messW ⟨d, [], [], 0, false⟩ e.m).1 = ledW (hearW ⟨d, [], [], 0, false⟩ e.m.term) e.m := by
  unfold messW;rw [if_neg hc, if_neg (by omega), if_neg (by omega), if_neg (by omega)]
 rw [e0.1, e1];generalize hearW ⟨d, [], [], 0, false⟩ e.m.term = V at *;have eD : D = (ledW V e.m).d := by
  rw [← hD, e0.1, e1];simp only [hardW]
  split
  ·rfl
  ·rfl
 obtain ⟨l1, l2, l3, l4, l5, l6⟩ := led_again hmsH km;have hme : D.me = d.me := hgo.1.me;have hn : D.n = d.n := hgo.1.n;have e2 : messW ⟨D, [], [], 0, false⟩ e.m = (ledW ⟨D, [], [], 0, false⟩ e.m, 0) := by
  unfold messW;rw [if_neg (show ¬ (sentB e.m = false ∨ e.m.dst ≠ D.me ∨ D.n < e.m.frm) by rw [hme, hn]; exact hc), if_neg (by omega), if_neg (by omega), if_neg (by omega)]
  rw [hear_same (W := ⟨D, [], [], 0, false⟩) hb1 s4 (show e.m.term ≤ D.b.t by rw [eD, l6]; exact hgoH.2.2)]
 have e3 : stepN D e = (hardW (ledW ⟨D, [], [], 0, false⟩ e.m) D.b.t D.b.v, 0) := by
  unfold stepN;have hev : evW ⟨D, [], [], 0, false⟩ e = messW ⟨D, [], [], 0, false⟩ e.m := by
   unfold evW;rw [if_neg (by omega), if_neg (by omega), if_pos k]
  rw [hd1, if_neg (by simp), show wiB e.kind 1 4 = true from decide_eq_true (by omega), if_neg (by simp), hev, e2]
  rfl
 rw [e3];have eh : hardW (ledW ⟨D, [], [], 0, false⟩ e.m) D.b.t D.b.v = ledW ⟨D, [], [], 0, false⟩ e.m := by
  unfold hardW;rw [if_pos];rw [eD]
  exact ⟨l4, l5⟩
 simp only
 rw [eh];rw [← eD] at l1 l2 l3;refine ⟨trivial, l1, ?_, ?_⟩
 ·rw [l2];simp only [hardW]
  split
  ·rfl
  ·rfl
 ·rw [l3, eD]
theorem sameN_le : ∀ l k : List EntV, sameN l k ≤ l.length ∧ sameN l k ≤ k.length
 | [], _ => by simp [sameN]
 | _ :: _, [] => by simp [sameN]
 | a :: l, b :: k => by
  have := sameN_le l k;unfold sameN
  split
  ·simp only [List.length_cons];omega
  ·simp
theorem sameN_at : ∀ (l k : List EntV) (t : Nat) (h1 : t < l.length) (h2 : t < k.length), t ≤ sameN l k → (t < sameN l k ↔ eqE l[t] k[t] = true)
 | [], _, t, h1, _, _ => by simp at h1
 | _ :: _, [], t, _, h2, _ => by simp at h2
 | a :: l, b :: k, t, h1, h2, h3 => by
  unfold sameN at h3 ⊢;cases t with
  | zero =>
   simp only [List.getElem_cons_zero]
   split
   ·rename_i h
    simp [h]
   ·rename_i h
    simp [h]
  | succ t =>
   simp only [List.getElem_cons_succ]
   split at h3
   ·rename_i h
    rw [if_pos h];have := sameN_at l k t (by simpa using h1) (by simpa using h2) (by omega);rw [← this];omega
   ·omega
theorem EGot.opend {w : World} {v : Value} {l : List EntV} (h : EGot w v l) : ∃ a c, v = .slice a l.length c ∧ (l.length ≤ c ∧ c ≤ maxLen) ∧ ∀ i, i < l.length → ∃ b off, a = some ⟨b, off, none⟩ ∧ b < w.heap.size ∧ w.cell? ⟨b, off + i * 3, none⟩ = some (.int .i64 (l.getD i noE).term) ∧ w.cell? ⟨b, off + i * 3 + 1, none⟩ = some (.int .i64 (l.getD i noE).kind) ∧ w.cell? ⟨b, off + i * 3 + 2, none⟩ = some (.string (l.getD i noE).text) := by
 obtain ⟨h8, a, c, rfl, hc, hr⟩ := h;refine ⟨a, c, rfl, hc, fun i hi => ?_⟩;obtain ⟨b, off, rfl, hlt, hcc⟩ := hr (by omega);obtain ⟨e0, e1, e2⟩ := entC_get l i hi;have e : l.getD i noE = l[i] := by rw [List.getD_eq_getElem?_getD, List.getElem?_eq_getElem hi]; rfl
 rw [e]
 exact ⟨b, off, rfl, hlt, (hcc _ (by omega)).trans e0, (hcc (i * 3 + 1) (by omega)).trans e1, (hcc (i * 3 + 2) (by omega)).trans e2⟩
theorem sameN_at2 (l k : List EntV) (t : Nat) (h1 : t < l.length) (h2 : t < k.length) (h3 : t ≤ sameN l k) : t < sameN l k ↔ eqE (l.getD t noE) (k.getD t noE) = true := by
 have e1 : l.getD t noE = l[t] := by rw [List.getD_eq_getElem?_getD, List.getElem?_eq_getElem h1]; rfl
 have e2 : k.getD t noE = k[t] := by rw [List.getD_eq_getElem?_getD, List.getElem?_eq_getElem h2]; rfl
 rw [e1, e2];exact sameN_at l k t h1 h2 h3
set_option maxHeartbeats 8000000 in
set_option maxRecDepth 100000 in
theorem turnedAt_is (L M : LogV) (g k : Value) (w : World) (hg : EGot w g L.l) (hk : EGot w k M.l) (hL : L.l.length ≤ 1000000) (hM : M.l.length ≤ 1000000) (hb : 0 ≤ M.bi ∧ M.bi ≤ 1000000) : Calls Tryz.prog 196 #[logV L g, logV M k] w fun e w' => e = .returned (.tuple #[.int .i64 (M.bi + 1 + (sameN L.l M.l : Nat)), .bool (decide (sameN L.l M.l < max L.l.length M.l.length))]) ∧ Below w.heap.size w w' := by
 obtain ⟨a, c, rfl, hcc, ha⟩ := hg.opend;obtain ⟨a', c', rfl, hcc', hb'⟩ := hk.opend;have HA := hideIt ha;have HK := hideIt hb';have hsl := sameN_le L.l M.l;have HS := hideIt (sameN_at2 L.l M.l);have hb1 := below1 w (.cells #[.int .i64 L.bi, .int .i64 L.bt, .slice a L.l.length c, .int .i64 L.cm] 36);have HP := hideIt (And.intro (blkK (heap_alloc_new w (.cells #[.int .i64 L.bi, .int .i64 L.bt, .slice a L.l.length c, .int .i64 L.cm] 36)) (below1 (w.alloc (.cells #[.int .i64 L.bi, .int .i64 L.bt, .slice a L.l.length c, .int .i64 L.cm] 36)) (.cells #[.int .i64 M.bi, .int .i64 M.bt, .slice a' M.l.length c', .int .i64 M.cm] 36))) (heap_alloc_new (w.alloc (.cells #[.int .i64 L.bi, .int .i64 L.bt, .slice a L.l.length c, .int .i64 L.cm] 36)) (.cells #[.int .i64 M.bi, .int .i64 M.bt, .slice a' M.l.length c', .int .i64 M.cm] 36)));have HB := hideIt (below_via hb1 (below1 (w.alloc (.cells #[.int .i64 L.bi, .int .i64 L.bt, .slice a L.l.length c, .int .i64 L.cm] 36)) (.cells #[.int .i64 M.bi, .int .i64 M.bt, .slice a' M.l.length c', .int .i64 M.cm] 36)));obtain ⟨hq1, hq2⟩ := hcc;obtain ⟨hq3, hq4⟩ := hcc';clear hg hk ha hb' hb1;obtain ⟨mx, hmx⟩ : ∃ mx : Nat, mx = max L.l.length M.l.length := ⟨_, rfl⟩;rw [← hmx];unfold logV logA
 go_enter Tryz.func196, Tryz.ntmps196
 generalize hla : L.l.length = la at *;generalize hlb : M.l.length = lb at *;generalize M.bi = bi at *;generalize sameN L.l M.l = sn at *;clear hla hlb
 go_upto_region 1 with fail
 have hws : (World.alloc w (.cells #[.int .i64 L.bi, .int .i64 L.bt, .slice a la c, .int .i64 L.cm] 36)).heap.size = w.heap.size + 1 := by simp
 rw [hws] at HP;clear hws;generalize (World.alloc (World.alloc w _) _) = W0 at *;generalize hQ : w.heap.size + 1 = Q at *;obtain ⟨P, hP⟩ : ∃ P, P = w.heap.size := ⟨_, rfl⟩;rw [← hP] at HP ⊢;obtain ⟨⟨p0, p1, p2, p3⟩, pf, pz⟩ := at4 HP.out.1;obtain ⟨⟨q0, q1, q2, q3⟩, qf, qz⟩ := at4 HP.out.2;clear p0 p1 p3 q1 q3 pf qf pz qz hP hQ;go_wp2
 go_loopw [6] (fun i wr => ∃ t : Nat, t ≤ sn ∧ i = .int .i64 (t : Int) ∧ Hid (Below W0.heap.size W0 wr)) (fun i _ => sn - (intOf i).toNat)
 case atStart => exact ⟨0, Nat.zero_le _, rfl, hideIt (Below.refl _ _)⟩
 case round =>
  obtain ⟨t, ht, rfl, HW⟩ := hrel;have x2 : wr.cell? ⟨P, 2, none⟩ = some (.slice a la c) := by
   rw [Tm.cell_at (blkK HP.out.1 HW.out)]
   rfl
  have z0 : wr.cell? ⟨Q, 0, none⟩ = some (.int .i64 bi) := by
   rw [Tm.cell_at (blkK HP.out.2 HW.out)]
   rfl
  have z2 : wr.cell? ⟨Q, 2, none⟩ = some (.slice a' lb c') := by
   rw [Tm.cell_at (blkK HP.out.2 HW.out)]
   rfl
  clear p2 q0 q2;obtain ⟨mn, hmn, hmn2⟩ : ∃ mn : Nat, mn = min la lb ∧ min (la : Int) (lb : Int) = (mn : Int) := ⟨min la lb, rfl, by omega⟩;have hmx2 : max (la : Int) (lb : Int) = (mx : Int) := by omega
  have hw1 : IntKind.i64.wrap (bi + 1) = bi + 1 := by rw [IntKind.wrap_i64]; omega
  have hw2 : IntKind.i64.wrap (bi + 1 + (t : Int)) = bi + 1 + (t : Int) := by rw [IntKind.wrap_i64]; omega
  have ht0 : (0 : Int) ≤ (t : Int) := by omega
  by_cases hlt : t < mn
  ·have hlt' : (t : Int) < (mn : Int) := by omega
   have hd : decide ((t : Int) < (mn : Int)) = true := decide_eq_true hlt';have hta : t < la := by omega
   have htb : t < lb := by omega
   have hta' : (t : Int) < (la : Int) := by omega
   have htb' : (t : Int) < (lb : Int) := by omega
   obtain ⟨b1, o1, rfl, l1, e0, e1, e2⟩ := HA.out t hta;obtain ⟨b2, o2, rfl, l2, f0, f1, f2⟩ := HK.out t htb;have hbb := below_via HB.out HW.out;have u0 := (hbb.cell (p := ⟨b1, o1 + t * 3, none⟩) l1).trans e0;have u1 := (hbb.cell (p := ⟨b1, o1 + t * 3 + 1, none⟩) l1).trans e1;have u2 := (hbb.cell (p := ⟨b1, o1 + t * 3 + 2, none⟩) l1).trans e2;have v0 := (hbb.cell (p := ⟨b2, o2 + t * 3, none⟩) l2).trans f0;have v1 := (hbb.cell (p := ⟨b2, o2 + t * 3 + 1, none⟩) l2).trans f1;have v2 := (hbb.cell (p := ⟨b2, o2 + t * 3 + 2, none⟩) l2).trans f2;have hs := HS.out t hta htb ht;clear e0 e1 e2 f0 f1 f2 hbb HS;generalize L.l.getD t noE = en at *;generalize M.l.getD t noE = em at *;obtain ⟨xt, xk, xx⟩ := en;obtain ⟨yt, yk, yx⟩ := em;simp only at u0 u1 u2 v0 v1 v2;have n1 := eq39 xt xk yt yk xx yx;cases heq : eqE ⟨xt, xk, xx⟩ ⟨yt, yk, yx⟩
   ·rw [heq] at n1 hs;have e : sn = t := by
     have : ¬ t < sn := fun h => by have := hs.1 h; simp at this
     omega
    clear hs HA HK;clear hmn hmx
    go_upto_region 2 with fail
    go_region_held3 (fun W => (W.cell? ⟨P, 2, none⟩ = some (.slice (some ⟨b1, o1, none⟩) la c) ∧ W.cell? ⟨Q, 0, none⟩ = some (.int .i64 bi) ∧ W.cell? ⟨Q, 2, none⟩ = some (.slice (some ⟨b2, o2, none⟩) lb c')) ∧ W.cell? ⟨b1, o1 + t * 3, none⟩ = some (.int .i64 xt) ∧ W.cell? ⟨b1, o1 + t * 3 + 1, none⟩ = some (.int .i64 xk) ∧ W.cell? ⟨b1, o1 + t * 3 + 2, none⟩ = some (.string xx) ∧ W.cell? ⟨b2, o2 + t * 3, none⟩ = some (.int .i64 yt) ∧ W.cell? ⟨b2, o2 + t * 3 + 1, none⟩ = some (.int .i64 yk) ∧ W.cell? ⟨b2, o2 + t * 3 + 2, none⟩ = some (.string yx)) (go_keep) (first | fail)
    all_goals go_wp2_with fail
    have HW' := hideIt (below_via HB.out HW.out)
    go_upto_region 4 with fail
    go_region_held3 (fun W => W.cell? ⟨P, 2, none⟩ = some (.slice (some ⟨b1, o1, none⟩) la c) ∧ W.cell? ⟨Q, 0, none⟩ = some (.int .i64 bi) ∧ W.cell? ⟨Q, 2, none⟩ = some (.slice (some ⟨b2, o2, none⟩) lb c')) (go_keep) (first | fail)
    all_goals go_wp2
    all_goals go_ret2
    all_goals exact ⟨by first | rfl | (rw [e]; rfl), below_via HW'.out (Below.refl _ _).drew.drew⟩
   ·rw [heq] at n1 hs;have hts : t < sn := hs.2 rfl;clear hs HA HK;clear hmn hmx
    go_upto_region 2 with fail
    go_region_held3 (fun W => (W.cell? ⟨P, 2, none⟩ = some (.slice (some ⟨b1, o1, none⟩) la c) ∧ W.cell? ⟨Q, 0, none⟩ = some (.int .i64 bi) ∧ W.cell? ⟨Q, 2, none⟩ = some (.slice (some ⟨b2, o2, none⟩) lb c')) ∧ W.cell? ⟨b1, o1 + t * 3, none⟩ = some (.int .i64 xt) ∧ W.cell? ⟨b1, o1 + t * 3 + 1, none⟩ = some (.int .i64 xk) ∧ W.cell? ⟨b1, o1 + t * 3 + 2, none⟩ = some (.string xx) ∧ W.cell? ⟨b2, o2 + t * 3, none⟩ = some (.int .i64 yt) ∧ W.cell? ⟨b2, o2 + t * 3 + 1, none⟩ = some (.int .i64 yk) ∧ W.cell? ⟨b2, o2 + t * 3 + 2, none⟩ = some (.string yx)) (go_keep) (first | fail)
    all_goals go_wp2
    all_goals go_roundw
    case rel => exact ⟨t + 1, by omega, by go_num, hideIt HW.out.drew⟩
    case measure => simp [intOf]; omega
  ·have hlt' : ¬ (t : Int) < (mn : Int) := by omega
   have hd : decide ((t : Int) < (mn : Int)) = false := decide_eq_false hlt';have e : sn = t := by omega
   clear HA HK HS hmn hmx
   go_upto_region 2 with fail
   refine wp_region_held_drew (S := fun W => W.cell? ⟨P, 2, none⟩ = some (.slice a la c) ∧ W.cell? ⟨Q, 0, none⟩ = some (.int .i64 bi) ∧ W.cell? ⟨Q, 2, none⟩ = some (.slice a' lb c')) (by rfl) ⟨x2, z0, z2⟩ (fun hHeld => ?_);refine wpAnyH_take (i := 0) (oi := ⟨some 7, _, _, _, _, _⟩) (v := ?_) rfl (by kernel_rfl) (by kernel_rfl) (by kernel_rfl) (fun _ _ _ h => h) (Or.inl ⟨by rfl, ?_⟩) (by assumption) ?_
   rotate_left
   ·intro w5 hSw
    (try dsimp only at hSw)
    go_simp
    (try with_reducible rfl)
   try simp only [aP, aQ, aA, aB, aC]
   refine wpAnyH_take (i := 1) (oi := ⟨some 8, _, _, _, _, _⟩) (v := ?_) rfl (by kernel_rfl) (by kernel_rfl) (by kernel_rfl) (fun _ _ _ h => h) (Or.inl ⟨by rfl, ?_⟩) (by assumption) ?_
   rotate_left
   ·intro w5 hSw
    (try dsimp only at hSw)
    go_simp
    (try with_reducible rfl)
   try simp only [aP, aQ, aA, aB, aC]
   refine wpAnyH_take (i := 2) (oi := ⟨some 9, _, _, _, _, _⟩) (v := ?_) rfl (by kernel_rfl) (by kernel_rfl) (by kernel_rfl) (fun _ _ _ h => h) (Or.inl ⟨by rfl, ?_⟩) (by assumption) ?_
   rotate_left
   ·intro w5 hSw
    (try dsimp only at hSw)
    go_simp
    (try with_reducible rfl)
   try simp only [aP, aQ, aA, aB, aC]
   refine wpAnyH_take (i := 3) (oi := ⟨some 10, _, _, _, _, _⟩) (v := ?_) rfl (by kernel_rfl) (by kernel_rfl) (by kernel_rfl) (fun _ _ _ h => h) (Or.inl ⟨by rfl, ?_⟩) (by assumption) ?_
   rotate_left
   ·intro w5 hSw
    (try dsimp only at hSw)
    go_simp
    (try with_reducible rfl)
   try simp only [aP, aQ, aA, aB, aC]
   refine wpAnyH_take (i := 4) (oi := ⟨some 11, _, _, _, _, _⟩) (v := ?_) rfl (by kernel_rfl) (by kernel_rfl) (by kernel_rfl) (fun _ _ _ h => h) (Or.inl ⟨by rfl, ?_⟩) (by assumption) ?_
   rotate_left
   ·intro w5 hSw
    (try dsimp only at hSw)
    go_simp
    (try with_reducible rfl)
   try simp only [aP, aQ, aA, aB, aC]
   refine wpAnyH_take (i := 5) (oi := ⟨some 12, _, _, _, _, _⟩) (v := ?_) rfl (by kernel_rfl) (by kernel_rfl) (by kernel_rfl) (fun _ _ _ h => h) (Or.inl ⟨by rfl, ?_⟩) (by assumption) ?_
   rotate_left
   ·intro w5 hSw
    (try dsimp only at hSw)
    go_simp
    (try with_reducible rfl)
   try simp only [aP, aQ, aA, aB, aC]
   refine wpAnyH_take (i := 6) (oi := ⟨some 13, _, _, _, _, _⟩) (v := ?_) rfl (by kernel_rfl) (by kernel_rfl) (by kernel_rfl) (fun _ _ _ h => h) (Or.inl ⟨by rfl, ?_⟩) (by assumption) ?_
   rotate_left
   ·intro w5 hSw
    (try dsimp only at hSw)
    go_simp
    (try with_reducible rfl)
   try simp only [aP, aQ, aA, aB, aC]
   refine wpAnyH_take (i := 7) (oi := ⟨some 14, _, _, _, _, _⟩) (v := ?_) rfl (by kernel_rfl) (by kernel_rfl) (by kernel_rfl) (fun _ _ _ h => h) (Or.inl ⟨by rfl, ?_⟩) (by assumption) ?_
   rotate_left
   ·intro w5 hSw
    (try dsimp only at hSw)
    go_simp
    (try with_reducible rfl)
   try simp only [aP, aQ, aA, aB, aC]
   refine wpAnyH_take (i := 8) (oi := ⟨some 15, _, _, _, _, _⟩) (v := ?_) rfl (by kernel_rfl) (by kernel_rfl) (by kernel_rfl) (fun _ _ _ h => h) (Or.inl ⟨by rfl, ?_⟩) (by assumption) ?_
   rotate_left
   ·intro w5 hSw
    (try dsimp only at hSw)
    go_simp
    (try with_reducible rfl)
   try simp only [aP, aQ, aA, aB, aC]
   refine wpAnyH_take (i := 9) (oi := ⟨some 16, _, _, _, _, _⟩) (v := ?_) rfl (by kernel_rfl) (by kernel_rfl) (by kernel_rfl) (fun _ _ _ h => h) (Or.inl ⟨by rfl, ?_⟩) (by assumption) ?_
   rotate_left
   ·intro w5 hSw
    (try dsimp only at hSw)
    go_simp
    (try with_reducible rfl)
   try simp only [aP, aQ, aA, aB, aC]
   refine wpAnyH_take (i := 10) (oi := ⟨some 17, _, _, _, _, _⟩) (v := undef) rfl (by kernel_rfl) (by kernel_rfl) (by kernel_rfl) (fun _ _ _ h => h) (Or.inr ⟨by rfl, rfl⟩) (by assumption) ?_
   try simp only [aP, aQ, aA, aB, aC]
   refine wpAnyH_take (i := 11) (oi := ⟨some 18, _, _, _, _, _⟩) (v := undef) rfl (by kernel_rfl) (by kernel_rfl) (by kernel_rfl) (fun _ _ _ h => h) (Or.inr ⟨by rfl, rfl⟩) (by assumption) ?_
   try simp only [aP, aQ, aA, aB, aC]
   refine wpAnyH_take (i := 12) (oi := ⟨some 19, _, _, _, _, _⟩) (v := undef) rfl (by kernel_rfl) (by kernel_rfl) (by kernel_rfl) (fun _ _ _ h => h) (Or.inr ⟨by rfl, rfl⟩) (by assumption) ?_
   try simp only [aP, aQ, aA, aB, aC]
   refine wpAnyH_take (i := 13) (oi := ⟨some 20, _, _, _, _, _⟩) (v := undef) rfl (by kernel_rfl) (by kernel_rfl) (by kernel_rfl) (fun _ _ _ h => h) (Or.inr ⟨by rfl, rfl⟩) (by assumption) ?_
   try simp only [aP, aQ, aA, aB, aC]
   refine wpAnyH_take (i := 14) (oi := ⟨some 21, _, _, _, _, _⟩) (v := undef) rfl (by kernel_rfl) (by kernel_rfl) (by kernel_rfl) (fun _ _ _ h => h) (Or.inr ⟨by rfl, rfl⟩) (by assumption) ?_
   try simp only [aP, aQ, aA, aB, aC]
   refine wpAnyH_take (i := 15) (oi := ⟨some 22, _, _, _, _, _⟩) (v := undef) rfl (by kernel_rfl) (by kernel_rfl) (by kernel_rfl) (fun _ _ _ h => h) (Or.inr ⟨by rfl, rfl⟩) (by assumption) ?_
   try simp only [aP, aQ, aA, aB, aC]
   refine wpAnyH_take (i := 16) (oi := ⟨some 23, _, _, _, _, _⟩) (v := undef) rfl (by kernel_rfl) (by kernel_rfl) (by kernel_rfl) (fun _ _ _ h => h) (Or.inr ⟨by rfl, rfl⟩) (by assumption) ?_
   try simp only [aP, aQ, aA, aB, aC]
   refine wpAnyH_take (i := 17) (oi := ⟨some 24, _, _, _, _, _⟩) (v := undef) rfl (by kernel_rfl) (by kernel_rfl) (by kernel_rfl) (fun _ _ _ h => h) (Or.inr ⟨by rfl, rfl⟩) (by assumption) ?_
   try simp only [aP, aQ, aA, aB, aC]
   refine wpAnyH_take (i := 18) (oi := ⟨some 25, _, _, _, _, _⟩) (v := undef) rfl (by kernel_rfl) (by kernel_rfl) (by kernel_rfl) (fun _ _ _ h => h) (Or.inr ⟨by rfl, rfl⟩) (by assumption) ?_
   try simp only [aP, aQ, aA, aB, aC]
   refine wpAnyH_take (i := 19) (oi := ⟨some 26, _, _, _, _, _⟩) (v := undef) rfl (by kernel_rfl) (by kernel_rfl) (by kernel_rfl) (fun _ _ _ h => h) (Or.inr ⟨by rfl, rfl⟩) (by assumption) ?_
   try simp only [aP, aQ, aA, aB, aC]
   refine wpAnyH_take (i := 20) (oi := ⟨some 27, _, _, _, _, _⟩) (v := undef) rfl (by kernel_rfl) (by kernel_rfl) (by kernel_rfl) (fun _ _ _ h => h) (Or.inr ⟨by rfl, rfl⟩) (by assumption) ?_
   try simp only [aP, aQ, aA, aB, aC]
   refine wpAnyH_take (i := 21) (oi := ⟨some 28, _, _, _, _, _⟩) (v := ?_) rfl (by kernel_rfl) (by kernel_rfl) (by kernel_rfl) (fun _ _ _ h => h) (Or.inl ⟨by rfl, ?_⟩) (by assumption) ?_
   rotate_left
   ·intro w5 hSw
    (try dsimp only at hSw)
    go_simp
    (try with_reducible rfl)
   try simp only [aP, aQ, aA, aB, aC]
   refine wpAnyH_done (by kernel_rfl) ?_ _;clear hHeld;have HW' := hideIt (below_via HB.out HW.out)
   go_upto_region 4 with fail
   go_region_held3 (fun W => W.cell? ⟨P, 2, none⟩ = some (.slice a la c) ∧ W.cell? ⟨Q, 0, none⟩ = some (.int .i64 bi) ∧ W.cell? ⟨Q, 2, none⟩ = some (.slice a' lb c')) (go_keep) (first | fail)
   all_goals go_wp2
   all_goals go_ret2
   all_goals exact ⟨by first | rfl | (rw [e]; rfl), below_via HW'.out (Below.refl _ _).drew.drew⟩
def Kp (K : Nat) (a b : World) : Prop := ∀ p cs t, a.heap[p]? = some (.cells cs t (0, 0)) → p ≠ K → (63 : TypeId) ≠ t → b.heap[p]? = some (.cells cs t (0, 0))
theorem Kp.below (K : Nat) {a b : World} (h : Below a.heap.size a b) : Kp K a b := fun p cs t hh _ _ => blkK hh h
theorem Kp.set (K : Nat) (a : World) (j : Nat) (v : Value) : Kp K a (a.setCell ⟨K, j, none⟩ v) := fun p cs t hh hp _ => setOther v hh hp
theorem Kp.trans {K : Nat} {a b c : World} (h : Kp K a b) (k : Kp K b c) : Kp K a c := fun p cs t hh hp ht => k p cs t (h p cs t hh hp ht) hp ht
theorem Kp.grown (K : Nat) {a b : World} {B n : Nat} {v : Value} {xs : List Value} (hg : a.grownBy b v.ownBlock) (ho : a.ownsRow B 63 8 v n xs) : Kp K a b := fun p cs t hh _ ht => box_type hg ho hh ht
set_option maxRecDepth 100000 in
set_option maxHeartbeats 4000000 in
theorem follow_is2 {X : WkX} {K : Nat} {w wx : World} (h : WK w K X wx) (ld : Int) : Calls Tryz.prog 140 #[.pointer (some ⟨K, 0, none⟩), .int .i64 ld] wx fun e w' => e = .returned (.tuple #[]) ∧ WK w K {X with d := {X.d with b := ⟨X.d.b.t, X.d.b.v, 1, []⟩, ld := ld, nx := [], mt := []}, ba := none, bc := 0, na := none, nc := 0, ma := none, mc := 0} w' ∧ Kp K wx w' := by
 obtain ⟨⟨k0, k1, k2, k3, k4, k5, k6, k7, k8, k9, k10, k11, k12, k13, k14, k15, k16, k17⟩, kf, kz⟩ := at18 h.box;have b0 : (wx.setCell ⟨K, 4, none⟩ (.int .i64 1)).heap[K]? = some (.cells #[.int .i64 X.d.me, .int .i64 X.d.n, .int .i64 X.d.b.t, .int .i64 X.d.b.v, .int .i64 1, .slice X.ba X.d.b.l.length X.bc, .int .i64 X.d.ld, .int .i64 X.d.L.bi, .int .i64 X.d.L.bt, .slice X.la X.d.L.l.length X.lc, .int .i64 X.d.L.cm, .string X.d.tx, .slice X.na X.d.nx.length X.nc, .slice X.ma X.d.mt.length X.mc, .slice X.ra X.R.length X.rc, .slice X.qa X.M.length X.qc, .int .i64 X.ix, .bool X.wt] 78 (0, 0)) := heap_set h.box 4 (.int .i64 1);have r0 : WR w.heap.size (wx.setCell ⟨K, 4, none⟩ (.int .i64 1)) X := h.rows.cell h.box (by decide) (by decide) (by decide) (by decide);have l0 : Below w.heap.size w (wx.setCell ⟨K, 4, none⟩ (.int .i64 1)) := belowSet _ h.bel h.hK;have b1 : ((wx.setCell ⟨K, 4, none⟩ (.int .i64 1)).setCell ⟨K, 5, none⟩ (.slice none 0 0)).heap[K]? = some (.cells #[.int .i64 X.d.me, .int .i64 X.d.n, .int .i64 X.d.b.t, .int .i64 X.d.b.v, .int .i64 1, .slice none 0 0, .int .i64 X.d.ld, .int .i64 X.d.L.bi, .int .i64 X.d.L.bt, .slice X.la X.d.L.l.length X.lc, .int .i64 X.d.L.cm, .string X.d.tx, .slice X.na X.d.nx.length X.nc, .slice X.ma X.d.mt.length X.mc, .slice X.ra X.R.length X.rc, .slice X.qa X.M.length X.qc, .int .i64 X.ix, .bool X.wt] 78 (0, 0)) := heap_set b0 5 (.slice none 0 0);have r1 : WR w.heap.size ((wx.setCell ⟨K, 4, none⟩ (.int .i64 1)).setCell ⟨K, 5, none⟩ (.slice none 0 0)) X := r0.cell b0 (by decide) (by decide) (by decide) (by decide);have l1 : Below w.heap.size w ((wx.setCell ⟨K, 4, none⟩ (.int .i64 1)).setCell ⟨K, 5, none⟩ (.slice none 0 0)) := belowSet _ l0 h.hK;have b2 : (((wx.setCell ⟨K, 4, none⟩ (.int .i64 1)).setCell ⟨K, 5, none⟩ (.slice none 0 0)).setCell ⟨K, 6, none⟩ (.int .i64 ld)).heap[K]? = some (.cells #[.int .i64 X.d.me, .int .i64 X.d.n, .int .i64 X.d.b.t, .int .i64 X.d.b.v, .int .i64 1, .slice none 0 0, .int .i64 ld, .int .i64 X.d.L.bi, .int .i64 X.d.L.bt, .slice X.la X.d.L.l.length X.lc, .int .i64 X.d.L.cm, .string X.d.tx, .slice X.na X.d.nx.length X.nc, .slice X.ma X.d.mt.length X.mc, .slice X.ra X.R.length X.rc, .slice X.qa X.M.length X.qc, .int .i64 X.ix, .bool X.wt] 78 (0, 0)) := heap_set b1 6 (.int .i64 ld);have r2 : WR w.heap.size (((wx.setCell ⟨K, 4, none⟩ (.int .i64 1)).setCell ⟨K, 5, none⟩ (.slice none 0 0)).setCell ⟨K, 6, none⟩ (.int .i64 ld)) X := r1.cell b1 (by decide) (by decide) (by decide) (by decide);have l2 : Below w.heap.size w (((wx.setCell ⟨K, 4, none⟩ (.int .i64 1)).setCell ⟨K, 5, none⟩ (.slice none 0 0)).setCell ⟨K, 6, none⟩ (.int .i64 ld)) := belowSet _ l1 h.hK;have b3 : ((((wx.setCell ⟨K, 4, none⟩ (.int .i64 1)).setCell ⟨K, 5, none⟩ (.slice none 0 0)).setCell ⟨K, 6, none⟩ (.int .i64 ld)).setCell ⟨K, 12, none⟩ (.slice none 0 0)).heap[K]? = some (.cells #[.int .i64 X.d.me, .int .i64 X.d.n, .int .i64 X.d.b.t, .int .i64 X.d.b.v, .int .i64 1, .slice none 0 0, .int .i64 ld, .int .i64 X.d.L.bi, .int .i64 X.d.L.bt, .slice X.la X.d.L.l.length X.lc, .int .i64 X.d.L.cm, .string X.d.tx, .slice none 0 0, .slice X.ma X.d.mt.length X.mc, .slice X.ra X.R.length X.rc, .slice X.qa X.M.length X.qc, .int .i64 X.ix, .bool X.wt] 78 (0, 0)) := heap_set b2 12 (.slice none 0 0);have r3 : WR w.heap.size ((((wx.setCell ⟨K, 4, none⟩ (.int .i64 1)).setCell ⟨K, 5, none⟩ (.slice none 0 0)).setCell ⟨K, 6, none⟩ (.int .i64 ld)).setCell ⟨K, 12, none⟩ (.slice none 0 0)) X := r2.cell b2 (by decide) (by decide) (by decide) (by decide);have l3 : Below w.heap.size w ((((wx.setCell ⟨K, 4, none⟩ (.int .i64 1)).setCell ⟨K, 5, none⟩ (.slice none 0 0)).setCell ⟨K, 6, none⟩ (.int .i64 ld)).setCell ⟨K, 12, none⟩ (.slice none 0 0)) := belowSet _ l2 h.hK;have b4 : (((((wx.setCell ⟨K, 4, none⟩ (.int .i64 1)).setCell ⟨K, 5, none⟩ (.slice none 0 0)).setCell ⟨K, 6, none⟩ (.int .i64 ld)).setCell ⟨K, 12, none⟩ (.slice none 0 0)).setCell ⟨K, 13, none⟩ (.slice none 0 0)).heap[K]? = some (.cells #[.int .i64 X.d.me, .int .i64 X.d.n, .int .i64 X.d.b.t, .int .i64 X.d.b.v, .int .i64 1, .slice none 0 0, .int .i64 ld, .int .i64 X.d.L.bi, .int .i64 X.d.L.bt, .slice X.la X.d.L.l.length X.lc, .int .i64 X.d.L.cm, .string X.d.tx, .slice none 0 0, .slice none 0 0, .slice X.ra X.R.length X.rc, .slice X.qa X.M.length X.qc, .int .i64 X.ix, .bool X.wt] 78 (0, 0)) := heap_set b3 13 (.slice none 0 0);have r4 : WR w.heap.size (((((wx.setCell ⟨K, 4, none⟩ (.int .i64 1)).setCell ⟨K, 5, none⟩ (.slice none 0 0)).setCell ⟨K, 6, none⟩ (.int .i64 ld)).setCell ⟨K, 12, none⟩ (.slice none 0 0)).setCell ⟨K, 13, none⟩ (.slice none 0 0)) X := r3.cell b3 (by decide) (by decide) (by decide) (by decide);have l4 : Below w.heap.size w (((((wx.setCell ⟨K, 4, none⟩ (.int .i64 1)).setCell ⟨K, 5, none⟩ (.slice none 0 0)).setCell ⟨K, 6, none⟩ (.int .i64 ld)).setCell ⟨K, 12, none⟩ (.slice none 0 0)).setCell ⟨K, 13, none⟩ (.slice none 0 0)) := belowSet _ l3 h.hK;have HF : Hid (WK w K {X with d := {X.d with b := ⟨X.d.b.t, X.d.b.v, 1, []⟩, ld := ld, nx := [], mt := []}, ba := none, bc := 0, na := none, nc := 0, ma := none, mc := 0} (((((wx.setCell ⟨K, 4, none⟩ (.int .i64 1)).setCell ⟨K, 5, none⟩ (.slice none 0 0)).setCell ⟨K, 6, none⟩ (.int .i64 ld)).setCell ⟨K, 12, none⟩ (.slice none 0 0)).setCell ⟨K, 13, none⟩ (.slice none 0 0))) := hideIt ⟨b4, ⟨⟨nil_own _ _, r4.nd.l, nil_own _ _, nil_own _ _⟩, r4.rs, r4.ro, r4.ms, r4.mo, .inl rfl, .inl rfl, .inl rfl, by simp, r4.sl, by simp, by simp, r4.st, r4.sr, r4.sq⟩, h.hK, l4⟩;have HKP : Hid (Kp K wx (((((wx.setCell ⟨K, 4, none⟩ (.int .i64 1)).setCell ⟨K, 5, none⟩ (.slice none 0 0)).setCell ⟨K, 6, none⟩ (.int .i64 ld)).setCell ⟨K, 12, none⟩ (.slice none 0 0)).setCell ⟨K, 13, none⟩ (.slice none 0 0))) := hideIt (((((Kp.set K wx 4 _).trans (Kp.set K _ 5 _)).trans (Kp.set K _ 6 _)).trans (Kp.set K _ 12 _)).trans (Kp.set K _ 13 _));clear b0 b1 b2 b3 b4 r0 r1 r2 r3 r4 l0 l1 l2 l3 l4 h
 go_enter Tryz.func140, Tryz.ntmps140
 go_wp2
 go_end0
 exact ⟨rfl, HF.out, HKP.out⟩
theorem rec_app2 {X : WkX} {K b : Nat} {w V : World} (h : WK w K X V) (x : RecX) (hb : V.heap[b]? = some (.cells (recE x).toArray 63 (0, 0))) (hx : EntO w.heap.size V x.a x.c x.r.es) (hs : X.R.length < 1000000) : ∃ a c w', (Builtin.append_ #[43, 43] 43 #[.slice X.ra X.R.length X.rc, .slice (some ⟨b, 0, none⟩) 1 1]).run Tryz.prog V = .ok (.slice a (X.R.length + 1) c) w' ∧ Hid (w'.heap[K]? = some (.cells (wkA X) 78 (0, 0)) ∧ WK w K {X with R := X.R ++ [x], ra := a, rc := c} (w'.setCell ⟨K, 14, none⟩ (.slice a (X.R.length + 1) c)) ∧ Kp K V (w'.setCell ⟨K, 14, none⟩ (.slice a (X.R.length + 1) c))) := by
 obtain ⟨v', w', hrun, how, hgr⟩ := app1 (enc := recE) (t := 43) recK rec1 Tryz.underlying43 infoRec rfl (by omega) V w.heap.size (.slice X.ra X.R.length X.rc) X.R x b 1 h.bel.size h.rows.rs hb (by omega) (by unfold maxLen; omega)
 obtain ⟨a', c', rfl⟩ := own_len how;have hlen : (X.R ++ [x]).length = X.R.length + 1 := by simp
 have hbox := box_type hgr h.rows.rs h.box (by decide);refine ⟨a', c', w', by rw [← hlen]; exact hrun, hideIt ⟨hbox, ?_⟩⟩
 have hr := h.rows.addR x hgr hx how hs;have hh := heap_set hbox 14 (.slice a' (X.R.length + 1) c');refine ⟨⟨?_, hr.cell hbox (by decide) (by decide) (by decide) (by decide), h.hK, belowSet _ (below_out h.bel (Out.ofGrown (F := fun k => w.heap.size ≤ k) hgr (fun k hk => (h.rows.rs.lt k hk).1)) (fun _ h => h)) h.hK⟩, (Kp.grown K hgr h.rows.rs).trans (Kp.set K w' 14 _)⟩;rw [hh];unfold wkA;simp only [hlen]
 rfl
set_option maxRecDepth 100000 in
set_option maxHeartbeats 4000000 in
theorem keepTail_is2 {X : WkX} {K : Nat} {w wx : World} (h : WK w K X wx) (i : Int) (hi : i64B i) (hs : X.R.length < 1000000) : Calls Tryz.prog 137 #[.pointer (some ⟨K, 0, none⟩), .int .i64 i] wx fun e w' => ∃ fa fc a c, e = .returned (.tuple #[]) ∧ WK w K {X with R := X.R ++ [⟨⟨2, 0, 0, i, fromL X.d.L i 400, 0, 0, noT⟩, fa, fc⟩], ra := a, rc := c} w' ∧ Kp K wx w' := by
 obtain ⟨⟨k0, k1, k2, k3, k4, k5, k6, k7, k8, k9, k10, k11, k12, k13, k14, k15, k16, k17⟩, kf, kz⟩ := at18 h.box;have HL := hideIt (from_is X.d.L X.gl i 400 wx h.rows.at_.2 ⟨hi, by unfold i64B; omega⟩)
 have hfl := fromL_len X.d.L i 400 (by omega);have HX := hideIt h;clear h;unfold EntsBack logV logA WkX.gl at HL;generalize fromL X.d.L i 400 = F at *
 go_enter Tryz.func137, Tryz.ntmps137
 go_wp2_with fail
 refine HL.out.mono ?_;rintro e w1 ⟨g, rfl, ho, hb⟩;dsimp only;obtain ⟨fa, fc, rfl⟩ := own_len ho;have h1 := HX.out.keep hb;have hbb := below1 w1 (.cells (recE ⟨⟨2, 0, 0, i, F, 0, 0, noT⟩, fa, fc⟩).toArray 63);obtain ⟨a', c', w2, hrun, HW⟩ := rec_app2 (h1.keep hbb) ⟨⟨2, 0, 0, i, F, 0, 0, noT⟩, fa, fc⟩ (heap_alloc_new w1 _) ⟨own_keep (own_base ho HX.out.bel.size) hbb, hfl⟩ hs;have HKP := hideIt (((Kp.below K hb).trans (Kp.below K hbb)).trans HW.out.2.2);unfold recE noT at hrun;dsimp only at hrun;have HRUN := hideIt hrun;obtain ⟨⟨q0, q1, q2, q3, q4, q5, q6, q7, q8, q9, q10, q11, q12, q13, q14, q15, q16, q17⟩, qf, qz⟩ := at18 h1.box;obtain ⟨⟨-, -, -, -, -, -, -, -, -, -, -, -, -, -, r14, -, -, -⟩, rf, rz⟩ := at18 HW.out.1;clear hrun h1 hbb ho hb HX HL k0 k1 k2 k3 k4 k5 k6 k7 k8 k9 k10 k11 k12 k13 k14 k15 k16 k17 kf kz hs hi hfl;generalize F.length = fl at *
 go_wp2_with (at_builtin; go_loud (refine Lib.wpList_append_run _ rfl _ _ _ _ rfl _ _ rfl rfl _ _ HRUN.out ?_))
 clear HRUN;go_wp2
 go_end0
 exact ⟨_, _, _, _, rfl, HW.out.2.1, HKP.out⟩
set_option maxRecDepth 100000 in
set_option maxHeartbeats 8000000 in
theorem keepSnap_is2 {X : WkX} {K : Nat} {w wx : World} (h : WK w K X wx) (hs : X.R.length < 1000000) : Calls Tryz.prog 100 #[.pointer (some ⟨K, 0, none⟩)] wx fun e w' => ∃ a c, e = .returned (.tuple #[]) ∧ WK w K {X with R := X.R ++ [⟨⟨3, 0, 0, 0, [], X.d.L.bi, X.d.L.bt, X.d.tx⟩, none, 0⟩], ra := a, rc := c} w' ∧ Kp K wx w' := by
 obtain ⟨⟨k0, k1, k2, k3, k4, k5, k6, k7, k8, k9, k10, k11, k12, k13, k14, k15, k16, k17⟩, kf, kz⟩ := at18 h.box;have HS := hideIt (fun W (hW : Below wx.heap.size wx W) => snapV_is (h.keep hW));have HR : Hid (∀ W, Below wx.heap.size wx W → (∃ a c w2, (Builtin.append_ #[43, 43] 43 #[.slice X.ra X.R.length X.rc, .slice (some ⟨W.heap.size, 0, none⟩) 1 1]).run Tryz.prog (W.alloc (.cells #[.int .i64 3, .int .i64 0, .int .i64 0, .int .i64 0, .slice none 0 0, .int .i64 X.d.L.bi, .int .i64 X.d.L.bt, .string X.d.tx] 63)) = .ok (.slice a (X.R.length + 1) c) w2 ∧ w2.cell? ⟨K, 14, none⟩ = some (.slice X.ra X.R.length X.rc) ∧ (∀ j, w2.frozen? ⟨K, j, none⟩ = false) ∧ K < w2.heap.size ∧ Hid (WK w K {X with R := X.R ++ [⟨⟨3, 0, 0, 0, [], X.d.L.bi, X.d.L.bt, X.d.tx⟩, none, 0⟩], ra := a, rc := c} (w2.setCell ⟨K, 14, none⟩ (.slice a (X.R.length + 1) c)) ∧ Kp K wx (w2.setCell ⟨K, 14, none⟩ (.slice a (X.R.length + 1) c)))) ∧ W.cell? ⟨K, 14, none⟩ = some (.slice X.ra X.R.length X.rc) ∧ K < W.heap.size) := by
  intro W hW;have h1 := h.keep hW;have hbb := below1 W (.cells (recE ⟨⟨3, 0, 0, 0, [], X.d.L.bi, X.d.L.bt, X.d.tx⟩, none, 0⟩).toArray 63);obtain ⟨a', c', w2, hrun, HW⟩ := rec_app2 (h1.keep hbb) ⟨⟨3, 0, 0, 0, [], X.d.L.bi, X.d.L.bt, X.d.tx⟩, none, 0⟩ (heap_alloc_new W _) (EntO.nil _ _) hs;obtain ⟨⟨-, -, -, -, -, -, -, -, -, -, -, -, -, -, r14, -, -, -⟩, rf, rz⟩ := at18 HW.out.1;obtain ⟨⟨-, -, -, -, -, -, -, -, -, -, -, -, -, -, q14, -, -, -⟩, qf, qz⟩ := at18 h1.box
  exact ⟨⟨a', c', w2, hrun, r14, rf, rz, hideIt ⟨HW.out.2.1, ((Kp.below K hW).trans (Kp.below K hbb)).trans HW.out.2.2⟩⟩, q14, qz⟩
 clear h hs
 go_enter Tryz.func100, Tryz.ntmps100
 go_region_law (first
  | (refine step_run rfl _ _ 43 43 rfl rfl rfl rfl hrun ?_)
  | (go_simp; refine (HS.out wx.drew (Below.refl _ _).drew).mono ?_; rintro e w1 ⟨rfl, hb⟩; dsimp only; obtain ⟨⟨a', c', w2, hrun, r14, rf, rz, HW⟩, q14, qz⟩ := HR.out w1 (below_via (Below.refl _ _).drew hb); clear hb))
 all_goals go_wp2
 all_goals go_end0
 all_goals exact ⟨_, _, rfl, HW.out.1, HW.out.2⟩
set_option maxRecDepth 100000 in
set_option maxHeartbeats 8000000 in
theorem hearW_is2 {X : WkX} {K : Nat} {w wx : World} (h : WK w K X wx) (t : Int) : Calls Tryz.prog 97 #[.pointer (some ⟨K, 0, none⟩), .int .i64 t] wx fun e w' => ∃ X' : WkX, e = .returned (.tuple #[]) ∧ X'.v = hearW X.v t ∧ WK w K X' w' ∧ Kp K wx w' := by
 have HE := hideIt (Tm.hear_is X.d.b X.gb t wx h.rows.at_.1);have hl := hear_few X.d.b t h.rows.sb;have HH : Hid (hearW X.v t = if (Tm.hear2L X.d.b t).1.t = X.d.b.t ∧ (Tm.hear2L X.d.b t).1.v = X.d.b.v then X.v else follW {X.v with d := {X.v.d with b := (Tm.hear2L X.d.b t).1}} 0) := hideIt rfl;obtain ⟨⟨k0, k1, k2, k3, k4, k5, k6, k7, k8, k9, k10, k11, k12, k13, k14, k15, k16, k17⟩, kf, kz⟩ := at18 h.box;have HX0 := hideIt h;clear h;unfold Tm.BalErr Tm.balV WkX.gb at HE;generalize Tm.hear2L X.d.b t = Z at *
 go_enter Tryz.func97, Tryz.ntmps97
 go_wp2_with fail
 refine HE.out.mono ?_;rintro e w1 ⟨g, rfl, ho, hb⟩;dsimp only;obtain ⟨fa, fc, rfl⟩ := Tm.own_len ho;have HN := hideIt (apart_new HX0.out.rows.nd.n ho);have HM := hideIt (apart_new HX0.out.rows.nd.m ho);have hbb := below1 w1 (.cells #[.int .i64 Z.1.t, .int .i64 Z.1.v, .int .i64 Z.1.r, .slice fa Z.1.l.length fc] 34);have HX := hideIt (((HX0.out.keep hb).keep hbb).keep (Below.refl _ _).drew);have HO := hideIt (own_keep (own_keep (own_base ho HX0.out.bel.size) hbb) (Below.refl _ _).drew);have HP := hideIt (heap_alloc_new w1 (.cells #[.int .i64 Z.1.t, .int .i64 Z.1.v, .int .i64 Z.1.r, .slice fa Z.1.l.length fc] 34));have HKP := hideIt (((Kp.below K hb).trans (Kp.below K hbb)).trans (Kp.below K (Below.refl _ _).drew));clear ho hb hbb HX0 HE k0 k1 k2 k3 k4 k5 k6 k7 k8 k9 k10 k11 k12 k13 k14 k15 k16 k17 kf kz
 go_upto_region 1 with fail
 generalize (World.alloc w1 _) = W0 at *;generalize w1.heap.size = P at *;obtain ⟨⟨k0, k1, k2, k3, k4, k5, k6, k7, k8, k9, k10, k11, k12, k13, k14, k15, k16, k17⟩, kf, kz⟩ := at18 (w := W0) HX.out.box;have pz := (Array.getElem?_eq_some_iff.1 HP.out).1;have p0 : W0.cell? ⟨P, 0, none⟩ = some (.int .i64 Z.1.t) := by rw [Tm.cell_at HP.out]; rfl
 have p1 : W0.cell? ⟨P, 1, none⟩ = some (.int .i64 Z.1.v) := by rw [Tm.cell_at HP.out]; rfl
 have p2 : W0.cell? ⟨P, 2, none⟩ = some (.int .i64 Z.1.r) := by rw [Tm.cell_at HP.out]; rfl
 have p3 : W0.cell? ⟨P, 3, none⟩ = some (.slice fa Z.1.l.length fc) := by rw [Tm.cell_at HP.out]; rfl
 by_cases h1 : Z.1.t = X.d.b.t
 ·have b1 : (Z.1.t == X.d.b.t) = true := beq_iff_eq.2 h1
  by_cases h2 : Z.1.v = X.d.b.v
  ·have b2 : (Z.1.v == X.d.b.v) = true := beq_iff_eq.2 h2;have H12 := hideIt (And.intro h1 h2);clear h1 h2
   go_region
   go_wp2;exact bodyPost_ret (v := .tuple #[]) (by simp [results, Tryz.results97, go_sem]) rfl ⟨X, rfl, by rw [HH.out, if_pos H12.out], HX.out, HKP.out⟩
  ·have b2 : (Z.1.v == X.d.b.v) = false := beq_eq_false_iff_ne.2 h2;have H12 := hideIt h2;clear h1 h2;have HU := hideIt (follow_is2 (HX.out.setBal Z.1 fa fc HO.out hl HN.out HM.out) 0)
   go_region
   go_wp2_with fail
   refine HU.out.mono ?_;rintro e w2 ⟨rfl, hw, hkp⟩;dsimp only;have HW := hideIt (And.intro hw ((((((HKP.out).trans (Kp.set K W0.drew 2 _)).trans (Kp.set K _ 3 _)).trans (Kp.set K _ 4 _)).trans (Kp.set K _ 5 _)).trans hkp));clear hw HU hkp;go_wp2
   go_end0
   refine ⟨_, rfl, ?_, HW.out.1, HW.out.2⟩;rw [HH.out];rw [if_neg (fun hh => H12.out hh.2)]
   rfl
 ·have b1 : (Z.1.t == X.d.b.t) = false := beq_eq_false_iff_ne.2 h1;have H12 := hideIt h1;clear h1;have HU := hideIt (follow_is2 (HX.out.setBal Z.1 fa fc HO.out hl HN.out HM.out) 0)
  go_region
  go_wp2_with fail
  refine HU.out.mono ?_;rintro e w2 ⟨rfl, hw, hkp⟩;dsimp only;have HW := hideIt (And.intro hw ((((((HKP.out).trans (Kp.set K W0.drew 2 _)).trans (Kp.set K _ 3 _)).trans (Kp.set K _ 4 _)).trans (Kp.set K _ 5 _)).trans hkp));clear hw HU hkp;go_wp2
  go_end0
  refine ⟨_, rfl, ?_, HW.out.1, HW.out.2⟩;rw [HH.out];rw [if_neg (fun hh => H12.out hh.1)]
  rfl
theorem WK.logStay {X : WkX} {K : Nat} {w wx : World} (h : WK w K X wx) (v7 v8 v9 v10 : Value) : ((((wx.setCell ⟨K, 7, none⟩ v7).setCell ⟨K, 8, none⟩ v8).setCell ⟨K, 9, none⟩ v9).setCell ⟨K, 10, none⟩ v10).ownsRow w.heap.size 55 3 X.gl X.d.L.l.length (entC X.d.L.l) :=
 own_cell (own_cell (own_cell (own_cell h.rows.nd.l h.box (by decide)) (heap_set h.box 7 v7) (by decide)) (heap_set (heap_set h.box 7 v7) 8 v8) (by decide)) (heap_set (heap_set (heap_set h.box 7 v7) 8 v8) 9 v9) (by decide)
theorem acc_len6 {L : LogV} (pi pt : Int) (es : List EntV) (cc : Int) (h : L.l.length ≤ 1000000) : (accL L pi pt es cc).1.l.length ≤ 1000000 := by
 rcases acc_len L pi pt es cc with h1 | h1 <;> omega
set_option maxRecDepth 100000 in
set_option maxHeartbeats 16000000 in
theorem acceptK_is {X : WkX} {K : Nat} {w wx : World} (h : WK w K X wx) (y : MsgX) (hm : EGot wx (.slice y.a y.m.es.length y.c) y.m.es) (hL : mayB X.d.L = true) (hpi : 0 ≤ y.m.pi ∧ y.m.pi ≤ 1000000) (hs : X.M.length < 1000000) (hR : X.R.length < 1000000) : Calls Tryz.prog 165 #[.pointer (some ⟨K, 0, none⟩), .agg (msgE y).toArray] wx fun r w' => ∃ Y' : WkX, r = .returned (.tuple #[]) ∧ Y'.v = accW X.v y.m ∧ WK w K Y' w' := by
 have HG := hideIt (hm.keep (below1 wx (.cells (msgE y).toArray 50)));have hlA := acc_len6 y.m.pi y.m.pt y.m.es y.m.cm h.rows.sl;have HV1 : Hid ((accL X.d.L y.m.pi y.m.pt y.m.es y.m.cm).2.2.2 ≠ 0 → accW X.v y.m = answW X.v y.m false X.d.L.cm) := hideIt (acc_c1 (W := X.v) (m := y.m));have HV2 : Hid (¬ (accL X.d.L y.m.pi y.m.pt y.m.es y.m.cm).2.2.2 ≠ 0 → (accL X.d.L y.m.pi y.m.pt y.m.es y.m.cm).2.2.1 = false → accW X.v y.m = answW X.v y.m false (min (lastL X.d.L).1 (y.m.pi - 1))) := hideIt (acc_c2 (W := X.v) (m := y.m));have HV3 : Hid (¬ (accL X.d.L y.m.pi y.m.pt y.m.es y.m.cm).2.2.2 ≠ 0 → ¬ (accL X.d.L y.m.pi y.m.pt y.m.es y.m.cm).2.2.1 = false → accW X.v y.m = answW (if sameN X.d.L.l (accL X.d.L y.m.pi y.m.pt y.m.es y.m.cm).1.l < max X.d.L.l.length (accL X.d.L y.m.pi y.m.pt y.m.es y.m.cm).1.l.length then tailW {X.v with d := {X.d with L := (accL X.d.L y.m.pi y.m.pt y.m.es y.m.cm).1}} ((accL X.d.L y.m.pi y.m.pt y.m.es y.m.cm).1.bi + 1 + (sameN X.d.L.l (accL X.d.L y.m.pi y.m.pt y.m.es y.m.cm).1.l : Nat)) else {X.v with d := {X.d with L := (accL X.d.L y.m.pi y.m.pt y.m.es y.m.cm).1}}) y.m true (accL X.d.L y.m.pi y.m.pt y.m.es y.m.cm).2.1) := hideIt (acc_c3 (W := X.v) (m := y.m));have HAL : Hid ((accL X.d.L y.m.pi y.m.pt y.m.es y.m.cm).2.2.2 = 0 → (accL X.d.L y.m.pi y.m.pt y.m.es y.m.cm).1.bi = X.d.L.bi) := hideIt (fun h0 => (acc_log hL h0).2.1);have hin := mayB_in hL;have hli := lastL_in X.d.L;have hsl := h.rows.sl;have HV : Hid True := hideIt trivial;clear hm;have HX0 := hideIt (h.keep (below1 wx (.cells (msgE y).toArray 50)));have HP := hideIt (heap_alloc_new wx (.cells (msgE y).toArray 50));have hKP : K ≠ wx.heap.size := by
  have := (Array.getElem?_eq_some_iff.1 h.box).1;omega
 clear h;unfold msgE at *
 go_enter Tryz.func165, Tryz.ntmps165
 go_upto_region 1 with fail
 generalize (World.alloc wx _) = W0 at *;generalize wx.heap.size = P at *;have HCY : Hid (∀ W, Below W0.heap.size W0 W → Calls Tryz.prog 195 #[.agg #[.int .i64 X.d.L.bi, .int .i64 X.d.L.bt, .slice X.la X.d.L.l.length X.lc, .int .i64 X.d.L.cm], .agg #[.int .i64 y.m.pi, .int .i64 y.m.pt], .slice y.a y.m.es.length y.c, .int .i64 y.m.cm] W fun r w' => ∃ a c, r = .returned (.tuple #[.agg #[.int .i64 (accL X.d.L y.m.pi y.m.pt y.m.es y.m.cm).1.bi, .int .i64 (accL X.d.L y.m.pi y.m.pt y.m.es y.m.cm).1.bt, .slice a (accL X.d.L y.m.pi y.m.pt y.m.es y.m.cm).1.l.length c, .int .i64 (accL X.d.L y.m.pi y.m.pt y.m.es y.m.cm).1.cm], .int .i64 (accL X.d.L y.m.pi y.m.pt y.m.es y.m.cm).2.1, .bool (accL X.d.L y.m.pi y.m.pt y.m.es y.m.cm).2.2.1, .int .i64 (accL X.d.L y.m.pi y.m.pt y.m.es y.m.cm).2.2.2]) ∧ Hid (w'.ownsRow W0.heap.size 55 3 (.slice a (accL X.d.L y.m.pi y.m.pt y.m.es y.m.cm).1.l.length c) (accL X.d.L y.m.pi y.m.pt y.m.es y.m.cm).1.l.length (entC (accL X.d.L y.m.pi y.m.pt y.m.es y.m.cm).1.l) ∧ Below W0.heap.size W0 w' ∧ Below W.heap.size W w') ∧ (w'.cell? ⟨K, 7, none⟩ = some (.int .i64 X.d.L.bi) ∧ w'.cell? ⟨K, 8, none⟩ = some (.int .i64 X.d.L.bt) ∧ w'.cell? ⟨K, 9, none⟩ = some (.slice X.la X.d.L.l.length X.lc) ∧ w'.cell? ⟨K, 10, none⟩ = some (.int .i64 X.d.L.cm) ∧ w'.cell? ⟨P, 4, none⟩ = some (.int .i64 y.m.pi) ∧ w'.cell? ⟨P, 5, none⟩ = some (.int .i64 y.m.pt) ∧ w'.cell? ⟨P, 6, none⟩ = some (.slice y.a y.m.es.length y.c) ∧ w'.cell? ⟨P, 7, none⟩ = some (.int .i64 y.m.cm))) := by
  intro W hW;refine (accept_is X.d.L X.gl (.slice y.a y.m.es.length y.c) y.m.pi y.m.pt y.m.es y.m.cm W (HX0.out.keep hW).rows.at_.2 (HG.out.keep hW)).mono ?_;rintro r w' ⟨g, rfl, ho, hbl⟩;obtain ⟨a, c, rfl⟩ := own_len ho;have hb2 := below_via hW hbl;obtain ⟨⟨k0, k1, k2, k3, k4, k5, k6, k7, k8, k9, k10, k11, k12, k13, k14, k15, k16, k17⟩, kf, kz⟩ := at18 (HX0.out.keep hb2).box;obtain ⟨⟨m0, m1, m2, m3, m4, m5, m6, m7, m8, m9, m10, m11, m12⟩, mf, mz⟩ := at13 (blkK HP.out hb2)
  exact ⟨a, c, rfl, hideIt ⟨own_base ho hW.size, hb2, hbl⟩, k7, k8, k9, k10, m4, m5, m6, m7⟩
 have ZF : Hid (∀ w', Below (W0.alloc (.cells #[.int .i64 0, .int .i64 0, .slice none 0 0, .int .i64 0] 36)).heap.size (W0.alloc (.cells #[.int .i64 0, .int .i64 0, .slice none 0 0, .int .i64 0] 36)) w' → (w'.cell? ⟨W0.heap.size, 0, none⟩ = some (.int .i64 0) ∧ w'.cell? ⟨W0.heap.size, 1, none⟩ = some (.int .i64 0) ∧ w'.cell? ⟨W0.heap.size, 2, none⟩ = some (.slice none 0 0) ∧ w'.cell? ⟨W0.heap.size, 3, none⟩ = some (.int .i64 0)) ∧ (∀ j, w'.frozen? ⟨W0.heap.size, j, none⟩ = false) ∧ W0.heap.size < w'.heap.size) := by
  intro w' hb;exact at4 ((hb.block W0.heap.size (by simp)).trans (heap_alloc_new W0 _))
 obtain ⟨⟨k0, k1, k2, k3, k4, k5, k6, k7, k8, k9, k10, k11, k12, k13, k14, k15, k16, k17⟩, kf, kz⟩ := at18 HX0.out.box;obtain ⟨⟨m0, m1, m2, m3, m4, m5, m6, m7, m8, m9, m10, m11, m12⟩, mf, mz⟩ := at13 HP.out;have y1 : W0.heap.size ≠ K := by omega
 have y2 : W0.heap.size ≠ P := by omega
 have y3 : K ≠ W0.heap.size := by omega
 have y4 : P ≠ W0.heap.size := by omega
 clear k0 k1 k2 k3 k4 k5 k6 k11 k12 k13 k14 k15 k16 k17 m0 m1 m2 m3 m8 m9 m10 m11 m12 HG;generalize accL X.d.L y.m.pi y.m.pt y.m.es y.m.cm = A at *
 go_cut [4, 5, 6, 7] from 12 to 27 (fun x y z u wy => ∃ B a c, x = .pointer (some ⟨B, 0, none⟩) ∧ y = .int .i64 A.2.1 ∧ z = .bool A.2.2.1 ∧ u = .int .i64 A.2.2.2 ∧ Hid (LBox W0 B A.1 a c wy))
 case first =>
  clear HV
  go_region_held3 (fun W => W.cell? ⟨K, 7, none⟩ = some (.int .i64 X.d.L.bi) ∧ W.cell? ⟨K, 8, none⟩ = some (.int .i64 X.d.L.bt) ∧ W.cell? ⟨K, 9, none⟩ = some (.slice X.la X.d.L.l.length X.lc) ∧ W.cell? ⟨K, 10, none⟩ = some (.int .i64 X.d.L.cm) ∧ W.cell? ⟨P, 4, none⟩ = some (.int .i64 y.m.pi) ∧ W.cell? ⟨P, 5, none⟩ = some (.int .i64 y.m.pt) ∧ W.cell? ⟨P, 6, none⟩ = some (.slice y.a y.m.es.length y.c) ∧ W.cell? ⟨P, 7, none⟩ = some (.int .i64 y.m.cm)) (go_keep) (first | (go_at_call 195; refine (HCY.out (W0.alloc (.cells #[.int .i64 0, .int .i64 0, .slice none 0 0, .int .i64 0] 36)).drew (below1 _ _).drew).mono ?_; rintro r w5 ⟨a, c, rfl, HQ, ⟨i0, i1, i2, i3, i4, i5, i6, i7⟩⟩; obtain ⟨⟨n0, n1, n2, n3⟩, nf, nz⟩ := ZF.out w5 (below_via (Below.refl _ _).drew HQ.out.2.2)) | (go_at_call 195; refine (HCY.out W0.drew (Below.refl _ _).drew).mono ?_; rintro r w5 ⟨a, c, rfl, HQ, ⟨i0, i1, i2, i3, i4, i5, i6, i7⟩⟩))
  all_goals go_wp2_with fail
  all_goals go_meet
  ·exact ⟨w5.heap.size, a, c, rfl, rfl, rfl, rfl, hideIt (LBox.new HQ.out.1 HQ.out.2.1)⟩
  ·have hz := (HQ.out.2.2.block W0.heap.size (show W0.heap.size < (W0.alloc (.cells #[.int .i64 0, .int .i64 0, .slice none 0 0, .int .i64 0] 36)).heap.size by simp)).trans (heap_alloc_new W0 _)
   exact ⟨W0.heap.size, a, c, rfl, rfl, rfl, rfl, hideIt (LBox.put hz HQ.out.1 HQ.out.2.1 (Nat.le_refl _))⟩
 case rest =>
  obtain ⟨B, a, c, rfl, rfl, rfl, rfl, HB⟩ := hcut;clear HCY ZF y1 y2 y3 y4 k7 k8 k9 k10 kf kz m4 m5 m6 m7 mf mz HV;have HX3 := hideIt (HX0.out.keep HB.out.bel);have HP3 := hideIt (blkK HP.out HB.out.bel)
  by_cases hz0 : A.2.2.2 = 0
  ·have hz1 : (A.2.2.2 == 0) = true := beq_iff_eq.2 hz0;have HBI := hideIt (HAL.out hz0);cases hok : A.2.2.1
   ·have HV := hideIt (HV2.out (fun h => h hz0) hok);clear HV1 HV2 HV3 HAL hz0 HBI;have HL := hideIt (lastW_is (HX3.out.keep (Below.refl _ _).drew));obtain ⟨⟨m0, m1, m2, m3, m4, m5, m6, m7, m8, m9, m10, m11, m12⟩, mf, mz⟩ := at13 HP3.out;have hw1 : IntKind.i64.wrap (y.m.pi - 1) = y.m.pi - 1 := by rw [IntKind.wrap_i64]; omega
    have HAN := hideIt (fun W (hW : Below wc.drew.heap.size wc.drew W) => answer_is ((HX3.out.keep (Below.refl _ _).drew).keep hW) y false (min (lastL X.d.L).1 (y.m.pi - 1)) hs);have HPP : Hid (∀ W, Below wc.drew.heap.size wc.drew W → W.heap[P]? = some (.cells #[.int .i64 y.m.kind, .int .i64 y.m.frm, .int .i64 y.m.dst, .int .i64 y.m.term, .int .i64 y.m.pi, .int .i64 y.m.pt, .slice y.a y.m.es.length y.c, .int .i64 y.m.cm, .bool y.m.ok, .int .i64 y.m.mtch, .int .i64 y.m.si, .int .i64 y.m.st, .string y.m.tx] 50 (0, 0))) := hideIt (fun W hW => blkK (w := wc.drew) HP3.out hW);unfold msgE at HAN
    go_upto_region 5 with fail
    go_region_law (first
     | (go_simp; refine HL.out.mono ?_; rintro r w7 ⟨rfl, hb7⟩; dsimp only; have HB7 := hideIt hb7; obtain ⟨⟨q0, q1, q2, q3, q4, q5, q6, q7, q8, q9, q10, q11, q12⟩, qf, qz⟩ := at13 (HPP.out w7 hb7); clear hb7)
     | (go_simp; refine (HAN.out w7 HB7.out).mono ?_; rintro r w9 ⟨a9, c9, rfl, hw⟩; dsimp only; have HW := hideIt hw; clear hw))
    all_goals go_wp2
    all_goals (refine bodyPost_ret (v := .tuple #[]) (by simp [results, Tryz.results165, go_sem]) rfl ?_)
    all_goals ((first | refine ⟨_, rfl, ?_, HW.out⟩ | refine ⟨rfl, _, ?_, HW.out⟩); rw [HV.out]; simp [WkX.v, answW, tellW, msg0, noT])
   ·have HV := hideIt (HV3.out (fun h => h hz0) (by rw [hok]; simp))
    clear HV1 HV2 HV3 HAL hz0
    -- the log as it was lies in a box of its own
    have hbl := below1 wc (.cells #[.int .i64 X.d.L.bi, .int .i64 X.d.L.bt, .slice X.la X.d.L.l.length X.lc, .int .i64 X.d.L.cm] 36);have HD := hideIt (heap_alloc_new wc (.cells #[.int .i64 X.d.L.bi, .int .i64 X.d.L.bt, .slice X.la X.d.L.l.length X.lc, .int .i64 X.d.L.cm] 36));have HX4 := hideIt (HX3.out.keep hbl);have HB4 := hideIt (blkK HB.out.box hbl);have HO4 := hideIt (own_keep HB.out.own (show Below wc.heap.size wc _ from hbl));have HP4 := hideIt (blkK HP3.out hbl);obtain ⟨⟨k0, k1, k2, k3, k4, k5, k6, k7, k8, k9, k10, k11, k12, k13, k14, k15, k16, k17⟩, kf, kz⟩ := at18 HX3.out.box;have hKD : K ≠ wc.heap.size := by omega
    have hBD : B ≠ wc.heap.size := by
     have := (Array.getElem?_eq_some_iff.1 HB.out.box).1;omega
    go_upto_region 7 with fail
    generalize hW4 : (World.alloc wc _) = W4 at *;generalize wc.heap.size = D at *;clear k0 k1 k2 k3 k4 k5 k6 k7 k8 k9 k10 k11 k12 k13 k14 k15 k16 k17 kf kz;obtain ⟨⟨k0, k1, k2, k3, k4, k5, k6, k7, k8, k9, k10, k11, k12, k13, k14, k15, k16, k17⟩, kf, kz⟩ := at18 HX4.out.box;obtain ⟨⟨n0, n1, n2, n3⟩, nf, nz⟩ := at4 HB4.out;have hBK : B ≠ K := by
     intro e1;have h1 := HX4.out.box;have h2 := HB4.out;rw [e1, h1] at h2
     simp at h2
    have HX5 := hideIt (HX4.out.setLog A.1 a c (own_base HO4.out HX0.out.bel.size) hlA);have HS5 := hideIt (HX4.out.logStay (.int .i64 A.1.bi) (.int .i64 A.1.bt) (.slice a A.1.l.length c) (.int .i64 A.1.cm));have hDK : D ≠ K := fun e1 => hKD e1.symm
    have hPK : P ≠ K := fun e1 => hKP e1.symm
    have HD5 := hideIt (setOther (b := K) (j := 10) (.int .i64 A.1.cm) (setOther (b := K) (j := 9) (.slice a A.1.l.length c) (setOther (b := K) (j := 8) (.int .i64 A.1.bt) (setOther (b := K) (j := 7) (.int .i64 A.1.bi) HD.out hDK) hDK) hDK) hDK);have HB5 := hideIt (setOther (b := K) (j := 10) (.int .i64 A.1.cm) (setOther (b := K) (j := 9) (.slice a A.1.l.length c) (setOther (b := K) (j := 8) (.int .i64 A.1.bt) (setOther (b := K) (j := 7) (.int .i64 A.1.bi) HB4.out hBK) hBK) hBK) hBK);have HP5 := hideIt (setOther (b := K) (j := 10) (.int .i64 A.1.cm) (setOther (b := K) (j := 9) (.slice a A.1.l.length c) (setOther (b := K) (j := 8) (.int .i64 A.1.bt) (setOther (b := K) (j := 7) (.int .i64 A.1.bi) HP4.out hPK) hPK) hPK) hPK)
    go_upto_region 8 with fail
    generalize (World.setCell _ ⟨K, 10, none⟩ _) = W5 at *;clear n0 n1 n2 n3 nf nz k0 k1 k2 k3 k4 k5 k6 k7 k8 k9 k10 k11 k12 k13 k14 k15 k16 k17 kf kz HX4 HB4 HO4 HP4 HD hW4 HB HX3 HP3 hbl;obtain ⟨⟨n0, n1, n2, n3⟩, nf, nz⟩ := at4 HD5.out;obtain ⟨⟨q0, q1, q2, q3⟩, qf, qz⟩ := at4 HB5.out;have hlA2 : ({X.d with L := A.1} : NodeV).L.l.length ≤ 1000000 := hlA;have HT := hideIt (turnedAt_is X.d.L A.1 X.gl (.slice a A.1.l.length c) W5 (own_egot HS5.out (by omega)) (HX5.out.rows.at_.2) hsl hlA (by rw [HBI.out]; exact hin.1))
    unfold logV logA WkX.gl at HT
    go_wp2_with fail
    refine HT.out.mono ?_;rintro r w6 ⟨rfl, hb6⟩;dsimp only;have HX6 := hideIt (HX5.out.keep hb6);have HP6 := hideIt (blkK HP5.out hb6);have hsn := sameN_le X.d.L.l A.1.l;clear hb6 HT HX5 HP5 HS5 HD5 HB5 n0 n1 n2 n3 nf nz q0 q1 q2 q3 qf qz;generalize sameN X.d.L.l A.1.l = sn at *
    by_cases ht : sn < max X.d.L.l.length A.1.l.length
    ·have hd : decide (sn < max X.d.L.l.length A.1.l.length) = true := decide_eq_true ht;rw [if_pos ht] at HV;have HKT := hideIt (keepTail_is2 HX6.out (A.1.bi + 1 + (sn : Int)) (by unfold i64B; rw [HBI.out]; omega) (by first | omega | (simp only; omega)))
     clear ht
     go_wp2_with fail
     refine HKT.out.mono ?_;rintro r w7 ⟨fa, fc, a7, c7, rfl, hw7, hkp⟩;dsimp only;have HX7 := hideIt hw7;have HP7 := hideIt (hkp P _ _ HP6.out hPK (by decide));clear hw7 hkp HKT HX6 HP6;have HAN := hideIt (answer_is HX7.out y true A.2.1 (by first | omega | (simp only; omega)))
     unfold msgE at HAN;obtain ⟨⟨m0, m1, m2, m3, m4, m5, m6, m7, m8, m9, m10, m11, m12⟩, mf, mz⟩ := at13 HP7.out
     go_wp2_with fail
     refine HAN.out.mono ?_;rintro r w9 ⟨a9, c9, rfl, hw⟩;dsimp only;have HW := hideIt hw;clear hw HAN;go_wp2
     go_end0
     first
      | refine ⟨_, rfl, ?_, HW.out⟩
      | refine ⟨rfl, _, ?_, HW.out⟩
     rw [HV.out]
     simp [WkX.v, answW, tellW, tailW, msg0, noT]
    ·have hd : decide (sn < max X.d.L.l.length A.1.l.length) = false := decide_eq_false ht;rw [if_neg ht] at HV;clear ht;have HAN := hideIt (answer_is HX6.out y true A.2.1 (by first | omega | (simp only; omega)))
     unfold msgE at HAN;obtain ⟨⟨m0, m1, m2, m3, m4, m5, m6, m7, m8, m9, m10, m11, m12⟩, mf, mz⟩ := at13 HP6.out
     go_wp2_with fail
     refine HAN.out.mono ?_;rintro r w9 ⟨a9, c9, rfl, hw⟩;dsimp only;have HW := hideIt hw;clear hw HAN;go_wp2
     go_end0
     first
      | refine ⟨_, rfl, ?_, HW.out⟩
      | refine ⟨rfl, _, ?_, HW.out⟩
     rw [HV.out]
     simp [WkX.v, answW, tellW, msg0, noT]
  ·have hz1 : (A.2.2.2 == 0) = false := beq_eq_false_iff_ne.2 hz0;have HV := hideIt (HV1.out hz0);clear HV1 HV2 HV3 HAL hz0;obtain ⟨⟨k0, k1, k2, k3, k4, k5, k6, k7, k8, k9, k10, k11, k12, k13, k14, k15, k16, k17⟩, kf, kz⟩ := at18 HX3.out.box;obtain ⟨⟨m0, m1, m2, m3, m4, m5, m6, m7, m8, m9, m10, m11, m12⟩, mf, mz⟩ := at13 HP3.out;have HAN := hideIt (answer_is (HX3.out.keep (Below.refl _ _).drew) y false X.d.L.cm hs);unfold msgE at HAN
   go_upto_region 3 with fail
   go_region_law (first
    | (go_simp; refine (HAN.out).mono ?_; rintro r w9 ⟨a9, c9, rfl, hw⟩; dsimp only; have HW := hideIt hw; clear hw))
   all_goals go_wp2
   all_goals (refine bodyPost_ret (v := .tuple #[]) (by simp [results, Tryz.results165, go_sem]) rfl ?_)
   all_goals ((first | refine ⟨_, rfl, ?_, HW.out⟩ | refine ⟨rfl, _, ?_, HW.out⟩); rw [HV.out]; simp [WkX.v, answW, tellW, msg0, noT])
end Go.Proofs.YtcaehfkfohianaaGreat
