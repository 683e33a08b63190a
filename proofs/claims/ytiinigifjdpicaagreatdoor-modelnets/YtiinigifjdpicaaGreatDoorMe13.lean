/- Texts of my own, laid together. -/
import Derived.Test.YtiinigifjdpicaaGreatDoorMe06
import Derived.Test.YtiinigifjdpicaaGreatDoorMe12
import Derived.Test.YtiinigifjdpicaaGreatDoorPx08
import Derived.Test.YtiinigifjdpicaaGreatDoorMe11
namespace Go.Proofs.YtiinigifjdpicaaGreatDoor
open Go.RowKit
set_option linter.all false
abbrev ReqV := Se.ReqV
structure AnsV where
 code : Int
 num : Int
 am : List AmtV
 fl : List FillV
structure StV where
 a : List AccV
 l : List LaneV
 s : Nat → Int
 num : Int
 am : List AmtV
 fl : List FillV
abbrev wr64 (x : Int) : Int := RowKit.wrap64 x
def assQ (q : Int) (e : AmV) : Nat := (if e.asset = 1 then q else e.asset).toNat
def addT (q : Int) : List AmV → (Nat → Int) → (Nat → Int)
 | [], s => s
 | e :: l, s => addT q l (Lg.upS s (assQ q e) (wr64 (s (assQ q e) + e.n)))
def aboveB {α : Type} (f : α → Int) (l : List α) (most : Int) : Bool := l.any (fun e => decide (most < f e))
def payF : List AmtV → AccV → AccV × Int
 | [], A => (A, 0)
 | e :: l, A => if (Lg.credL A e.k e.n).2 = 0 then payF l (Lg.credL A e.k e.n).1 else (A, (Lg.credL A e.k e.n).2)
def brA_ (r : ReqV) : Int := if r.side = 1 then 0 else r.lane
def brN_ (r : ReqV) : Int := if r.side = 1 then r.price * r.n else r.n
def accD (S : StV) (i : Nat) : AccV := S.a.getD i Lg.zA
def lanD (S : StV) (i : Nat) : LaneV := S.l.getD i zLane
def stAcc (r : ReqV) (i : Nat) (S : StV) : StV × Int :=
 if r.kind = 1 then ({S with a := S.a.set i (Lg.credL (accD S i) r.asset r.n).1}, (Lg.credL (accD S i) r.asset r.n).2)
 else if r.kind = 3 then ({S with a := S.a.set i (Lg.debL (accD S i) (brA_ r) (brN_ r)).1}, (Lg.debL (accD S i) (brA_ r) (brN_ r)).2)
 else if r.kind = 2 then ({S with a := S.a.set i (Lg.debL (accD S i) r.asset r.n).1}, (Lg.debL (accD S i) r.asset r.n).2)
 else if r.kind = 7 then (if aboveB Lg.AmtV.n (accD S i).l 4503599627370496 || decide (999999900 < (accD S i).ct) then (S, 6) else ({S with a := S.a.set i (payF (Lg.pre S.s 4) (accD S i)).1, am := Lg.pre S.s 4}, (payF (Lg.pre S.s 4) (accD S i)).2))
 else if r.kind = 8 then ({S with am := (accD S i).l}, 0)
 else (S, 0)
def stLan (r : ReqV) (i : Nat) (q : Int) (S : StV) : StV × Int :=
 if r.kind = 3 then ({S with l := S.l.set i (placeL (lanD S i) r.acct r.side r.price r.n r.now).1, fl := (placeL (lanD S i) r.acct r.side r.price r.n r.now).2.1, num := (placeL (lanD S i) r.acct r.side r.price r.n r.now).2.2.1}, (placeL (lanD S i) r.acct r.side r.price r.n r.now).2.2.2)
 else if r.kind = 4 then ({S with l := S.l.set i (canR (lanD S i) r.acct r.n).1, num := (canR (lanD S i) r.acct r.n).2.1}, (canR (lanD S i) r.acct r.n).2.2)
 else if r.kind = 5 then ({S with l := S.l.set i (calR (lanD S i)).1}, (calR (lanD S i)).2)
 else if r.kind = 6 then ({S with l := S.l.set i (uncR (lanD S i)).1, fl := (uncR (lanD S i)).2.1}, (uncR (lanD S i)).2.2)
 else if r.kind = 7 then (if decide ((takR (lanD S i) r.acct).2.2 ≠ 0) || aboveB AmV.n (takR (lanD S i) r.acct).2.1 1125899906842624 then (S, 6) else ({S with l := S.l.set i (takR (lanD S i) r.acct).1, s := addT q (takR (lanD S i) r.acct).2.1 S.s}, 0))
 else (S, 0)
def stAt (r : ReqV) (k : Int × Int) (S : StV) : StV × Int :=
 if r.kind = 9 then (S, 0) else if k.1 = 1 then stAcc r (k.2 - 1).toNat S else stLan r (k.2 - 1).toNat k.2 S
def runT (r : ReqV) : List (Int × Int) → StV → StV × Int
 | [], S => (S, 0)
 | k :: ks, S => if (stAt r k S).2 = 0 then runT r ks (stAt r k S).1 else stAt r k S
def turL (r : ReqV) : List (Int × Int) := if r.kind = 7 then (Se.keysB r).drop 1 ++ (Se.keysB r).take 1 else Se.keysB r
def mayM (M : MdlV) : Bool := decide (M.a.length = 8) && (decide (M.l.length = 3) && (M.a.all Lg.accB && M.l.all chkB))
def st0 (M : MdlV) : StV := ⟨M.a, M.l, fun _ => 0, 0, [], []⟩
def doM (M : MdlV) (r : ReqV) : MdlV × AnsV :=
 if mayM M && Se.fitsB r then (if (runT r (turL r) (st0 M)).2 = 0 then (⟨(runT r (turL r) (st0 M)).1.a, (runT r (turL r) (st0 M)).1.l⟩, ⟨0, (runT r (turL r) (st0 M)).1.num, (runT r (turL r) (st0 M)).1.am, (runT r (turL r) (st0 M)).1.fl⟩) else (M, ⟨6, 0, [], []⟩))
 else (M, ⟨1, 0, [], []⟩)
def Sml (L : LaneV) : Prop := L.bids.length ≤ 40 ∧ L.asks.length ≤ 40 ∧ L.owed.length ≤ 40
theorem sml_chk {L : LaneV} (h : chkB L = true) : Sml L := by
 have hm := chk_may h;have ho := hm.ow;unfold OkO at ho
 exact ⟨hm.lb, hm.la, by have := ho.1; omega⟩
theorem sml_zero : Sml ⟨false, 0, [], [], []⟩ := by unfold Sml; simp
theorem place_zero {L : LaneV} {acc s price n : Int} {now : Bool} (h : (placeL L acc s price n now).2.2.2 ≠ 0) : (placeL L acc s price n now).1 = zLane ∧ (placeL L acc s price n now).2.1 = [] := ⟨(place_bad h).1, (place_bad h).2.1⟩
theorem can_zero {L : LaneV} {acc id : Int} (h : (canR L acc id).2.2 ≠ 0) : (canR L acc id).1 = zLane := by
 unfold canR at h ⊢
 split
 ·rename_i hk
  rw [if_pos hk] at h
  split
  ·rfl
  ·rename_i Mx hc
   rw [hc] at h;simp only at h ⊢
   split
   ·rfl
   ·rename_i ho
    rw [if_neg ho] at h
    simp at h
 ·rfl
theorem cal_may {L : LaneV} (h : (calR L).2 = 0) : chkB L = true ∧ L.call = false ∧ chkB (calR L).1 = true ∧ (calR L).1 = ⟨true, L.next, L.bids, L.asks, L.owed⟩ := by
 unfold calR at h ⊢
 split
 ·rename_i h0
  have hk := rf_chk h0;refine ⟨hk.1, hk.2, ?_, rfl⟩;have hb := (chk_bok _).1 hk.1;exact (chk_bok _).2 ⟨hb.next, hb.sb, hb.sa, hb.nd, .inl rfl, hb.ow⟩
 ·rename_i h0
  rw [if_neg h0] at h;exact absurd h h0
theorem cal_zero {L : LaneV} (h : (calR L).2 ≠ 0) : (calR L).1 = zLn := by
 unfold calR at h ⊢
 split
 ·rename_i h0
  rw [if_pos h0] at h;exact absurd rfl h
 ·rfl
theorem unc_may {L : LaneV} (h : (uncR L).2.2 = 0) : chkB L = true ∧ L.call = true ∧ chkB (uncR L).1 = true ∧ holM (uncR L).1 = holM L ∧ holG (uncR L).1 = holG L ∧ (uncR L).2.1.length ≤ 80 := by
 unfold uncR at h ⊢
 by_cases h0 : rfE L true = 0
 ·rw [if_pos h0] at h ⊢
  by_cases ho : ovrD (trdC (clL L).1 80 L.bids L.asks (clL L).2.1 (clsOf L.owed) []).2.2.1 = true
  ·rw [if_pos ho] at h
   simp at h
  ·rw [if_neg ho] at h ⊢;have hk := rf_chk h0;have hF := trd_facts hk.1;have e : sumN (trdC (clL L).1 80 L.bids L.asks (clL L).2.1 (clsOf L.owed) []).2.2.2 = (clL L).2.1 := by have := hF.vol; omega
   have hl := hF.len;have hcb := hF.cb;have hca := hF.ca;rw [e] at hcb hca;have ho2 : ¬ ovrC (trdC (clL L).1 80 L.bids L.asks (clL L).2.1 (clsOf L.owed) []).2.2.1 := fun c => ho ((ovrD_iff _).2 c)
   have hm := cleared_may hk.1 ho2;have hh := cleared_holds hk.1;rw [← hcb, ← hca] at hm hh
   exact ⟨hk.1, hk.2, hm, hh.1, hh.2, by simp only; omega⟩
 ·rw [if_neg h0] at h;exact absurd h h0
theorem unc_zero {L : LaneV} (h : (uncR L).2.2 ≠ 0) : (uncR L).1 = zLn ∧ (uncR L).2.1 = [] := by
 unfold uncR at h ⊢
 by_cases h0 : rfE L true = 0
 ·rw [if_pos h0] at h ⊢
  by_cases ho : ovrD (trdC (clL L).1 80 L.bids L.asks (clL L).2.1 (clsOf L.owed) []).2.2.1 = true
  ·rw [if_pos ho]
   exact ⟨rfl, rfl⟩
  ·rw [if_neg ho] at h;exact absurd rfl h
 ·rw [if_neg h0]
  exact ⟨rfl, rfl⟩
theorem left_chk {L : LaneV} {acc : Int} (h : chkB L = true) : chkB ⟨L.call, L.next, L.bids, L.asks, lefA acc L.owed⟩ = true := by
 have hb := (chk_bok _).1 h;refine (chk_bok _).2 ⟨hb.next, hb.sb, hb.sa, hb.nd, hb.cr, ?_⟩;have ho := hb.ow;unfold owedB at ho ⊢;simp only [Bool.and_eq_true, Bool.not_eq_true', List.any_eq_false] at ho ⊢;refine ⟨fun z hz => ho.1 z ((List.mem_filter.1 hz).1), ?_⟩;exact pair_ow ((ow_pairC ho.2).sublist List.filter_sublist)
theorem tak_may {L : LaneV} {acc : Int} (h : (takR L acc).2.2 = 0) : chkB L = true ∧ (1 ≤ acc ∧ acc ≤ 8) ∧ takR L acc = (⟨L.call, L.next, L.bids, L.asks, lefA acc L.owed⟩, takA acc L.owed, 0) ∧ chkB (takR L acc).1 = true := by
 unfold takR at h ⊢
 split
 ·rename_i h0
  rw [if_pos h0] at h
  simp at h
 ·rename_i h0
  rw [if_neg h0] at h
  split
  ·rename_i h1
   rw [if_pos h1] at h
   simp at h
  ·rename_i h1
   have hk : chkB L = true := by simpa using h0
   exact ⟨hk, wiB_in (by simpa using h1), rfl, left_chk hk⟩
theorem tak_mem {L : LaneV} {acc : Int} (h : chkB L = true) : ∀ e ∈ takA acc L.owed, (e.asset = 0 ∨ e.asset = 1) ∧ 1 ≤ e.n ∧ e.n ≤ 9007199254740992 := by
 intro e he;unfold takA at he;obtain ⟨o, ho, rfl⟩ := List.mem_map.1 he;have ho := (List.mem_filter.1 ho).1;have hb := ((chk_bok _).1 h).ow;unfold owedB at hb;simp only [Bool.and_eq_true, Bool.not_eq_true', List.any_eq_false] at hb;have h2 := hb.1 o ho;unfold stoB at h2;simp only [Bool.or_eq_true, not_or, Bool.not_eq_true', Bool.not_eq_false] at h2;have h3 := wiB_in h2.1.2;have h4 := wiB_in h2.2
 simp only
 omega
theorem place_sml (L : LaneV) (acc s price n : Int) (now : Bool) : Sml (placeL L acc s price n now).1 := by
 by_cases h : (placeL L acc s price n now).2.2.2 = 0
 ·exact sml_chk (placeL_may h)
 ·rw [(place_zero h).1];exact sml_zero
theorem can_sml (L : LaneV) (acc id : Int) : Sml (canR L acc id).1 := by
 by_cases h : (canR L acc id).2.2 = 0
 ·exact sml_chk (canR_may h)
 ·rw [can_zero h];exact sml_zero
theorem cal_sml (L : LaneV) : Sml (calR L).1 := by
 by_cases h : (calR L).2 = 0
 ·exact sml_chk (cal_may h).2.2.1
 ·rw [cal_zero h];exact sml_zero
theorem unc_sml (L : LaneV) : Sml (uncR L).1 := by
 by_cases h : (uncR L).2.2 = 0
 ·exact sml_chk (unc_may h).2.2.1
 ·rw [(unc_zero h).1];exact sml_zero
theorem place_fl (L : LaneV) (acc s price n : Int) (now : Bool) : (placeL L acc s price n now).2.1.length ≤ 40 := by
 by_cases h : (placeL L acc s price n now).2.2.2 = 0
 ·rw [placeL_eq h]
  simp only
  obtain ⟨hr, _, _⟩ := place_ok h;obtain ⟨h1, h2, h3, h4, h5, h6, h7, h8⟩ := refE_ok hr;have hm := chk_may h1;unfold plT;cases L.call
  ·have hT : OkT (sideL L (if s = 1 then 2 else 1)) ∧ (sideL L (if s = 1 then 2 else 1)).length ≤ 40 := by
    rcases h2 with rfl | rfl
    ·exact ⟨hm.ta, hm.la⟩
    ·exact ⟨hm.tb, hm.lb⟩
   have := (trL_ok s ⟨L.next, acc, price, n⟩ (by simp only; omega) (sideL L (if s = 1 then 2 else 1)) n L.owed [] 0 hm.ow hT.1 (by omega)).2.2.1
   simp only [List.length_nil, Nat.zero_add] at this;exact Nat.le_trans this hT.2
  ·simp
 ·rw [(place_zero h).2]
  simp
theorem unc_fl (L : LaneV) : (uncR L).2.1.length ≤ 80 := by
 by_cases h : (uncR L).2.2 = 0
 ·exact (unc_may h).2.2.2.2.2
 ·rw [(unc_zero h).2]
  simp
structure WkX where
 A : List AccX
 ga : Nat
 ca : Nat
 L : List LanX
 gl : Nat
 cl : Nat
 r : ReqV
 s : Nat → Int
 num : Int
 fm : Option Addr
 cm : Nat
 am : List AmtV
 ff : Option Addr
 cf : Nat
 fl : List FillV
 kv : Value
 ks : List (Int × Int)
def WkX.st (X : WkX) : StV := ⟨X.A.map AccX.v, X.L.map LanX.v, X.s, X.num, X.am, X.fl⟩
def WkX.fx (X : WkX) : ReqV × Nat × Nat × Nat × Nat × Value × List (Int × Int) := (X.r, X.ga, X.ca, X.gl, X.cl, X.kv, X.ks)
def wkA (X : WkX) : Array Value := #[.slice (some ⟨X.ga, 0, none⟩) X.A.length X.ca, .slice (some ⟨X.gl, 0, none⟩) X.L.length X.cl, .int .i64 X.r.kind, .int .i64 X.r.acct, .int .i64 X.r.lane, .int .i64 X.r.asset, .int .i64 X.r.side, .int .i64 X.r.price, .int .i64 X.r.n, .bool X.r.now, .int .i64 X.r.key.1, .int .i64 X.r.key.2, .int .i64 X.r.dst, .int .i64 (X.s 0), .int .i64 (X.s 1), .int .i64 (X.s 2), .int .i64 (X.s 3), .int .i64 0, .int .i64 X.num, .slice X.fm X.am.length X.cm, .slice X.ff X.fl.length X.cf]
structure WK (w : World) (K : Nat) (X : WkX) (wx : World) : Prop where
 box : wx.heap[K]? = some (.cells (wkA X) 69 (0, 0))
 ac : AccsOwn w.heap.size wx (.slice (some ⟨X.ga, 0, none⟩) X.A.length X.ca) X.A
 ln : LnsOwn w.heap.size wx (.slice (some ⟨X.gl, 0, none⟩) X.L.length X.cl) X.L
 am : wx.ownsRow w.heap.size 53 2 (.slice X.fm X.am.length X.cm) X.am.length (celC amtE X.am)
 fl : wx.ownsRow w.heap.size 106 4 (.slice X.ff X.fl.length X.cf) X.fl.length (celC filE X.fl)
 ky : wx.ownsRow w.heap.size 24 2 X.kv X.ks.length (Se.celC Se.keyE X.ks)
 sam : X.am.length * 16 ≤ 140737488355328
 sfl : X.fl.length * 32 ≤ 140737488355328
 hK : w.heap.size ≤ K
 bel : Below w.heap.size w wx
theorem WK.keep {w wx wy : World} {K : Nat} {X : WkX} (h : WK w K X wx) (hb : Below wx.heap.size wx wy) : WK w K X wy :=
 ⟨blkK h.box hb, h.ac.keep hb, h.ln.keep hb, own_keep h.am hb, own_keep h.fl hb, own_keep h.ky hb, h.sam, h.sfl, h.hK, below_via h.bel hb⟩
theorem WK.drewN {w wx : World} {K : Nat} {X : WkX} (h : WK w K X wx) (n : Nat) : WK w K X (wx.drewN n) := h.keep (Lg.bN (Below.refl _ wx) n)
theorem row_blk {w : World} {B n k g cap : Nat} {e : TypeId} {xs : List Value} (ho : w.ownsRow B e k (.slice (some ⟨g, 0, none⟩) n cap) n xs) : (∃ cs, w.heap[g]? = some (.cells cs e (0, 0))) ∧ B ≤ g := by
 obtain ⟨h1, ⟨hv, _⟩ | ⟨g', cap', cur, hv, hb, hg, _⟩⟩ := ho
 ·cases hv
 ·simp only [Value.slice.injEq, Option.some.injEq, Addr.mk.injEq] at hv;obtain ⟨⟨rfl, _⟩, _, rfl⟩ := hv
  exact ⟨⟨_, hg⟩, hb⟩
theorem ty_ne {W : World} {b k : Nat} {cs cur : Array Value} {t e : TypeId} (h : W.heap[b]? = some (.cells cs t (0, 0))) (hg : W.heap[k]? = some (.cells cur e (0, 0))) (hne : t ≠ e) : b ≠ k := by
 rintro rfl;rw [h] at hg
 simp at hg
 exact hne hg.2
theorem WK.put {w wx : World} {K : Nat} {X Y : WkX} (h : WK w K X wx) (j : Nat) (u : Value) (he : (wkA X).setIfInBounds j u = wkA Y) (h1 : Y.A = X.A) (h2 : Y.ga = X.ga) (h3 : Y.ca = X.ca) (h4 : Y.L = X.L) (h5 : Y.gl = X.gl) (h6 : Y.cl = X.cl) (h7 : Y.kv = X.kv) (h8 : Y.ks = X.ks)
  (ha : wx.ownsRow w.heap.size 53 2 (.slice Y.fm Y.am.length Y.cm) Y.am.length (celC amtE Y.am)) (hf : wx.ownsRow w.heap.size 106 4 (.slice Y.ff Y.fl.length Y.cf) Y.fl.length (celC filE Y.fl)) (sa : Y.am.length * 16 ≤ 140737488355328) (sf : Y.fl.length * 32 ≤ 140737488355328) :
  WK w K Y (wx.setCell ⟨K, j, none⟩ u) := by
 obtain ⟨yA, yga, yca, yL, ygl, ycl, yr, ys, ynum, yfm, ycm, yam, yff, ycf, yfl, ykv, yks⟩ := Y;simp only at h1 h2 h3 h4 h5 h6 h7 h8;subst h1 h2 h3 h4 h5 h6 h7 h8
 exact ⟨he ▸ heap_set h.box j u, h.ac.set h.box (by decide) (by decide), h.ln.set h.box (by decide) (by decide) (by decide), own_cell ha h.box (by decide), own_cell hf h.box (by decide), own_cell h.ky h.box (by decide), sa, sf, h.hK, belowSet u h.bel h.hK⟩
theorem WK.setNum {w wx : World} {K : Nat} {X : WkX} (h : WK w K X wx) (n : Int) : WK w K {X with num := n} (wx.setCell ⟨K, 18, none⟩ (.int .i64 n)) :=
 h.put 18 _ rfl rfl rfl rfl rfl rfl rfl rfl rfl h.am h.fl h.sam h.sfl
theorem WK.setAm {w wx : World} {K : Nat} {X : WkX} (h : WK w K X wx) (f : Option Addr) (c : Nat) (l : List AmtV) (ha : wx.ownsRow w.heap.size 53 2 (.slice f l.length c) l.length (celC amtE l)) (sa : l.length * 16 ≤ 140737488355328) : WK w K {X with fm := f, cm := c, am := l} (wx.setCell ⟨K, 19, none⟩ (.slice f l.length c)) :=
 h.put 19 _ rfl rfl rfl rfl rfl rfl rfl rfl rfl ha h.fl sa h.sfl
theorem WK.setFl {w wx : World} {K : Nat} {X : WkX} (h : WK w K X wx) (f : Option Addr) (c : Nat) (l : List FillV) (hf : wx.ownsRow w.heap.size 106 4 (.slice f l.length c) l.length (celC filE l)) (sf : l.length * 32 ≤ 140737488355328) : WK w K {X with ff := f, cf := c, fl := l} (wx.setCell ⟨K, 20, none⟩ (.slice f l.length c)) :=
 h.put 20 _ rfl rfl rfl rfl rfl rfl rfl rfl rfl h.am hf h.sam sf
theorem WK.setS {w wx : World} {K : Nat} {X : WkX} (h : WK w K X wx) (t : Nat) (ht : t < 4) (n : Int) : WK w K {X with s := Lg.upS X.s t n} (wx.setCell ⟨K, 13 + t, none⟩ (.int .i64 n)) := by
 refine h.put (13 + t) _ ?_ rfl rfl rfl rfl rfl rfl rfl rfl h.am h.fl h.sam h.sfl
 rcases (by omega : t = 0 ∨ t = 1 ∨ t = 2 ∨ t = 3) with rfl | rfl | rfl | rfl <;> rfl
theorem WK.putA {w wx : World} {K i : Nat} {X : WkX} (h : WK w K X wx) (hi : i < X.A.length) (x : AccX) (hx : AccOwn w.heap.size wx x) :
  WK w K {X with A := X.A.set i x} ((wx.setCell ⟨X.ga, i * 2, none⟩ (.slice x.fa x.v.l.length x.fc)).setCell ⟨X.ga, i * 2 + 1, none⟩ (.int .i64 x.v.ct)) := by
 obtain ⟨⟨cs, hg⟩, hgB⟩ := row_blk h.ac.row;have hne := ty_ne h.box hg (by decide);have g1 := heap_set hg (i * 2) (.slice x.fa x.v.l.length x.fc);refine ⟨?_, h.ac.put hi x hx, (h.ln.set hg (by decide) (by decide) (by decide)).set g1 (by decide) (by decide) (by decide), ?_, own_cell (own_cell h.fl hg (by decide)) g1 (by decide), own_cell (own_cell h.ky hg (by decide)) g1 (by decide), h.sam, h.sfl, h.hK, belowSet _ (belowSet _ h.bel hgB) hgB⟩
 ·have e : wkA {X with A := X.A.set i x} = wkA X := by simp only [wkA, List.length_set]
  rw [e];exact setOther _ (setOther _ h.box hne) hne
 ·exact own_cell (own_cell h.am hg (by decide)) g1 (by decide)
theorem WK.putL {w wx : World} {K i : Nat} {X : WkX} (h : WK w K X wx) (hi : i < X.L.length) (x : LanX) (hx : LanOwn w.heap.size wx x) :
  WK w K {X with L := X.L.set i x} (((((wx.setCell ⟨X.gl, i * 5, none⟩ (.bool x.v.call)).setCell ⟨X.gl, i * 5 + 1, none⟩ (.int .i64 x.v.next)).setCell ⟨X.gl, i * 5 + 2, none⟩ (.slice x.ba x.v.bids.length x.bc)).setCell ⟨X.gl, i * 5 + 3, none⟩ (.slice x.aa x.v.asks.length x.ac)).setCell ⟨X.gl, i * 5 + 4, none⟩ (.slice x.oa x.v.owed.length x.oc)) := by
 obtain ⟨⟨cs, hg⟩, hgB⟩ := row_blk h.ln.row;have hne := ty_ne h.box hg (by decide);have g1 := heap_set hg (i * 5) (.bool x.v.call);have g2 := heap_set g1 (i * 5 + 1) (.int .i64 x.v.next);have g3 := heap_set g2 (i * 5 + 2) (.slice x.ba x.v.bids.length x.bc);have g4 := heap_set g3 (i * 5 + 3) (.slice x.aa x.v.asks.length x.ac);refine ⟨?_, ((((h.ac.set hg (by decide) (by decide)).set g1 (by decide) (by decide)).set g2 (by decide) (by decide)).set g3 (by decide) (by decide)).set g4 (by decide) (by decide), h.ln.put hi x hx, own_cell (own_cell (own_cell (own_cell (own_cell h.am hg (by decide)) g1 (by decide)) g2 (by decide)) g3 (by decide)) g4 (by decide), own_cell (own_cell (own_cell (own_cell (own_cell h.fl hg (by decide)) g1 (by decide)) g2 (by decide)) g3 (by decide)) g4 (by decide), own_cell (own_cell (own_cell (own_cell (own_cell h.ky hg (by decide)) g1 (by decide)) g2 (by decide)) g3 (by decide)) g4 (by decide), h.sam, h.sfl, h.hK, belowSet _ (belowSet _ (belowSet _ (belowSet _ (belowSet _ h.bel hgB) hgB) hgB) hgB) hgB⟩;have e : wkA {X with L := X.L.set i x} = wkA X := by simp only [wkA, List.length_set]
 rw [e];exact setOther _ (setOther _ (setOther _ (setOther _ (setOther _ h.box hne) hne) hne) hne) hne
theorem WK.acc {w wx : World} {K i : Nat} {X : WkX} (h : WK w K X wx) (hi : i < X.A.length) : (wx.cell? ⟨X.ga, i * 2, none⟩ = some (.slice (X.A[i]).fa (X.A[i]).v.l.length (X.A[i]).fc) ∧ wx.cell? ⟨X.ga, i * 2 + 1, none⟩ = some (.int .i64 (X.A[i]).v.ct)) ∧ (∀ j, wx.frozen? ⟨X.ga, j, none⟩ = false) ∧ X.ga < wx.heap.size ∧ Amts wx (.slice (X.A[i]).fa (X.A[i]).v.l.length (X.A[i]).fc) (X.A[i]).v.l := by
 obtain ⟨⟨cs, hg⟩, hgB⟩ := row_blk h.ac.row;obtain ⟨a, c, e, _, hr⟩ := h.ac.at_.two;obtain ⟨b, off, ha, hb, c0, c1⟩ := hr i hi;simp only [Value.slice.injEq] at e;rw [← e.1] at ha;simp only [Option.some.injEq, Addr.mk.injEq] at ha;obtain ⟨rfl, rfl, _⟩ := ha;rw [Nat.zero_add] at c0 c1
 exact ⟨⟨c0, c1⟩, fun j => free_at hg j, hb, h.ac.at_.at_ _ (List.getElem_mem hi)⟩
theorem WK.lan {w wx : World} {K i : Nat} {X : WkX} (h : WK w K X wx) (hi : i < X.L.length) : (wx.cell? ⟨X.gl, i * 5, none⟩ = some (.bool (X.L[i]).v.call) ∧ wx.cell? ⟨X.gl, i * 5 + 1, none⟩ = some (.int .i64 (X.L[i]).v.next) ∧ wx.cell? ⟨X.gl, i * 5 + 2, none⟩ = some (.slice (X.L[i]).ba (X.L[i]).v.bids.length (X.L[i]).bc) ∧ wx.cell? ⟨X.gl, i * 5 + 3, none⟩ = some (.slice (X.L[i]).aa (X.L[i]).v.asks.length (X.L[i]).ac) ∧ wx.cell? ⟨X.gl, i * 5 + 4, none⟩ = some (.slice (X.L[i]).oa (X.L[i]).v.owed.length (X.L[i]).oc)) ∧ (∀ j, wx.frozen? ⟨X.gl, j, none⟩ = false) ∧ X.gl < wx.heap.size ∧ LanAt wx X.L[i] := by
 obtain ⟨⟨cs, hg⟩, hgB⟩ := row_blk h.ln.row;obtain ⟨a, c, e, _, hr⟩ := h.ln.at_.five;obtain ⟨b, off, ha, hb, c0, c1, c2, c3, c4⟩ := hr i hi;simp only [Value.slice.injEq] at e;rw [← e.1] at ha;simp only [Option.some.injEq, Addr.mk.injEq] at ha;obtain ⟨rfl, rfl, _⟩ := ha;rw [Nat.zero_add] at c0 c1 c2 c3 c4
 exact ⟨⟨c0, c1, c2, c3, c4⟩, fun j => free_at hg j, hb, h.ln.at_.at_ _ (List.getElem_mem hi)⟩
def WkB (w : World) (K : Nat) (X : WkX) (Z : StV × Int) (e : Ending) (w' : World) : Prop := ∃ X' : WkX, e = .returned (.int .i64 Z.2) ∧ X'.st = Z.1 ∧ X'.fx = X.fx ∧ X'.A.length = X.A.length ∧ X'.L.length = X.L.length ∧ WK w K X' w'
theorem accD_at {X : WkX} {i : Nat} (hi : i < X.A.length) : accD X.st i = (X.A[i]).v := by
 unfold accD WkX.st
 simp [List.getD_eq_getElem?_getD, List.getElem?_map, List.getElem?_eq_getElem hi]
theorem lanD_at {X : WkX} {i : Nat} (hi : i < X.L.length) : lanD X.st i = (X.L[i]).v := by
 unfold lanD WkX.st
 simp [List.getD_eq_getElem?_getD, List.getElem?_map, List.getElem?_eq_getElem hi]
theorem st_setA {X : WkX} {i : Nat} {x : AccX} : WkX.st {X with A := X.A.set i x} = {X.st with a := X.st.a.set i x.v} := by
 simp [WkX.st, List.map_set]
theorem st_setL {X : WkX} {i : Nat} {x : LanX} : WkX.st {X with L := X.L.set i x} = {X.st with l := X.st.l.set i x.v} := by
 simp [WkX.st, List.map_set]
theorem SGot.amts {w : World} {v : Value} {l : List AmtV} (h : Amts w v l) : ∃ a c, v = .slice a l.length c ∧ l.length * 16 ≤ 140737488355328 ∧ ∀ i (h : i < l.length), ∃ b off, a = some ⟨b, off, none⟩ ∧ b < w.heap.size ∧ w.cell? ⟨b, off + i * 2, none⟩ = some (.int .i64 (l[i]).k) ∧ w.cell? ⟨b, off + i * 2 + 1, none⟩ = some (.int .i64 (l[i]).n) := by
 obtain ⟨h8, a, c, e, hc, hr⟩ := h;refine ⟨a, c, e, h8, fun i hi => ?_⟩;obtain ⟨b, off, ha, hb, hcell⟩ := hr (by omega);have g := celC_get amtK l i hi
 exact ⟨b, off, ha, hb, (hcell (i * 2) (by omega)).trans (g 0 (by omega)), (hcell (i * 2 + 1) (by omega)).trans (g 1 (by omega))⟩
set_option maxHeartbeats 4000000 in
theorem indexAm_is (g : Nat) (lb : Array Value) (eg : ∀ args w, (callFunc g args).run Tryz.prog w = .ok (.enter g args) w) (v : Value) (l : List AmtV) (p : AmtV → Bool) (w : World) (h : Amts w v l) (hp : ∀ x ∈ l, ∀ W, Below w.heap.size w W → Calls Tryz.prog g (#[.agg (amtE x).toArray] ++ lb) W fun e w' => e = .returned (.bool (p x)) ∧ Below w.heap.size w w') :
  Calls Tryz.prog 169 #[v, .func (.func g) #[] lb] w fun e w' => e = .returned (.int .i64 (idxI p l)) ∧ Below w.heap.size w w' := by
 obtain ⟨a, c, rfl, h8, hr⟩ := h.amts;have HH := hideIt hr;have HP := hideIt hp;clear hr h hp
 go_enter Tryz.func169, Tryz.ntmps169
 go_wp2
 go_loopw [5, 8] (fun _ v wr => ∃ t : Nat, v = .int .i64 t ∧ t ≤ l.length ∧ Hid (l.findIdx? p = ((l.drop t).findIdx? p).map (· + t) ∧ Below w.heap.size w wr)) (fun _ v _ => l.length - (intOf v).toNat)
 case atStart => exact ⟨0, rfl, Nat.zero_le _, hideIt ⟨by simp, Below.refl _ _⟩⟩
 case round =>
  obtain ⟨t, rfl, ht, HR⟩ := hrel
  by_cases hlt : t < l.length
  ·have hltI : (t : Int) < (l.length : Int) := by omega
   have ht0 : (0 : Int) ≤ (t : Int) := by omega
   have hw : IntKind.i64.wrap ((t : Int) + 1) = (t : Int) + 1 := by rw [IntKind.wrap_i64]; omega
   obtain ⟨b, off, rfl, hbl, q0, q1⟩ := HH.out t hlt;have hB := HR.out.2;have hBS := hB.size;have hblr : b < wr.heap.size := by omega
   have c0 := ((HR.out.2).cell (p := ⟨b, off + t * 2, none⟩) hbl).trans q0;have c1 := ((HR.out.2).cell (p := ⟨b, off + t * 2 + 1, none⟩) hbl).trans q1;clear q0 q1;have HC := hideIt (HP.out l[t] (List.getElem_mem hlt) wr hB);clear HH HP hB hBS hbl;cases hq : p l[t]
   ·rw [hq] at HC;have HF : Hid (l.findIdx? p = ((l.drop (t + 1)).findIdx? p).map (· + (t + 1))) := by
     show _ = _
     rw [HR.out.1, fi_miss hlt hq, Option.map_map]
     congr 1
     funext x
     simp only [Function.comp];omega
    clear HR hq;generalize l[t] = en at *;obtain ⟨k1, n1⟩ := en;unfold amtE at HC
    (try dsimp only at c0 c1 HC)
    go_wp2_with fail
    refine HC.out.mono ?_;rintro e w' ⟨rfl, hb'⟩;dsimp only;go_wp2
    go_roundw
    case rel => exact ⟨t + 1, by go_num, by omega, hideIt ⟨HF.out, hb'⟩⟩
    case measure => simp [intOf]; omega
   ·rw [hq] at HC;have HF : Hid (idxI p l = (t : Int)) := by
     show _ = _
     unfold idxI;rw [HR.out.1, fi_hit hlt hq]
     simp
    clear HR hq;generalize l[t] = en at *;obtain ⟨k1, n1⟩ := en;unfold amtE at HC
    (try dsimp only at c0 c1 HC)
    go_wp2_with fail
    refine HC.out.mono ?_;rintro e w' ⟨rfl, hb'⟩;dsimp only;go_wp2;go_ret
    exact ⟨by rw [HF.out]; rfl, hb'⟩
  ·have hltI : ¬ (t : Int) < (l.length : Int) := by omega
   have HF : Hid (idxI p l = -1) := by
    show _ = _
    unfold idxI;rw [HR.out.1, List.drop_of_length_le (by omega)]
    rfl
   have HB := hideIt HR.out.2;clear HR HP HH;go_wp2;go_ret
   exact ⟨by rw [HF.out]; rfl, HB.out⟩
set_option maxHeartbeats 4000000 in
theorem containsAm_is (g : Nat) (lb : Array Value) (eg : ∀ args w, (callFunc g args).run Tryz.prog w = .ok (.enter g args) w) (v : Value) (l : List AmtV) (p : AmtV → Bool) (w : World) (h : Amts w v l) (hp : ∀ x ∈ l, ∀ W, Below w.heap.size w W → Calls Tryz.prog g (#[.agg (amtE x).toArray] ++ lb) W fun e w' => e = .returned (.bool (p x)) ∧ Below w.heap.size w w') :
  Calls Tryz.prog 136 #[v, .func (.func g) #[] lb] w fun e w' => e = .returned (.bool (l.any p)) ∧ Below w.heap.size w w' := by
 have HC := hideIt (indexAm_is g lb eg v l p w h hp);obtain ⟨a, c, rfl, h8, hr⟩ := h.amts;clear hr h hp;have HE := hideIt (idx_any p l);generalize idxI p l = r at *;generalize l.any p = q at *
 go_enter Tryz.func136, Tryz.ntmps136
 go_wp2_with fail
 refine HC.out.mono ?_;rintro e w1 ⟨rfl, hb⟩;dsimp only;go_wp2;go_ret
 exact ⟨by rw [HE.out]; rfl, hb⟩
set_option maxHeartbeats 4000000 in
theorem indexAc_is (g : Nat) (lb : Array Value) (eg : ∀ args w, (callFunc g args).run Tryz.prog w = .ok (.enter g args) w) (v : Value) (l : List AccX) (p : AccX → Bool) (w : World) (h : Accs w v l) (hp : ∀ x ∈ l, ∀ W, Below w.heap.size w W → Calls Tryz.prog g (#[.agg (accE x).toArray] ++ lb) W fun e w' => e = .returned (.bool (p x)) ∧ Below w.heap.size w w') :
  Calls Tryz.prog 61 #[v, .func (.func g) #[] lb] w fun e w' => e = .returned (.int .i64 (idxI p l)) ∧ Below w.heap.size w w' := by
 obtain ⟨a, c, rfl, h8, hr⟩ := h.two;have HH := hideIt hr;have HP := hideIt hp;clear hr h hp
 go_enter Tryz.func61, Tryz.ntmps61
 go_wp2
 go_loopw [5, 8] (fun _ v wr => ∃ t : Nat, v = .int .i64 t ∧ t ≤ l.length ∧ Hid (l.findIdx? p = ((l.drop t).findIdx? p).map (· + t) ∧ Below w.heap.size w wr)) (fun _ v _ => l.length - (intOf v).toNat)
 case atStart => exact ⟨0, rfl, Nat.zero_le _, hideIt ⟨by simp, Below.refl _ _⟩⟩
 case round =>
  obtain ⟨t, rfl, ht, HR⟩ := hrel
  by_cases hlt : t < l.length
  ·have hltI : (t : Int) < (l.length : Int) := by omega
   have ht0 : (0 : Int) ≤ (t : Int) := by omega
   have hw : IntKind.i64.wrap ((t : Int) + 1) = (t : Int) + 1 := by rw [IntKind.wrap_i64]; omega
   obtain ⟨b, off, rfl, hbl, q0, q1⟩ := HH.out t hlt;have hB := HR.out.2;have hBS := hB.size;have hblr : b < wr.heap.size := by omega
   have c0 := ((HR.out.2).cell (p := ⟨b, off + t * 2, none⟩) hbl).trans q0;have c1 := ((HR.out.2).cell (p := ⟨b, off + t * 2 + 1, none⟩) hbl).trans q1;clear q0 q1;have HC := hideIt (HP.out l[t] (List.getElem_mem hlt) wr hB);clear HH HP hB hBS hbl;cases hq : p l[t]
   ·rw [hq] at HC;have HF : Hid (l.findIdx? p = ((l.drop (t + 1)).findIdx? p).map (· + (t + 1))) := by
     show _ = _
     rw [HR.out.1, fi_miss hlt hq, Option.map_map]
     congr 1
     funext x
     simp only [Function.comp];omega
    clear HR hq;generalize l[t] = en at *;obtain ⟨⟨k1, n1⟩, f1, f2⟩ := en;unfold accE at HC
    (try dsimp only at c0 c1 HC)
    go_wp2_with fail
    refine HC.out.mono ?_;rintro e w' ⟨rfl, hb'⟩;dsimp only;go_wp2
    go_roundw
    case rel => exact ⟨t + 1, by go_num, by omega, hideIt ⟨HF.out, hb'⟩⟩
    case measure => simp [intOf]; omega
   ·rw [hq] at HC;have HF : Hid (idxI p l = (t : Int)) := by
     show _ = _
     unfold idxI;rw [HR.out.1, fi_hit hlt hq]
     simp
    clear HR hq;generalize l[t] = en at *;obtain ⟨⟨k1, n1⟩, f1, f2⟩ := en;unfold accE at HC
    (try dsimp only at c0 c1 HC)
    go_wp2_with fail
    refine HC.out.mono ?_;rintro e w' ⟨rfl, hb'⟩;dsimp only;go_wp2;go_ret
    exact ⟨by rw [HF.out]; rfl, hb'⟩
  ·have hltI : ¬ (t : Int) < (l.length : Int) := by omega
   have HF : Hid (idxI p l = -1) := by
    show _ = _
    unfold idxI;rw [HR.out.1, List.drop_of_length_le (by omega)]
    rfl
   have HB := hideIt HR.out.2;clear HR HP HH;go_wp2;go_ret
   exact ⟨by rw [HF.out]; rfl, HB.out⟩
set_option maxHeartbeats 4000000 in
theorem containsAc_is (g : Nat) (lb : Array Value) (eg : ∀ args w, (callFunc g args).run Tryz.prog w = .ok (.enter g args) w) (v : Value) (l : List AccX) (p : AccX → Bool) (w : World) (h : Accs w v l) (hp : ∀ x ∈ l, ∀ W, Below w.heap.size w W → Calls Tryz.prog g (#[.agg (accE x).toArray] ++ lb) W fun e w' => e = .returned (.bool (p x)) ∧ Below w.heap.size w w') :
  Calls Tryz.prog 36 #[v, .func (.func g) #[] lb] w fun e w' => e = .returned (.bool (l.any p)) ∧ Below w.heap.size w w' := by
 have HC := hideIt (indexAc_is g lb eg v l p w h hp);obtain ⟨a, c, rfl, h8, hr⟩ := h.two;clear hr h hp;have HE := hideIt (idx_any p l);generalize idxI p l = r at *;generalize l.any p = q at *
 go_enter Tryz.func36, Tryz.ntmps36
 go_wp2_with fail
 refine HC.out.mono ?_;rintro e w1 ⟨rfl, hb⟩;dsimp only;go_wp2;go_ret
 exact ⟨by rw [HE.out]; rfl, hb⟩
set_option maxHeartbeats 4000000 in
theorem indexLn_is (g : Nat) (lb : Array Value) (eg : ∀ args w, (callFunc g args).run Tryz.prog w = .ok (.enter g args) w) (v : Value) (l : List LanX) (p : LanX → Bool) (w : World) (h : Lns w v l) (hp : ∀ x ∈ l, ∀ W, Below w.heap.size w W → Calls Tryz.prog g (#[.agg (lanE x).toArray] ++ lb) W fun e w' => e = .returned (.bool (p x)) ∧ Below w.heap.size w w') :
  Calls Tryz.prog 64 #[v, .func (.func g) #[] lb] w fun e w' => e = .returned (.int .i64 (idxI p l)) ∧ Below w.heap.size w w' := by
 obtain ⟨a, c, rfl, h8, hr⟩ := h.five;have HH := hideIt hr;have HP := hideIt hp;clear hr h hp
 go_enter Tryz.func64, Tryz.ntmps64
 go_wp2
 go_loopw [5, 8] (fun _ v wr => ∃ t : Nat, v = .int .i64 t ∧ t ≤ l.length ∧ Hid (l.findIdx? p = ((l.drop t).findIdx? p).map (· + t) ∧ Below w.heap.size w wr)) (fun _ v _ => l.length - (intOf v).toNat)
 case atStart => exact ⟨0, rfl, Nat.zero_le _, hideIt ⟨by simp, Below.refl _ _⟩⟩
 case round =>
  obtain ⟨t, rfl, ht, HR⟩ := hrel
  by_cases hlt : t < l.length
  ·have hltI : (t : Int) < (l.length : Int) := by omega
   have ht0 : (0 : Int) ≤ (t : Int) := by omega
   have hw : IntKind.i64.wrap ((t : Int) + 1) = (t : Int) + 1 := by rw [IntKind.wrap_i64]; omega
   obtain ⟨b, off, rfl, hbl, q0, q1, q2, q3, q4⟩ := HH.out t hlt;have hB := HR.out.2;have hBS := hB.size;have hblr : b < wr.heap.size := by omega
   have c0 := ((HR.out.2).cell (p := ⟨b, off + t * 5, none⟩) hbl).trans q0;have c1 := ((HR.out.2).cell (p := ⟨b, off + t * 5 + 1, none⟩) hbl).trans q1;have c2 := ((HR.out.2).cell (p := ⟨b, off + t * 5 + 2, none⟩) hbl).trans q2;have c3 := ((HR.out.2).cell (p := ⟨b, off + t * 5 + 3, none⟩) hbl).trans q3;have c4 := ((HR.out.2).cell (p := ⟨b, off + t * 5 + 4, none⟩) hbl).trans q4;clear q0 q1 q2 q3 q4;have HC := hideIt (HP.out l[t] (List.getElem_mem hlt) wr hB);clear HH HP hB hBS hbl;cases hq : p l[t]
   ·rw [hq] at HC;have HF : Hid (l.findIdx? p = ((l.drop (t + 1)).findIdx? p).map (· + (t + 1))) := by
     show _ = _
     rw [HR.out.1, fi_miss hlt hq, Option.map_map]
     congr 1
     funext x
     simp only [Function.comp];omega
    clear HR hq;generalize l[t] = en at *;obtain ⟨⟨k1, n1, l1, l2, l3⟩, f1, f2, f3, f4, f5, f6⟩ := en;unfold lanE at HC
    (try dsimp only at c0 c1 c2 c3 c4 HC)
    go_wp2_with fail
    refine HC.out.mono ?_;rintro e w' ⟨rfl, hb'⟩;dsimp only;go_wp2
    go_roundw
    case rel => exact ⟨t + 1, by go_num, by omega, hideIt ⟨HF.out, hb'⟩⟩
    case measure => simp [intOf]; omega
   ·rw [hq] at HC;have HF : Hid (idxI p l = (t : Int)) := by
     show _ = _
     unfold idxI;rw [HR.out.1, fi_hit hlt hq]
     simp
    clear HR hq;generalize l[t] = en at *;obtain ⟨⟨k1, n1, l1, l2, l3⟩, f1, f2, f3, f4, f5, f6⟩ := en;unfold lanE at HC
    (try dsimp only at c0 c1 c2 c3 c4 HC)
    go_wp2_with fail
    refine HC.out.mono ?_;rintro e w' ⟨rfl, hb'⟩;dsimp only;go_wp2;go_ret
    exact ⟨by rw [HF.out]; rfl, hb'⟩
  ·have hltI : ¬ (t : Int) < (l.length : Int) := by omega
   have HF : Hid (idxI p l = -1) := by
    show _ = _
    unfold idxI;rw [HR.out.1, List.drop_of_length_le (by omega)]
    rfl
   have HB := hideIt HR.out.2;clear HR HP HH;go_wp2;go_ret
   exact ⟨by rw [HF.out]; rfl, HB.out⟩
set_option maxHeartbeats 4000000 in
theorem containsLn_is (g : Nat) (lb : Array Value) (eg : ∀ args w, (callFunc g args).run Tryz.prog w = .ok (.enter g args) w) (v : Value) (l : List LanX) (p : LanX → Bool) (w : World) (h : Lns w v l) (hp : ∀ x ∈ l, ∀ W, Below w.heap.size w W → Calls Tryz.prog g (#[.agg (lanE x).toArray] ++ lb) W fun e w' => e = .returned (.bool (p x)) ∧ Below w.heap.size w w') :
  Calls Tryz.prog 39 #[v, .func (.func g) #[] lb] w fun e w' => e = .returned (.bool (l.any p)) ∧ Below w.heap.size w w' := by
 have HC := hideIt (indexLn_is g lb eg v l p w h hp);obtain ⟨a, c, rfl, h8, hr⟩ := h.five;clear hr h hp;have HE := hideIt (idx_any p l);generalize idxI p l = r at *;generalize l.any p = q at *
 go_enter Tryz.func39, Tryz.ntmps39
 go_wp2_with fail
 refine HC.out.mono ?_;rintro e w1 ⟨rfl, hb⟩;dsimp only;go_wp2;go_ret
 exact ⟨by rw [HE.out]; rfl, hb⟩
theorem egAbv : ∀ args w, (callFunc 137 args).run Tryz.prog w = .ok (.enter 137 args) w := enters_of Tryz.func137 (by kernel_rfl) rfl
theorem abv1_is (x : AmtV) (most : Int) (p : Nat) (W : World) (hp : W.cell? ⟨p, 0, none⟩ = some (.int .i64 most)) : Calls Tryz.prog 137 (#[.agg (amtE x).toArray] ++ #[.pointer (some ⟨p, 0, none⟩)]) W fun e w' => e = .returned (.bool (decide (most < x.n))) ∧ Below W.heap.size W w' := by
 have hpl : p < W.heap.size := by
  apply Classical.byContradiction
  intro h;have : W.heap[p]? = none := Array.getElem?_eq_none (by omega)
  simp [World.cell?, this] at hp
 obtain ⟨k, n⟩ := x;have hc : (W.alloc (.cells #[.int .i64 k, .int .i64 n] 53)).cell? ⟨p, 0, none⟩ = some (.int .i64 most) := ((below1 W _).cell hpl).trans hp
 show Calls Tryz.prog 137 #[.agg #[.int .i64 k, .int .i64 n], .pointer (some ⟨p, 0, none⟩)] W _
 go_enter Tryz.func137, Tryz.ntmps137
 go_wp2;go_ret
 exact ⟨rfl, below1 W _⟩
set_option maxHeartbeats 1000000 in
theorem hasAbove_is (v : Value) (l : List AmtV) (most : Int) (w : World) (h : Amts w v l) : Calls Tryz.prog 109 #[v, .int .i64 most] w fun e w' => e = .returned (.bool (aboveB Lg.AmtV.n l most)) ∧ Below w.heap.size w w' := by
 have hb1 := below1 w (.cells #[.int .i64 most] 3);have hc0 : (w.alloc (.cells #[.int .i64 most] 3)).cell? ⟨w.heap.size, 0, none⟩ = some (.int .i64 most) := by rw [cell_at (heap_alloc_new w _)]; rfl
 have HC := hideIt (containsAm_is 137 #[.pointer (some ⟨w.heap.size, 0, none⟩)] egAbv v l (fun x => decide (most < x.n)) (w.alloc (.cells #[.int .i64 most] 3)) (h.keep hb1) (fun x _ W hW => (abv1_is x most w.heap.size W ((hW.cell (by simp)).trans hc0)).mono (fun _ _ hh => ⟨hh.1, below_via hW hh.2⟩)));have HB := hideIt hb1;obtain ⟨a, c, rfl⟩ := h.slice;clear hb1 hc0 h;unfold aboveB;generalize l.length = n at *;generalize l.any (fun e => decide (most < e.n)) = q at *
 go_enter Tryz.func109, Tryz.ntmps109
 go_wp2_with fail
 refine HC.out.mono ?_;rintro e w1 ⟨rfl, hb⟩;dsimp only;go_wp2;go_ret
 exact ⟨rfl, below_via HB.out hb⟩
theorem egM1 : ∀ args w, (callFunc 37 args).run Tryz.prog w = .ok (.enter 37 args) w := enters_of Tryz.func37 (by kernel_rfl) rfl
theorem egM2 : ∀ args w, (callFunc 40 args).run Tryz.prog w = .ok (.enter 40 args) w := enters_of Tryz.func40 (by kernel_rfl) rfl
theorem mdlA_is (x : AccX) (W : World) (h : AccAt W x) : Calls Tryz.prog 37 (#[.agg (accE x).toArray] ++ #[]) W fun e w' => e = .returned (.bool (!Lg.accB x.v)) ∧ Below W.heap.size W w' := by
 obtain ⟨⟨l, ct⟩, fa, fc⟩ := x;have hb1 := below1 W (.cells #[.slice fa l.length fc, .int .i64 ct] 44);have HC := hideIt (Lg.check_is ⟨l, ct⟩ (.slice fa l.length fc) _ (SGot.keep h hb1));have HB := hideIt hb1;have HI : Hid (Lg.chkI ⟨l, ct⟩ = if Lg.accB ⟨l, ct⟩ then 0 else 120) := rfl;clear hb1 h;unfold Lg.accV Lg.accA at HC
 show Calls Tryz.prog 37 #[.agg #[.slice fa l.length fc, .int .i64 ct]] W _
 simp only at *;generalize Lg.chkI ⟨l, ct⟩ = ck at *;generalize Lg.accB ⟨l, ct⟩ = ab at *;generalize l.length = n at *
 go_enter Tryz.func37, Tryz.ntmps37
 go_wp2_with fail
 refine HC.out.mono ?_;rintro e w1 ⟨rfl, hb⟩;dsimp only;have hi := HI.out;subst hi;clear HI HC;cases ab
 ·simp only [Bool.false_eq_true, if_false, Bool.not_false];go_wp2;go_ret
  exact ⟨rfl, below_via HB.out hb⟩
 ·simp only [if_true, Bool.not_true];go_wp2;go_ret
  exact ⟨rfl, below_via HB.out hb⟩
theorem mdlL_is (x : LanX) (W : World) (h : LanAt W x) : Calls Tryz.prog 40 (#[.agg (lanE x).toArray] ++ #[]) W fun e w' => e = .returned (.bool (!chkB x.v)) ∧ Below W.heap.size W w' := by
 obtain ⟨⟨call, next, bids, asks, owed⟩, ba, bc, aa, ac, oa, oc⟩ := x;have hb1 := below1 W (.cells #[.bool call, .int .i64 next, .slice ba bids.length bc, .slice aa asks.length ac, .slice oa owed.length oc] 59);have HC := hideIt (check_is ⟨call, next, bids, asks, owed⟩ (.slice ba bids.length bc) (.slice aa asks.length ac) (.slice oa owed.length oc) _ (Lan.keep h hb1));have HB := hideIt hb1;have HI : Hid (chkI ⟨call, next, bids, asks, owed⟩ = if chkB ⟨call, next, bids, asks, owed⟩ then 0 else 130) := rfl;clear hb1 h;unfold laneV laneA at HC
 show Calls Tryz.prog 40 #[.agg #[.bool call, .int .i64 next, .slice ba bids.length bc, .slice aa asks.length ac, .slice oa owed.length oc]] W _
 simp only at *;generalize chkI ⟨call, next, bids, asks, owed⟩ = ck at *;generalize chkB ⟨call, next, bids, asks, owed⟩ = ab at *;generalize bids.length = n1 at *;generalize asks.length = n2 at *;generalize owed.length = n3 at *
 go_enter Tryz.func40, Tryz.ntmps40
 go_wp2_with fail
 refine HC.out.mono ?_;rintro e w1 ⟨rfl, hb⟩;dsimp only;have hi := HI.out;subst hi;clear HI HC;cases ab
 ·simp only [Bool.false_eq_true, if_false, Bool.not_false];go_wp2;go_ret
  exact ⟨rfl, below_via HB.out hb⟩
 ·simp only [if_true, Bool.not_true];go_wp2;go_ret
  exact ⟨rfl, below_via HB.out hb⟩
theorem any_all {α β : Type} (f : α → β) (p : β → Bool) (l : List α) : (!l.any (fun x => !p (f x))) = (l.map f).all p := by
 induction l with
 | nil => rfl
 | cons x l ih => simp only [List.any_cons, List.map_cons, List.all_cons, Bool.not_or, Bool.not_not, ih]
set_option maxHeartbeats 4000000 in
set_option maxRecDepth 100000 in
theorem mayBe_is (va vl : Value) (M : MdlV) (w : World) (h : Mdl w va vl M) : Calls Tryz.prog 20 #[.agg #[va, vl]] w fun e w' => e = .returned (.bool (mayM M)) ∧ Below w.heap.size w w' := by
 obtain ⟨⟨xs, hx, h1⟩, ys, hy, h2⟩ := h;have hb1 := below1 w (.cells #[va, vl] 30);have HA := hideIt (containsAc_is 37 #[] egM1 va xs (fun x => !Lg.accB x.v) _ (h1.keep hb1) (fun x hx W hW => (mdlA_is x W (((h1.keep hb1).at_ x hx).keep hW)).mono (fun _ _ hh => ⟨hh.1, below_via hW hh.2⟩)));have HL := hideIt (fun W (hW : Below w.heap.size w W) => containsLn_is 40 #[] egM2 vl ys (fun x => !chkB x.v) W (h2.keep hW) (fun x hx W2 hW2 => (mdlL_is x W2 (((h2.keep hW).at_ x hx).keep hW2)).mono (fun _ _ hh => ⟨hh.1, below_via hW2 hh.2⟩)));have HB := hideIt hb1;have HE : Hid (mayM M = (decide (xs.length = 8) && (decide (ys.length = 3) && (!(xs.any (fun x => !Lg.accB x.v)) && !(ys.any (fun x => !chkB x.v)))))) := by
  show _ = _
  unfold mayM;rw [any_all AccX.v Lg.accB, any_all LanX.v chkB, hx, hy, ← hx, ← hy, List.length_map, List.length_map]
 obtain ⟨aa, ac, rfl⟩ := h1.row.slice;obtain ⟨la, lc, rfl⟩ := h2.row.slice;clear hb1 h1 h2 hx hy;rw [HE.out];clear HE;generalize xs.any (fun x => !Lg.accB x.v) = p at *;generalize ys.any (fun x => !chkB x.v) = q at *;generalize xs.length = n at *;generalize ys.length = k at *
 by_cases e8 : n = 8
 ·by_cases e3 : k = 3
  ·subst e8 e3;cases p
   ·go_enter Tryz.func20, Tryz.ntmps20
    go_wp2_with fail
    refine HA.out.mono ?_;rintro e w1 ⟨rfl, hb⟩;dsimp only;have HB2 := hideIt (below_via HB.out hb);have cl : w1.cell? ⟨w.heap.size, 1, none⟩ = some (.slice la 3 lc) := (box_cell hb 1).trans rfl;clear HA HB hb
    go_wp2_with fail
    refine (HL.out _ HB2.out).mono ?_;rintro e w2 ⟨rfl, hb⟩;dsimp only;go_wp2;go_ret
    exact ⟨by simp, below_via HB2.out hb⟩
   ·go_enter Tryz.func20, Tryz.ntmps20
    go_wp2_with fail
    refine HA.out.mono ?_;rintro e w1 ⟨rfl, hb⟩;dsimp only;go_wp2;go_ret
    exact ⟨by simp, below_via HB.out hb⟩
  ·have e3I : ((k : Int) == 3) = false := beq_eq_false_iff_ne.2 (by omega);have E3 : decide (k = 3) = false := decide_eq_false e3;subst e8
   go_enter Tryz.func20, Tryz.ntmps20
   go_wp2;go_ret
   exact ⟨by rw [E3]; simp, HB.out⟩
 ·have e8I : ((n : Int) == 8) = false := beq_eq_false_iff_ne.2 (by omega);have E8 : decide (n = 8) = false := decide_eq_false e8
  go_enter Tryz.func20, Tryz.ntmps20
  go_wp2;go_ret
  exact ⟨by rw [E8]; simp, HB.out⟩
end Go.Proofs.YtiinigifjdpicaaGreatDoor
