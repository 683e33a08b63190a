/- Texts of my own, laid together. -/
import Derived.Test.YtiinigifjdpicaaGreatDoorMz14
import Derived.Test.YtiinigifjdpicaaGreatDoorMz06
import Derived.Lib.AppendZeros
namespace Go.Proofs.YtiinigifjdpicaaGreatDoor
open Go.RowKit
set_option linter.all false
structure WkX where
  A : List AccX
  ga : Nat
  ca : Nat
  L : List LanX
  gl : Nat
  cl : Nat
  r : ReqV
  s : Nat → Int
  num : Int
  fm : Option Addr
  cm : Nat
  am : List AmtV
  ff : Option Addr
  cf : Nat
  fl : List FillV
  kv : Value
  ks : List (Int × Int)
def WkX.st (X : WkX) : StV := ⟨X.A.map AccX.v, X.L.map LanX.v, X.s, X.num, X.am, X.fl⟩
def WkX.fx (X : WkX) : ReqV × Nat × Nat × Nat × Nat × Value × List (Int × Int) := (X.r, X.ga, X.ca, X.gl, X.cl, X.kv, X.ks)
def wkA (X : WkX) : Array Value := #[.slice (some ⟨X.ga, 0, none⟩) X.A.length X.ca, .slice (some ⟨X.gl, 0, none⟩) X.L.length X.cl, .int .i64 X.r.kind, .int .i64 X.r.acct, .int .i64 X.r.lane, .int .i64 X.r.asset, .int .i64 X.r.side, .int .i64 X.r.price, .int .i64 X.r.n, .bool X.r.now, .int .i64 X.r.key.1, .int .i64 X.r.key.2, .int .i64 X.r.dst, .int .i64 (X.s 0), .int .i64 (X.s 1), .int .i64 (X.s 2), .int .i64 (X.s 3), .int .i64 0, .int .i64 X.num, .slice X.fm X.am.length X.cm, .slice X.ff X.fl.length X.cf]
structure WK (w : World) (K : Nat) (X : WkX) (wx : World) : Prop where
  box : wx.heap[K]? = some (.cells (wkA X) 69 (0, 0))
  ac : AccsOwn w.heap.size wx (.slice (some ⟨X.ga, 0, none⟩) X.A.length X.ca) X.A
  ln : LnsOwn w.heap.size wx (.slice (some ⟨X.gl, 0, none⟩) X.L.length X.cl) X.L
  am : wx.ownsRow w.heap.size 53 2 (.slice X.fm X.am.length X.cm) X.am.length (celC amtE X.am)
  fl : wx.ownsRow w.heap.size 106 4 (.slice X.ff X.fl.length X.cf) X.fl.length (celC filE X.fl)
  ky : wx.ownsRow w.heap.size 24 2 X.kv X.ks.length (Se.celC Se.keyE X.ks)
  sam : X.am.length * 16 ≤ 140737488355328
  sfl : X.fl.length * 32 ≤ 140737488355328
  hK : w.heap.size ≤ K
  bel : Below w.heap.size w wx
theorem WK.keep {w wx wy : World} {K : Nat} {X : WkX} (h : WK w K X wx) (hb : Below wx.heap.size wx wy) : WK w K X wy :=
  ⟨blkK h.box hb, h.ac.keep hb, h.ln.keep hb, own_keep h.am hb, own_keep h.fl hb, own_keep h.ky hb, h.sam, h.sfl, h.hK, below_via h.bel hb⟩
theorem WK.drewN {w wx : World} {K : Nat} {X : WkX} (h : WK w K X wx) (n : Nat) : WK w K X (wx.drewN n) := h.keep (Lg.bN (Below.refl _ wx) n)
theorem row_blk {w : World} {B n k g cap : Nat} {e : TypeId} {xs : List Value} (ho : w.ownsRow B e k (.slice (some ⟨g, 0, none⟩) n cap) n xs) : (∃ cs, w.heap[g]? = some (.cells cs e (0, 0))) ∧ B ≤ g := by
  obtain ⟨h1, ⟨hv, _⟩ | ⟨g', cap', cur, hv, hb, hg, _⟩⟩ := ho
  · cases hv
  · simp only [Value.slice.injEq, Option.some.injEq, Addr.mk.injEq] at hv
    obtain ⟨⟨rfl, _⟩, _, rfl⟩ := hv
    exact ⟨⟨_, hg⟩, hb⟩
theorem ty_ne {W : World} {b k : Nat} {cs cur : Array Value} {t e : TypeId} (h : W.heap[b]? = some (.cells cs t (0, 0))) (hg : W.heap[k]? = some (.cells cur e (0, 0))) (hne : t ≠ e) : b ≠ k := by
  rintro rfl
  rw [h] at hg
  simp at hg
  exact hne hg.2
theorem WK.put {w wx : World} {K : Nat} {X Y : WkX} (h : WK w K X wx) (j : Nat) (u : Value) (he : (wkA X).setIfInBounds j u = wkA Y) (h1 : Y.A = X.A) (h2 : Y.ga = X.ga) (h3 : Y.ca = X.ca) (h4 : Y.L = X.L) (h5 : Y.gl = X.gl) (h6 : Y.cl = X.cl) (h7 : Y.kv = X.kv) (h8 : Y.ks = X.ks)
    (ha : wx.ownsRow w.heap.size 53 2 (.slice Y.fm Y.am.length Y.cm) Y.am.length (celC amtE Y.am)) (hf : wx.ownsRow w.heap.size 106 4 (.slice Y.ff Y.fl.length Y.cf) Y.fl.length (celC filE Y.fl)) (sa : Y.am.length * 16 ≤ 140737488355328) (sf : Y.fl.length * 32 ≤ 140737488355328) :
    WK w K Y (wx.setCell ⟨K, j, none⟩ u) := by
  obtain ⟨yA, yga, yca, yL, ygl, ycl, yr, ys, ynum, yfm, ycm, yam, yff, ycf, yfl, ykv, yks⟩ := Y
  simp only at h1 h2 h3 h4 h5 h6 h7 h8
  subst h1 h2 h3 h4 h5 h6 h7 h8
  exact ⟨he ▸ heap_set h.box j u, h.ac.set h.box (by decide) (by decide), h.ln.set h.box (by decide) (by decide) (by decide), own_cell ha h.box (by decide), own_cell hf h.box (by decide), own_cell h.ky h.box (by decide), sa, sf, h.hK, belowSet u h.bel h.hK⟩
theorem WK.setNum {w wx : World} {K : Nat} {X : WkX} (h : WK w K X wx) (n : Int) : WK w K {X with num := n} (wx.setCell ⟨K, 18, none⟩ (.int .i64 n)) :=
  h.put 18 _ rfl rfl rfl rfl rfl rfl rfl rfl rfl h.am h.fl h.sam h.sfl
theorem WK.setAm {w wx : World} {K : Nat} {X : WkX} (h : WK w K X wx) (f : Option Addr) (c : Nat) (l : List AmtV) (ha : wx.ownsRow w.heap.size 53 2 (.slice f l.length c) l.length (celC amtE l)) (sa : l.length * 16 ≤ 140737488355328) : WK w K {X with fm := f, cm := c, am := l} (wx.setCell ⟨K, 19, none⟩ (.slice f l.length c)) :=
  h.put 19 _ rfl rfl rfl rfl rfl rfl rfl rfl rfl ha h.fl sa h.sfl
theorem WK.setFl {w wx : World} {K : Nat} {X : WkX} (h : WK w K X wx) (f : Option Addr) (c : Nat) (l : List FillV) (hf : wx.ownsRow w.heap.size 106 4 (.slice f l.length c) l.length (celC filE l)) (sf : l.length * 32 ≤ 140737488355328) : WK w K {X with ff := f, cf := c, fl := l} (wx.setCell ⟨K, 20, none⟩ (.slice f l.length c)) :=
  h.put 20 _ rfl rfl rfl rfl rfl rfl rfl rfl rfl h.am hf h.sam sf
theorem WK.setS {w wx : World} {K : Nat} {X : WkX} (h : WK w K X wx) (t : Nat) (ht : t < 4) (n : Int) : WK w K {X with s := Lg.upS X.s t n} (wx.setCell ⟨K, 13 + t, none⟩ (.int .i64 n)) := by
  refine h.put (13 + t) _ ?_ rfl rfl rfl rfl rfl rfl rfl rfl h.am h.fl h.sam h.sfl
  rcases (by omega : t = 0 ∨ t = 1 ∨ t = 2 ∨ t = 3) with rfl | rfl | rfl | rfl <;> rfl
theorem WK.putA {w wx : World} {K i : Nat} {X : WkX} (h : WK w K X wx) (hi : i < X.A.length) (x : AccX) (hx : AccOwn w.heap.size wx x) :
    WK w K {X with A := X.A.set i x} ((wx.setCell ⟨X.ga, i * 2, none⟩ (.slice x.fa x.v.l.length x.fc)).setCell ⟨X.ga, i * 2 + 1, none⟩ (.int .i64 x.v.ct)) := by
  obtain ⟨⟨cs, hg⟩, hgB⟩ := row_blk h.ac.row
  have hne := ty_ne h.box hg (by decide)
  have g1 := heap_set hg (i * 2) (.slice x.fa x.v.l.length x.fc)
  refine ⟨?_, h.ac.put hi x hx, (h.ln.set hg (by decide) (by decide) (by decide)).set g1 (by decide) (by decide) (by decide), ?_, own_cell (own_cell h.fl hg (by decide)) g1 (by decide), own_cell (own_cell h.ky hg (by decide)) g1 (by decide), h.sam, h.sfl, h.hK, belowSet _ (belowSet _ h.bel hgB) hgB⟩
  · have e : wkA {X with A := X.A.set i x} = wkA X := by simp only [wkA, List.length_set]
    rw [e]
    exact setOther _ (setOther _ h.box hne) hne
  · exact own_cell (own_cell h.am hg (by decide)) g1 (by decide)
theorem WK.putL {w wx : World} {K i : Nat} {X : WkX} (h : WK w K X wx) (hi : i < X.L.length) (x : LanX) (hx : LanOwn w.heap.size wx x) :
    WK w K {X with L := X.L.set i x} (((((wx.setCell ⟨X.gl, i * 5, none⟩ (.bool x.v.call)).setCell ⟨X.gl, i * 5 + 1, none⟩ (.int .i64 x.v.next)).setCell ⟨X.gl, i * 5 + 2, none⟩ (.slice x.ba x.v.bids.length x.bc)).setCell ⟨X.gl, i * 5 + 3, none⟩ (.slice x.aa x.v.asks.length x.ac)).setCell ⟨X.gl, i * 5 + 4, none⟩ (.slice x.oa x.v.owed.length x.oc)) := by
  obtain ⟨⟨cs, hg⟩, hgB⟩ := row_blk h.ln.row
  have hne := ty_ne h.box hg (by decide)
  have g1 := heap_set hg (i * 5) (.bool x.v.call)
  have g2 := heap_set g1 (i * 5 + 1) (.int .i64 x.v.next)
  have g3 := heap_set g2 (i * 5 + 2) (.slice x.ba x.v.bids.length x.bc)
  have g4 := heap_set g3 (i * 5 + 3) (.slice x.aa x.v.asks.length x.ac)
  refine ⟨?_, ((((h.ac.set hg (by decide) (by decide)).set g1 (by decide) (by decide)).set g2 (by decide) (by decide)).set g3 (by decide) (by decide)).set g4 (by decide) (by decide), h.ln.put hi x hx, own_cell (own_cell (own_cell (own_cell (own_cell h.am hg (by decide)) g1 (by decide)) g2 (by decide)) g3 (by decide)) g4 (by decide), own_cell (own_cell (own_cell (own_cell (own_cell h.fl hg (by decide)) g1 (by decide)) g2 (by decide)) g3 (by decide)) g4 (by decide), own_cell (own_cell (own_cell (own_cell (own_cell h.ky hg (by decide)) g1 (by decide)) g2 (by decide)) g3 (by decide)) g4 (by decide), h.sam, h.sfl, h.hK, belowSet _ (belowSet _ (belowSet _ (belowSet _ (belowSet _ h.bel hgB) hgB) hgB) hgB) hgB⟩
  have e : wkA {X with L := X.L.set i x} = wkA X := by simp only [wkA, List.length_set]
  rw [e]
  exact setOther _ (setOther _ (setOther _ (setOther _ (setOther _ h.box hne) hne) hne) hne) hne
theorem WK.acc {w wx : World} {K i : Nat} {X : WkX} (h : WK w K X wx) (hi : i < X.A.length) : (wx.cell? ⟨X.ga, i * 2, none⟩ = some (.slice (X.A[i]).fa (X.A[i]).v.l.length (X.A[i]).fc) ∧ wx.cell? ⟨X.ga, i * 2 + 1, none⟩ = some (.int .i64 (X.A[i]).v.ct)) ∧ (∀ j, wx.frozen? ⟨X.ga, j, none⟩ = false) ∧ X.ga < wx.heap.size ∧ Amts wx (.slice (X.A[i]).fa (X.A[i]).v.l.length (X.A[i]).fc) (X.A[i]).v.l := by
  obtain ⟨⟨cs, hg⟩, hgB⟩ := row_blk h.ac.row
  obtain ⟨a, c, e, _, hr⟩ := h.ac.at_.two
  obtain ⟨b, off, ha, hb, c0, c1⟩ := hr i hi
  simp only [Value.slice.injEq] at e
  rw [← e.1] at ha
  simp only [Option.some.injEq, Addr.mk.injEq] at ha
  obtain ⟨rfl, rfl, _⟩ := ha
  rw [Nat.zero_add] at c0 c1
  exact ⟨⟨c0, c1⟩, fun j => free_at hg j, hb, h.ac.at_.at_ _ (List.getElem_mem hi)⟩
theorem WK.lan {w wx : World} {K i : Nat} {X : WkX} (h : WK w K X wx) (hi : i < X.L.length) : (wx.cell? ⟨X.gl, i * 5, none⟩ = some (.bool (X.L[i]).v.call) ∧ wx.cell? ⟨X.gl, i * 5 + 1, none⟩ = some (.int .i64 (X.L[i]).v.next) ∧ wx.cell? ⟨X.gl, i * 5 + 2, none⟩ = some (.slice (X.L[i]).ba (X.L[i]).v.bids.length (X.L[i]).bc) ∧ wx.cell? ⟨X.gl, i * 5 + 3, none⟩ = some (.slice (X.L[i]).aa (X.L[i]).v.asks.length (X.L[i]).ac) ∧ wx.cell? ⟨X.gl, i * 5 + 4, none⟩ = some (.slice (X.L[i]).oa (X.L[i]).v.owed.length (X.L[i]).oc)) ∧ (∀ j, wx.frozen? ⟨X.gl, j, none⟩ = false) ∧ X.gl < wx.heap.size ∧ LanAt wx X.L[i] := by
  obtain ⟨⟨cs, hg⟩, hgB⟩ := row_blk h.ln.row
  obtain ⟨a, c, e, _, hr⟩ := h.ln.at_.five
  obtain ⟨b, off, ha, hb, c0, c1, c2, c3, c4⟩ := hr i hi
  simp only [Value.slice.injEq] at e
  rw [← e.1] at ha
  simp only [Option.some.injEq, Addr.mk.injEq] at ha
  obtain ⟨rfl, rfl, _⟩ := ha
  rw [Nat.zero_add] at c0 c1 c2 c3 c4
  exact ⟨⟨c0, c1, c2, c3, c4⟩, fun j => free_at hg j, hb, h.ln.at_.at_ _ (List.getElem_mem hi)⟩
def WkB (w : World) (K : Nat) (X : WkX) (Z : StV × Int) (e : Ending) (w' : World) : Prop := ∃ X' : WkX, e = .returned (.int .i64 Z.2) ∧ X'.st = Z.1 ∧ X'.fx = X.fx ∧ X'.A.length = X.A.length ∧ X'.L.length = X.L.length ∧ WK w K X' w'
theorem accD_at {X : WkX} {i : Nat} (hi : i < X.A.length) : accD X.st i = (X.A[i]).v := by
  unfold accD WkX.st
  simp [List.getD_eq_getElem?_getD, List.getElem?_map, List.getElem?_eq_getElem hi]
theorem lanD_at {X : WkX} {i : Nat} (hi : i < X.L.length) : lanD X.st i = (X.L[i]).v := by
  unfold lanD WkX.st
  simp [List.getD_eq_getElem?_getD, List.getElem?_map, List.getElem?_eq_getElem hi]
theorem st_setA {X : WkX} {i : Nat} {x : AccX} : WkX.st {X with A := X.A.set i x} = {X.st with a := X.st.a.set i x.v} := by
  simp [WkX.st, List.map_set]
theorem st_setL {X : WkX} {i : Nat} {x : LanX} : WkX.st {X with L := X.L.set i x} = {X.st with l := X.st.l.set i x.v} := by
  simp [WkX.st, List.map_set]
theorem SGot.amts {w : World} {v : Value} {l : List AmtV} (h : Amts w v l) : ∃ a c, v = .slice a l.length c ∧ l.length * 16 ≤ 140737488355328 ∧ ∀ i (h : i < l.length), ∃ b off, a = some ⟨b, off, none⟩ ∧ b < w.heap.size ∧ w.cell? ⟨b, off + i * 2, none⟩ = some (.int .i64 (l[i]).k) ∧ w.cell? ⟨b, off + i * 2 + 1, none⟩ = some (.int .i64 (l[i]).n) := by
  obtain ⟨h8, a, c, e, hc, hr⟩ := h
  refine ⟨a, c, e, h8, fun i hi => ?_⟩
  obtain ⟨b, off, ha, hb, hcell⟩ := hr (by omega)
  have g := celC_get amtK l i hi
  exact ⟨b, off, ha, hb, (hcell (i * 2) (by omega)).trans (g 0 (by omega)), (hcell (i * 2 + 1) (by omega)).trans (g 1 (by omega))⟩
set_option maxHeartbeats 4000000 in
theorem indexAm_is (g : Nat) (lb : Array Value) (eg : ∀ args w, (callFunc g args).run Tryz.prog w = .ok (.enter g args) w) (v : Value) (l : List AmtV) (p : AmtV → Bool) (w : World) (h : Amts w v l) (hp : ∀ x ∈ l, ∀ W, Below w.heap.size w W → Calls Tryz.prog g (#[.agg (amtE x).toArray] ++ lb) W fun e w' => e = .returned (.bool (p x)) ∧ Below w.heap.size w w') :
    Calls Tryz.prog 169 #[v, .func (.func g) #[] lb] w fun e w' => e = .returned (.int .i64 (idxI p l)) ∧ Below w.heap.size w w' := by
  obtain ⟨a, c, rfl, h8, hr⟩ := h.amts
  have HH := hideIt hr
  have HP := hideIt hp
  clear hr h hp
  go_enter Tryz.func169, Tryz.ntmps169
  go_wp2
  go_loopw [5, 8] (fun _ v wr => ∃ t : Nat, v = .int .i64 t ∧ t ≤ l.length ∧ Hid (l.findIdx? p = ((l.drop t).findIdx? p).map (· + t) ∧ Below w.heap.size w wr)) (fun _ v _ => l.length - (intOf v).toNat)
  case atStart => exact ⟨0, rfl, Nat.zero_le _, hideIt ⟨by simp, Below.refl _ _⟩⟩
  case round =>
    obtain ⟨t, rfl, ht, HR⟩ := hrel
    by_cases hlt : t < l.length
    · have hltI : (t : Int) < (l.length : Int) := by omega
      have ht0 : (0 : Int) ≤ (t : Int) := by omega
      have hw : IntKind.i64.wrap ((t : Int) + 1) = (t : Int) + 1 := by rw [IntKind.wrap_i64]; omega
      obtain ⟨b, off, rfl, hbl, q0, q1⟩ := HH.out t hlt
      have hB := HR.out.2
      have hBS := hB.size
      have hblr : b < wr.heap.size := by omega
      have c0 := ((HR.out.2).cell (p := ⟨b, off + t * 2, none⟩) hbl).trans q0
      have c1 := ((HR.out.2).cell (p := ⟨b, off + t * 2 + 1, none⟩) hbl).trans q1
      clear q0 q1
      have HC := hideIt (HP.out l[t] (List.getElem_mem hlt) wr hB)
      clear HH HP hB hBS hbl
      cases hq : p l[t]
      · rw [hq] at HC
        have HF : Hid (l.findIdx? p = ((l.drop (t + 1)).findIdx? p).map (· + (t + 1))) := by
          show _ = _
          rw [HR.out.1, fi_miss hlt hq, Option.map_map]
          congr 1
          funext x
          simp only [Function.comp]
          omega
        clear HR hq
        generalize l[t] = en at *
        obtain ⟨k1, n1⟩ := en
        unfold amtE at HC
        (try dsimp only at c0 c1 HC)
        go_wp2_with fail
        refine HC.out.mono ?_
        rintro e w' ⟨rfl, hb'⟩
        dsimp only
        go_wp2
        go_roundw
        case rel => exact ⟨t + 1, by go_num, by omega, hideIt ⟨HF.out, hb'⟩⟩
        case measure => simp [intOf]; omega
      · rw [hq] at HC
        have HF : Hid (idxI p l = (t : Int)) := by
          show _ = _
          unfold idxI
          rw [HR.out.1, fi_hit hlt hq]
          simp
        clear HR hq
        generalize l[t] = en at *
        obtain ⟨k1, n1⟩ := en
        unfold amtE at HC
        (try dsimp only at c0 c1 HC)
        go_wp2_with fail
        refine HC.out.mono ?_
        rintro e w' ⟨rfl, hb'⟩
        dsimp only
        go_wp2
        go_ret
        exact ⟨by rw [HF.out]; rfl, hb'⟩
    · have hltI : ¬ (t : Int) < (l.length : Int) := by omega
      have HF : Hid (idxI p l = -1) := by
        show _ = _
        unfold idxI
        rw [HR.out.1, List.drop_of_length_le (by omega)]
        rfl
      have HB := hideIt HR.out.2
      clear HR HP HH
      go_wp2
      go_ret
      exact ⟨by rw [HF.out]; rfl, HB.out⟩
set_option maxHeartbeats 4000000 in
theorem containsAm_is (g : Nat) (lb : Array Value) (eg : ∀ args w, (callFunc g args).run Tryz.prog w = .ok (.enter g args) w) (v : Value) (l : List AmtV) (p : AmtV → Bool) (w : World) (h : Amts w v l) (hp : ∀ x ∈ l, ∀ W, Below w.heap.size w W → Calls Tryz.prog g (#[.agg (amtE x).toArray] ++ lb) W fun e w' => e = .returned (.bool (p x)) ∧ Below w.heap.size w w') :
    Calls Tryz.prog 136 #[v, .func (.func g) #[] lb] w fun e w' => e = .returned (.bool (l.any p)) ∧ Below w.heap.size w w' := by
  have HC := hideIt (indexAm_is g lb eg v l p w h hp)
  obtain ⟨a, c, rfl, h8, hr⟩ := h.amts
  clear hr h hp
  have HE := hideIt (idx_any p l)
  generalize idxI p l = r at *
  generalize l.any p = q at *
  go_enter Tryz.func136, Tryz.ntmps136
  go_wp2_with fail
  refine HC.out.mono ?_
  rintro e w1 ⟨rfl, hb⟩
  dsimp only
  go_wp2
  go_ret
  exact ⟨by rw [HE.out]; rfl, hb⟩
set_option maxHeartbeats 4000000 in
theorem indexAc_is (g : Nat) (lb : Array Value) (eg : ∀ args w, (callFunc g args).run Tryz.prog w = .ok (.enter g args) w) (v : Value) (l : List AccX) (p : AccX → Bool) (w : World) (h : Accs w v l) (hp : ∀ x ∈ l, ∀ W, Below w.heap.size w W → Calls Tryz.prog g (#[.agg (accE x).toArray] ++ lb) W fun e w' => e = .returned (.bool (p x)) ∧ Below w.heap.size w w') :
    Calls Tryz.prog 61 #[v, .func (.func g) #[] lb] w fun e w' => e = .returned (.int .i64 (idxI p l)) ∧ Below w.heap.size w w' := by
  obtain ⟨a, c, rfl, h8, hr⟩ := h.two
  have HH := hideIt hr
  have HP := hideIt hp
  clear hr h hp
  go_enter Tryz.func61, Tryz.ntmps61
  go_wp2
  go_loopw [5, 8] (fun _ v wr => ∃ t : Nat, v = .int .i64 t ∧ t ≤ l.length ∧ Hid (l.findIdx? p = ((l.drop t).findIdx? p).map (· + t) ∧ Below w.heap.size w wr)) (fun _ v _ => l.length - (intOf v).toNat)
  case atStart => exact ⟨0, rfl, Nat.zero_le _, hideIt ⟨by simp, Below.refl _ _⟩⟩
  case round =>
    obtain ⟨t, rfl, ht, HR⟩ := hrel
    by_cases hlt : t < l.length
    · have hltI : (t : Int) < (l.length : Int) := by omega
      have ht0 : (0 : Int) ≤ (t : Int) := by omega
      have hw : IntKind.i64.wrap ((t : Int) + 1) = (t : Int) + 1 := by rw [IntKind.wrap_i64]; omega
      obtain ⟨b, off, rfl, hbl, q0, q1⟩ := HH.out t hlt
      have hB := HR.out.2
      have hBS := hB.size
      have hblr : b < wr.heap.size := by omega
      have c0 := ((HR.out.2).cell (p := ⟨b, off + t * 2, none⟩) hbl).trans q0
      have c1 := ((HR.out.2).cell (p := ⟨b, off + t * 2 + 1, none⟩) hbl).trans q1
      clear q0 q1
      have HC := hideIt (HP.out l[t] (List.getElem_mem hlt) wr hB)
      clear HH HP hB hBS hbl
      cases hq : p l[t]
      · rw [hq] at HC
        have HF : Hid (l.findIdx? p = ((l.drop (t + 1)).findIdx? p).map (· + (t + 1))) := by
          show _ = _
          rw [HR.out.1, fi_miss hlt hq, Option.map_map]
          congr 1
          funext x
          simp only [Function.comp]
          omega
        clear HR hq
        generalize l[t] = en at *
        obtain ⟨⟨k1, n1⟩, f1, f2⟩ := en
        unfold accE at HC
        (try dsimp only at c0 c1 HC)
        go_wp2_with fail
        refine HC.out.mono ?_
        rintro e w' ⟨rfl, hb'⟩
        dsimp only
        go_wp2
        go_roundw
        case rel => exact ⟨t + 1, by go_num, by omega, hideIt ⟨HF.out, hb'⟩⟩
        case measure => simp [intOf]; omega
      · rw [hq] at HC
        have HF : Hid (idxI p l = (t : Int)) := by
          show _ = _
          unfold idxI
          rw [HR.out.1, fi_hit hlt hq]
          simp
        clear HR hq
        generalize l[t] = en at *
        obtain ⟨⟨k1, n1⟩, f1, f2⟩ := en
        unfold accE at HC
        (try dsimp only at c0 c1 HC)
        go_wp2_with fail
        refine HC.out.mono ?_
        rintro e w' ⟨rfl, hb'⟩
        dsimp only
        go_wp2
        go_ret
        exact ⟨by rw [HF.out]; rfl, hb'⟩
    · have hltI : ¬ (t : Int) < (l.length : Int) := by omega
      have HF : Hid (idxI p l = -1) := by
        show _ = _
        unfold idxI
        rw [HR.out.1, List.drop_of_length_le (by omega)]
        rfl
      have HB := hideIt HR.out.2
      clear HR HP HH
      go_wp2
      go_ret
      exact ⟨by rw [HF.out]; rfl, HB.out⟩
set_option maxHeartbeats 4000000 in
theorem containsAc_is (g : Nat) (lb : Array Value) (eg : ∀ args w, (callFunc g args).run Tryz.prog w = .ok (.enter g args) w) (v : Value) (l : List AccX) (p : AccX → Bool) (w : World) (h : Accs w v l) (hp : ∀ x ∈ l, ∀ W, Below w.heap.size w W → Calls Tryz.prog g (#[.agg (accE x).toArray] ++ lb) W fun e w' => e = .returned (.bool (p x)) ∧ Below w.heap.size w w') :
    Calls Tryz.prog 36 #[v, .func (.func g) #[] lb] w fun e w' => e = .returned (.bool (l.any p)) ∧ Below w.heap.size w w' := by
  have HC := hideIt (indexAc_is g lb eg v l p w h hp)
  obtain ⟨a, c, rfl, h8, hr⟩ := h.two
  clear hr h hp
  have HE := hideIt (idx_any p l)
  generalize idxI p l = r at *
  generalize l.any p = q at *
  go_enter Tryz.func36, Tryz.ntmps36
  go_wp2_with fail
  refine HC.out.mono ?_
  rintro e w1 ⟨rfl, hb⟩
  dsimp only
  go_wp2
  go_ret
  exact ⟨by rw [HE.out]; rfl, hb⟩
set_option maxHeartbeats 4000000 in
theorem indexLn_is (g : Nat) (lb : Array Value) (eg : ∀ args w, (callFunc g args).run Tryz.prog w = .ok (.enter g args) w) (v : Value) (l : List LanX) (p : LanX → Bool) (w : World) (h : Lns w v l) (hp : ∀ x ∈ l, ∀ W, Below w.heap.size w W → Calls Tryz.prog g (#[.agg (lanE x).toArray] ++ lb) W fun e w' => e = .returned (.bool (p x)) ∧ Below w.heap.size w w') :
    Calls Tryz.prog 64 #[v, .func (.func g) #[] lb] w fun e w' => e = .returned (.int .i64 (idxI p l)) ∧ Below w.heap.size w w' := by
  obtain ⟨a, c, rfl, h8, hr⟩ := h.five
  have HH := hideIt hr
  have HP := hideIt hp
  clear hr h hp
  go_enter Tryz.func64, Tryz.ntmps64
  go_wp2
  go_loopw [5, 8] (fun _ v wr => ∃ t : Nat, v = .int .i64 t ∧ t ≤ l.length ∧ Hid (l.findIdx? p = ((l.drop t).findIdx? p).map (· + t) ∧ Below w.heap.size w wr)) (fun _ v _ => l.length - (intOf v).toNat)
  case atStart => exact ⟨0, rfl, Nat.zero_le _, hideIt ⟨by simp, Below.refl _ _⟩⟩
  case round =>
    obtain ⟨t, rfl, ht, HR⟩ := hrel
    by_cases hlt : t < l.length
    · have hltI : (t : Int) < (l.length : Int) := by omega
      have ht0 : (0 : Int) ≤ (t : Int) := by omega
      have hw : IntKind.i64.wrap ((t : Int) + 1) = (t : Int) + 1 := by rw [IntKind.wrap_i64]; omega
      obtain ⟨b, off, rfl, hbl, q0, q1, q2, q3, q4⟩ := HH.out t hlt
      have hB := HR.out.2
      have hBS := hB.size
      have hblr : b < wr.heap.size := by omega
      have c0 := ((HR.out.2).cell (p := ⟨b, off + t * 5, none⟩) hbl).trans q0
      have c1 := ((HR.out.2).cell (p := ⟨b, off + t * 5 + 1, none⟩) hbl).trans q1
      have c2 := ((HR.out.2).cell (p := ⟨b, off + t * 5 + 2, none⟩) hbl).trans q2
      have c3 := ((HR.out.2).cell (p := ⟨b, off + t * 5 + 3, none⟩) hbl).trans q3
      have c4 := ((HR.out.2).cell (p := ⟨b, off + t * 5 + 4, none⟩) hbl).trans q4
      clear q0 q1 q2 q3 q4
      have HC := hideIt (HP.out l[t] (List.getElem_mem hlt) wr hB)
      clear HH HP hB hBS hbl
      cases hq : p l[t]
      · rw [hq] at HC
        have HF : Hid (l.findIdx? p = ((l.drop (t + 1)).findIdx? p).map (· + (t + 1))) := by
          show _ = _
          rw [HR.out.1, fi_miss hlt hq, Option.map_map]
          congr 1
          funext x
          simp only [Function.comp]
          omega
        clear HR hq
        generalize l[t] = en at *
        obtain ⟨⟨k1, n1, l1, l2, l3⟩, f1, f2, f3, f4, f5, f6⟩ := en
        unfold lanE at HC
        (try dsimp only at c0 c1 c2 c3 c4 HC)
        go_wp2_with fail
        refine HC.out.mono ?_
        rintro e w' ⟨rfl, hb'⟩
        dsimp only
        go_wp2
        go_roundw
        case rel => exact ⟨t + 1, by go_num, by omega, hideIt ⟨HF.out, hb'⟩⟩
        case measure => simp [intOf]; omega
      · rw [hq] at HC
        have HF : Hid (idxI p l = (t : Int)) := by
          show _ = _
          unfold idxI
          rw [HR.out.1, fi_hit hlt hq]
          simp
        clear HR hq
        generalize l[t] = en at *
        obtain ⟨⟨k1, n1, l1, l2, l3⟩, f1, f2, f3, f4, f5, f6⟩ := en
        unfold lanE at HC
        (try dsimp only at c0 c1 c2 c3 c4 HC)
        go_wp2_with fail
        refine HC.out.mono ?_
        rintro e w' ⟨rfl, hb'⟩
        dsimp only
        go_wp2
        go_ret
        exact ⟨by rw [HF.out]; rfl, hb'⟩
    · have hltI : ¬ (t : Int) < (l.length : Int) := by omega
      have HF : Hid (idxI p l = -1) := by
        show _ = _
        unfold idxI
        rw [HR.out.1, List.drop_of_length_le (by omega)]
        rfl
      have HB := hideIt HR.out.2
      clear HR HP HH
      go_wp2
      go_ret
      exact ⟨by rw [HF.out]; rfl, HB.out⟩
set_option maxHeartbeats 4000000 in
theorem containsLn_is (g : Nat) (lb : Array Value) (eg : ∀ args w, (callFunc g args).run Tryz.prog w = .ok (.enter g args) w) (v : Value) (l : List LanX) (p : LanX → Bool) (w : World) (h : Lns w v l) (hp : ∀ x ∈ l, ∀ W, Below w.heap.size w W → Calls Tryz.prog g (#[.agg (lanE x).toArray] ++ lb) W fun e w' => e = .returned (.bool (p x)) ∧ Below w.heap.size w w') :
    Calls Tryz.prog 39 #[v, .func (.func g) #[] lb] w fun e w' => e = .returned (.bool (l.any p)) ∧ Below w.heap.size w w' := by
  have HC := hideIt (indexLn_is g lb eg v l p w h hp)
  obtain ⟨a, c, rfl, h8, hr⟩ := h.five
  clear hr h hp
  have HE := hideIt (idx_any p l)
  generalize idxI p l = r at *
  generalize l.any p = q at *
  go_enter Tryz.func39, Tryz.ntmps39
  go_wp2_with fail
  refine HC.out.mono ?_
  rintro e w1 ⟨rfl, hb⟩
  dsimp only
  go_wp2
  go_ret
  exact ⟨by rw [HE.out]; rfl, hb⟩
theorem egAbv : ∀ args w, (callFunc 137 args).run Tryz.prog w = .ok (.enter 137 args) w := enters_of Tryz.func137 (by kernel_rfl) rfl
theorem abv1_is (x : AmtV) (most : Int) (p : Nat) (W : World) (hp : W.cell? ⟨p, 0, none⟩ = some (.int .i64 most)) : Calls Tryz.prog 137 (#[.agg (amtE x).toArray] ++ #[.pointer (some ⟨p, 0, none⟩)]) W fun e w' => e = .returned (.bool (decide (most < x.n))) ∧ Below W.heap.size W w' := by
  have hpl : p < W.heap.size := by
    apply Classical.byContradiction
    intro h
    have : W.heap[p]? = none := Array.getElem?_eq_none (by omega)
    simp [World.cell?, this] at hp
  obtain ⟨k, n⟩ := x
  have hc : (W.alloc (.cells #[.int .i64 k, .int .i64 n] 53)).cell? ⟨p, 0, none⟩ = some (.int .i64 most) := ((below1 W _).cell hpl).trans hp
  show Calls Tryz.prog 137 #[.agg #[.int .i64 k, .int .i64 n], .pointer (some ⟨p, 0, none⟩)] W _
  go_enter Tryz.func137, Tryz.ntmps137
  go_wp2
  go_ret
  exact ⟨rfl, below1 W _⟩
set_option maxHeartbeats 1000000 in
theorem hasAbove_is (v : Value) (l : List AmtV) (most : Int) (w : World) (h : Amts w v l) : Calls Tryz.prog 109 #[v, .int .i64 most] w fun e w' => e = .returned (.bool (aboveB Lg.AmtV.n l most)) ∧ Below w.heap.size w w' := by
  have hb1 := below1 w (.cells #[.int .i64 most] 3)
  have hc0 : (w.alloc (.cells #[.int .i64 most] 3)).cell? ⟨w.heap.size, 0, none⟩ = some (.int .i64 most) := by rw [cell_at (heap_alloc_new w _)]; rfl
  have HC := hideIt (containsAm_is 137 #[.pointer (some ⟨w.heap.size, 0, none⟩)] egAbv v l (fun x => decide (most < x.n)) (w.alloc (.cells #[.int .i64 most] 3)) (h.keep hb1) (fun x _ W hW => (abv1_is x most w.heap.size W ((hW.cell (by simp)).trans hc0)).mono (fun _ _ hh => ⟨hh.1, below_via hW hh.2⟩)))
  have HB := hideIt hb1
  obtain ⟨a, c, rfl⟩ := h.slice
  clear hb1 hc0 h
  unfold aboveB
  generalize l.length = n at *
  generalize l.any (fun e => decide (most < e.n)) = q at *
  go_enter Tryz.func109, Tryz.ntmps109
  go_wp2_with fail
  refine HC.out.mono ?_
  rintro e w1 ⟨rfl, hb⟩
  dsimp only
  go_wp2
  go_ret
  exact ⟨rfl, below_via HB.out hb⟩
theorem egM1 : ∀ args w, (callFunc 37 args).run Tryz.prog w = .ok (.enter 37 args) w := enters_of Tryz.func37 (by kernel_rfl) rfl
theorem egM2 : ∀ args w, (callFunc 40 args).run Tryz.prog w = .ok (.enter 40 args) w := enters_of Tryz.func40 (by kernel_rfl) rfl
theorem mdlA_is (x : AccX) (W : World) (h : AccAt W x) : Calls Tryz.prog 37 (#[.agg (accE x).toArray] ++ #[]) W fun e w' => e = .returned (.bool (!Lg.accB x.v)) ∧ Below W.heap.size W w' := by
  obtain ⟨⟨l, ct⟩, fa, fc⟩ := x
  have hb1 := below1 W (.cells #[.slice fa l.length fc, .int .i64 ct] 44)
  have HC := hideIt (Lg.check_is ⟨l, ct⟩ (.slice fa l.length fc) _ (SGot.keep h hb1))
  have HB := hideIt hb1
  have HI : Hid (Lg.chkI ⟨l, ct⟩ = if Lg.accB ⟨l, ct⟩ then 0 else 120) := rfl
  clear hb1 h
  unfold Lg.accV Lg.accA at HC
  show Calls Tryz.prog 37 #[.agg #[.slice fa l.length fc, .int .i64 ct]] W _
  simp only at *
  generalize Lg.chkI ⟨l, ct⟩ = ck at *
  generalize Lg.accB ⟨l, ct⟩ = ab at *
  generalize l.length = n at *
  go_enter Tryz.func37, Tryz.ntmps37
  go_wp2_with fail
  refine HC.out.mono ?_
  rintro e w1 ⟨rfl, hb⟩
  dsimp only
  have hi := HI.out
  subst hi
  clear HI HC
  cases ab
  · simp only [Bool.false_eq_true, if_false, Bool.not_false]
    go_wp2
    go_ret
    exact ⟨rfl, below_via HB.out hb⟩
  · simp only [if_true, Bool.not_true]
    go_wp2
    go_ret
    exact ⟨rfl, below_via HB.out hb⟩
theorem mdlL_is (x : LanX) (W : World) (h : LanAt W x) : Calls Tryz.prog 40 (#[.agg (lanE x).toArray] ++ #[]) W fun e w' => e = .returned (.bool (!chkB x.v)) ∧ Below W.heap.size W w' := by
  obtain ⟨⟨call, next, bids, asks, owed⟩, ba, bc, aa, ac, oa, oc⟩ := x
  have hb1 := below1 W (.cells #[.bool call, .int .i64 next, .slice ba bids.length bc, .slice aa asks.length ac, .slice oa owed.length oc] 59)
  have HC := hideIt (check_is ⟨call, next, bids, asks, owed⟩ (.slice ba bids.length bc) (.slice aa asks.length ac) (.slice oa owed.length oc) _ (Lan.keep h hb1))
  have HB := hideIt hb1
  have HI : Hid (chkI ⟨call, next, bids, asks, owed⟩ = if chkB ⟨call, next, bids, asks, owed⟩ then 0 else 130) := rfl
  clear hb1 h
  unfold laneV laneA at HC
  show Calls Tryz.prog 40 #[.agg #[.bool call, .int .i64 next, .slice ba bids.length bc, .slice aa asks.length ac, .slice oa owed.length oc]] W _
  simp only at *
  generalize chkI ⟨call, next, bids, asks, owed⟩ = ck at *
  generalize chkB ⟨call, next, bids, asks, owed⟩ = ab at *
  generalize bids.length = n1 at *
  generalize asks.length = n2 at *
  generalize owed.length = n3 at *
  go_enter Tryz.func40, Tryz.ntmps40
  go_wp2_with fail
  refine HC.out.mono ?_
  rintro e w1 ⟨rfl, hb⟩
  dsimp only
  have hi := HI.out
  subst hi
  clear HI HC
  cases ab
  · simp only [Bool.false_eq_true, if_false, Bool.not_false]
    go_wp2
    go_ret
    exact ⟨rfl, below_via HB.out hb⟩
  · simp only [if_true, Bool.not_true]
    go_wp2
    go_ret
    exact ⟨rfl, below_via HB.out hb⟩
theorem any_all {α β : Type} (f : α → β) (p : β → Bool) (l : List α) : (!l.any (fun x => !p (f x))) = (l.map f).all p := by
  induction l with
  | nil => rfl
  | cons x l ih => simp only [List.any_cons, List.map_cons, List.all_cons, Bool.not_or, Bool.not_not, ih]
set_option maxHeartbeats 4000000 in
set_option maxRecDepth 100000 in
theorem mayBe_is (va vl : Value) (M : MdlV) (w : World) (h : Mdl w va vl M) : Calls Tryz.prog 20 #[.agg #[va, vl]] w fun e w' => e = .returned (.bool (mayM M)) ∧ Below w.heap.size w w' := by
  obtain ⟨⟨xs, hx, h1⟩, ys, hy, h2⟩ := h
  have hb1 := below1 w (.cells #[va, vl] 30)
  have HA := hideIt (containsAc_is 37 #[] egM1 va xs (fun x => !Lg.accB x.v) _ (h1.keep hb1) (fun x hx W hW => (mdlA_is x W (((h1.keep hb1).at_ x hx).keep hW)).mono (fun _ _ hh => ⟨hh.1, below_via hW hh.2⟩)))
  have HL := hideIt (fun W (hW : Below w.heap.size w W) => containsLn_is 40 #[] egM2 vl ys (fun x => !chkB x.v) W (h2.keep hW) (fun x hx W2 hW2 => (mdlL_is x W2 (((h2.keep hW).at_ x hx).keep hW2)).mono (fun _ _ hh => ⟨hh.1, below_via hW2 hh.2⟩)))
  have HB := hideIt hb1
  have HE : Hid (mayM M = (decide (xs.length = 8) && (decide (ys.length = 3) && (!(xs.any (fun x => !Lg.accB x.v)) && !(ys.any (fun x => !chkB x.v)))))) := by
    show _ = _
    unfold mayM
    rw [any_all AccX.v Lg.accB, any_all LanX.v chkB, hx, hy, ← hx, ← hy, List.length_map, List.length_map]
  obtain ⟨aa, ac, rfl⟩ := h1.row.slice
  obtain ⟨la, lc, rfl⟩ := h2.row.slice
  clear hb1 h1 h2 hx hy
  rw [HE.out]
  clear HE
  generalize xs.any (fun x => !Lg.accB x.v) = p at *
  generalize ys.any (fun x => !chkB x.v) = q at *
  generalize xs.length = n at *
  generalize ys.length = k at *
  by_cases e8 : n = 8
  · by_cases e3 : k = 3
    · subst e8 e3
      cases p
      · go_enter Tryz.func20, Tryz.ntmps20
        go_wp2_with fail
        refine HA.out.mono ?_
        rintro e w1 ⟨rfl, hb⟩
        dsimp only
        have HB2 := hideIt (below_via HB.out hb)
        have cl : w1.cell? ⟨w.heap.size, 1, none⟩ = some (.slice la 3 lc) := (box_cell hb 1).trans rfl
        clear HA HB hb
        go_wp2_with fail
        refine (HL.out _ HB2.out).mono ?_
        rintro e w2 ⟨rfl, hb⟩
        dsimp only
        go_wp2
        go_ret
        exact ⟨by simp, below_via HB2.out hb⟩
      · go_enter Tryz.func20, Tryz.ntmps20
        go_wp2_with fail
        refine HA.out.mono ?_
        rintro e w1 ⟨rfl, hb⟩
        dsimp only
        go_wp2
        go_ret
        exact ⟨by simp, below_via HB.out hb⟩
    · have e3I : ((k : Int) == 3) = false := beq_eq_false_iff_ne.2 (by omega)
      have E3 : decide (k = 3) = false := decide_eq_false e3
      subst e8
      go_enter Tryz.func20, Tryz.ntmps20
      go_wp2
      go_ret
      exact ⟨by rw [E3]; simp, HB.out⟩
  · have e8I : ((n : Int) == 8) = false := beq_eq_false_iff_ne.2 (by omega)
    have E8 : decide (n = 8) = false := decide_eq_false e8
    go_enter Tryz.func20, Tryz.ntmps20
    go_wp2
    go_ret
    exact ⟨by rw [E8]; simp, HB.out⟩
end Go.Proofs.YtiinigifjdpicaaGreatDoor
namespace Go.Proofs.YtiinigifjdpicaaGreatDoor.Se
open Go.RowKit
set_option linter.all false
theorem app_none {t e : TypeId} {z : Value} {k bytes : Nat} (ht : Tryz.prog.underlying t = some (.slice e)) (hi : (Tryz.prog.info? e).map (fun i => (i.zero, i.size, i.bytes)) = some (some z, k, bytes)) (w : World) (B : Nat) (v : Value) (n : Nat) (xs : List Value) (hown : w.ownsRow B e k v n xs) (c : Nat) : (Builtin.append_ #[t, t] t #[v, .slice none 0 c]).run Tryz.prog w = .ok v w := by
  obtain ⟨i, hi, hz0, hz1, hz2⟩ := info_parts hi
  rcases hown.2 with ⟨rfl, rfl⟩ | ⟨g, cap, cur, rfl, _, _, hnc, _⟩
  · simp [Builtin.append_, run_underlying ht, sizeOf, typeInfo, hi, Builtin.lenOf, Builtin.firstCells]
  · simp [Builtin.append_, run_underlying ht, sizeOf, typeInfo, hi, Builtin.lenOf, Builtin.firstCells, hnc, storeCells]

theorem appG {α : Type} {k bytes : Nat} {enc : α → List Value} {t e : TypeId} {z : Value} (hk : ∀ x, (enc x).length = k) (h1 : ∀ x, ∀ u ∈ enc x, u.oneCell' = true) (ht : Tryz.prog.underlying t = some (.slice e))
    (hi : (Tryz.prog.info? e).map (fun i => (i.zero, i.size, i.bytes)) = some (some z, k, bytes)) (hz : z.cells.size = k) (hk0 : 0 < k) (hb0 : 8 ≤ bytes) (w : World) (B : Nat) (v g : Value) (xs l : List α) (hB : B ≤ w.heap.size)
    (ho : w.ownsRow B e k v xs.length (celC enc xs)) (hg : SGot k bytes enc w g l) (hl : (xs.length + l.length) * bytes ≤ 140737488355328) :
    ∃ v' w', (Builtin.append_ #[t, t] t #[v, g]).run Tryz.prog w = .ok v' w' ∧ w'.ownsRow B e k v' (xs ++ l).length (celC enc (xs ++ l)) ∧ w.grownBy w' v.ownBlock := by
  obtain ⟨a, c, rfl⟩ := hg.slice
  cases a with
  | none =>
    have h0 : l.length = 0 := by
      obtain ⟨_, a', c', e', _, hr⟩ := hg
      simp only [Value.slice.injEq] at e'
      rcases Nat.eq_zero_or_pos l.length with h0 | h0
      · exact h0
      · obtain ⟨b, off, hb, _⟩ := hr h0
        rw [← e'.1] at hb
        cases hb
    have hl0 : l = [] := List.length_eq_zero_iff.1 h0
    subst hl0
    rw [List.append_nil]
    exact ⟨v, w, app_none ht hi w B v xs.length (celC enc xs) ho c, ho, grown_refl w _⟩
  | some b => exact appL hk h1 ht hi hz hk0 hb0 w B v xs l b l.length c rfl hB ho hg hl
set_option maxHeartbeats 4000000 in
theorem grow_is (n : Nat) (w : World) (hn : n ≤ 1000) : Calls Tryz.prog 74 #[.slice none 0 0, .int .i64 (n : Int)] w fun e w' => ∃ v, e = .returned v ∧ w'.ownsRow w.heap.size 24 2 v 0 [] ∧ Below w.heap.size w w' := by
  rcases Nat.eq_zero_or_pos n with rfl | hp
  · go_enter Tryz.func74, Tryz.ntmps74
    go_wp2
    go_ret
    exact ⟨_, rfl, ⟨rfl, .inl ⟨rfl, rfl⟩⟩, Below.refl _ _⟩
  · obtain ⟨i, hi, hz0, hz1, hz2⟩ := info_parts info23
    have hrun := Lib.run_append_nil_zeros (P := Tryz.prog) w 48 3 48 24 i _ .i64 .i64 Tryz.underlying48 Tryz.underlying3 hi hz0 n hp (by omega) (by omega) (by rw [hz2]; omega)
    have hcap := grownCap_ge w n 0 24
    have hcm := grownCap_le_maxLen w n 0 24 (by unfold maxLen; omega)
    generalize grownCap w n 0 24 = cap at *
    obtain ⟨W, HRUN, hH⟩ : ∃ W, Hid ((Builtin.append_ #[48, 3] 48 #[.slice none 0 0, .int .i64 (n : Int)]).run Tryz.prog w = .ok (.slice (some ⟨w.heap.size, 0, none⟩) n cap) W) ∧ Hid (W.ownsRow w.heap.size 24 2 (.slice (some ⟨w.heap.size, 0, none⟩) 0 cap) 0 [] ∧ Below w.heap.size w W) := by
      refine ⟨_, hrun, ⟨rfl, .inr ⟨w.heap.size, cap, _, rfl, Nat.le_refl _, heap_alloc_new w.drew _, Nat.zero_le _, hcm, ?_, by simp⟩⟩, (Below.refl _ w).drew.alloc (Nat.le_refl _) _⟩
      rw [Array.size_append, size_zeroCells, size_zeroCells]
      show n * 2 + (cap - n) * 2 = cap * 2
      omega
    have hnI : (0 : Int) < (n : Int) := by omega
    have hn0 : ¬ ((n : Int) < 0) := by omega
    have hcapI : (0 : Int) ≤ (cap : Int) := by omega
    clear hi hz0 hz1 hz2 hcm hrun
    go_enter Tryz.func74, Tryz.ntmps74
    go_wp2_with (at_builtin; refine Lib.wpList_append_run _ rfl _ _ _ _ rfl _ _ rfl rfl _ _ HRUN.out ?_)
    clear HRUN
    go_wp2
    go_ret
    exact ⟨_, rfl, hH.out.1, hH.out.2⟩
def LsGot (w : World) (v : Value) (gs : List Value) (ls : List (List KeyV)) : Prop :=
  gs.length = ls.length ∧ ∃ a c, v = .slice a ls.length c ∧ ∀ j (h : j < ls.length) (h2 : j < gs.length), ∃ b off, a = some ⟨b, off, none⟩ ∧ b < w.heap.size ∧ w.cell? ⟨b, off + j, none⟩ = some gs[j] ∧ SGot 2 16 keyE w gs[j] ls[j]
theorem flat_step (ls : List (List KeyV)) (t : Nat) (h : t < ls.length) : (ls.take (t + 1)).flatten = (ls.take t).flatten ++ ls[t] := by
  rw [List.take_succ_eq_append_getElem h, List.flatten_append]
  simp
theorem flat_le (ls : List (List KeyV)) (t : Nat) : (ls.take t).flatten.length ≤ ls.flatten.length := by
  have : ls.flatten.length = (ls.take t).flatten.length + (ls.drop t).flatten.length := by
    rw [← List.length_append, ← List.flatten_append, List.take_append_drop]
  omega
set_option maxHeartbeats 8000000 in
set_option maxRecDepth 100000 in
theorem concat_is (v : Value) (gs : List Value) (ls : List (List KeyV)) (l : List KeyV) (hf : ls.flatten = l) (w : World) (h : LsGot w v gs ls) (hl : l.length ≤ 1000) (hll : ls.length ≤ 1000) : Calls Tryz.prog 50 #[v] w fun e w' => ∃ r, e = .returned r ∧ w'.ownsRow w.heap.size 24 2 r l.length (celC keyE l) ∧ Below w.heap.size w w' := by
  obtain ⟨hgl, a, c, rfl, hr⟩ := h
  have HR := hideIt hr
  have HG := hideIt (grow_is l.length w hl)
  have HF := hideIt (flat_step ls)
  have HFL := hideIt (flat_le ls)
  rw [hf] at HFL
  have HHF := hideIt hf
  clear hf
  clear hr
  go_enter Tryz.func50, Tryz.ntmps50
  go_wp2
  go_loopw [3, 11] (fun u x wr => ∃ t : Nat, u = .int .i64 ((ls.take t).flatten.length : Int) ∧ x = .int .i64 t ∧ t ≤ ls.length ∧ wr = w) (fun _ x _ => ls.length - (intOf x).toNat)
  case atStart => exact ⟨0, rfl, rfl, Nat.zero_le _, rfl⟩
  case round =>
    obtain ⟨t, rfl, rfl, ht, hw⟩ := hrel
    have hw2 := hw.symm
    subst hw2
    clear hw
    by_cases hlt : t < ls.length
    · have hltI : (t : Int) < (ls.length : Int) := by omega
      have ht0 : (0 : Int) ≤ (t : Int) := by omega
      obtain ⟨b, off, rfl, hbl, q0, hE⟩ := HR.out t hlt (by omega)
      obtain ⟨ga, gc, hg⟩ := hE.slice
      rw [hg] at q0
      have h1 := HFL.out t
      have h2 := HFL.out (t + 1)
      have h3 : ((ls.take (t + 1)).flatten.length : Int) = ((ls.take t).flatten.length : Int) + (ls[t].length : Int) := by
        rw [HF.out t hlt, List.length_append]
        omega
      have H3 := hideIt h3
      generalize ((ls.take t).flatten.length) = n1 at *
      generalize (ls[t]).length = n2 at *
      have h4 : n1 + n2 ≤ 1000 := by omega
      have h5 : ¬ ((n1 : Int) + (n2 : Int) < 0) := by omega
      clear hE h1 h2 h3
      go_wp2
      go_roundw
      case rel => exact ⟨t + 1, by rw [H3.out], by go_num, by omega, by first | rfl | trivial⟩
      case measure => simp [intOf]; omega
    · have hltI : ¬ (t : Int) < (ls.length : Int) := by omega
      have ht9 : ls.take t = ls := List.take_of_length_le (by omega)
      rw [ht9, HHF.out]
      go_wp2_with fail
      refine HG.out.mono ?_
      rintro e w1 ⟨v0, rfl, ho, hb⟩
      dsimp only
      have HO := hideIt (And.intro ho hb)
      clear ho hb HG ht9
      go_wp2
      go_loopw [6, 27] (fun u x wr => ∃ t : Nat, x = .int .i64 t ∧ t ≤ ls.length ∧ Hid (wr.ownsRow w.heap.size 24 2 u (ls.take t).flatten.length (celC keyE (ls.take t).flatten) ∧ Below w.heap.size w wr)) (fun _ x _ => ls.length - (intOf x).toNat)
      case atStart => exact ⟨0, rfl, Nat.zero_le _, HO⟩
      case round =>
        clear HO
        obtain ⟨s, rfl, hs, HO⟩ := hrel
        by_cases hls : s < ls.length
        · have hlsI : (s : Int) < (ls.length : Int) := by omega
          have hs0 : (0 : Int) ≤ (s : Int) := by omega
          obtain ⟨b, off, rfl, hbl, q0, hE⟩ := HR.out s hls (by omega)
          have q1 := (HO.out.2.cell (p := ⟨b, off + s, none⟩) hbl).trans q0
          have h2 := HFL.out (s + 1)
          rw [HF.out s hls, List.length_append] at h2
          obtain ⟨v', w', hrun, how, hgr⟩ := appG (enc := keyE) (t := 48) keyK key1 Tryz.underlying48 info23 rfl (by omega) (by omega) wr w.heap.size u6 gs[s] (ls.take s).flatten ls[s] HO.out.2.size HO.out.1 (hE.keep HO.out.2) (by omega)
          rw [← HF.out s hls] at how
          have HN := hideIt (And.intro how (grown_own hgr HO.out.1 (Nat.le_refl _) HO.out.2))
          generalize gs[s] = gv at *
          have HRUN := hideIt hrun
          clear hrun how hgr q0 hE h2 HO
          go_wp2_with (at_builtin; refine Lib.wpList_append_run _ rfl _ _ _ _ rfl _ _ rfl rfl _ _ HRUN.out ?_)
          clear HRUN q1
          go_wp2
          go_roundw
          case rel => exact ⟨s + 1, by go_num, by omega, HN⟩
          case measure => simp [intOf]; omega
        · have hlsI : ¬ (s : Int) < (ls.length : Int) := by omega
          have hs9 : ls.take s = ls := List.take_of_length_le (by omega)
          rw [hs9, HHF.out] at HO
          go_wp2
          go_ret
          exact ⟨_, rfl, HO.out.1, HO.out.2⟩
theorem SGot.part {α : Type} {k bytes : Nat} {enc : α → List Value} (hk : ∀ x, (enc x).length = k) {w : World} {a : Option Addr} {c : Nat} {l : List α} (h : SGot k bytes enc w (.slice a l.length c) l) (p n c2 : Nat) (hp : p + n ≤ l.length) (hc2 : n ≤ c2 ∧ c2 ≤ maxLen) (a2 : Option Addr) (ha : 0 < n → ∀ b off, a = some ⟨b, off, none⟩ → a2 = some ⟨b, off + p * k, none⟩) : SGot k bytes enc w (.slice a2 n c2) ((l.drop p).take n) := by
  have hlen : ((l.drop p).take n).length = n := by
    rw [List.length_take, List.length_drop]
    omega
  obtain ⟨h8, a', c', e, _, hr⟩ := h
  simp only [Value.slice.injEq] at e
  obtain ⟨rfl, _, _⟩ := e
  refine ⟨?_, a2, c2, by rw [hlen], by rw [hlen]; exact hc2, fun hp0 => ?_⟩
  · rw [hlen]
    exact Nat.le_trans (Nat.mul_le_mul_right _ (by omega)) h8
  rw [hlen] at hp0
  obtain ⟨b, off, rfl, hlt, hc⟩ := hr (by omega)
  refine ⟨b, off + p * k, ha hp0 b off rfl, hlt, fun j hj => ?_⟩
  rw [hlen] at hj
  have hpj : p * k + j < l.length * k := by
    have : p * k + n * k ≤ l.length * k := by rw [← Nat.add_mul]; exact Nat.mul_le_mul_right _ hp
    omega
  rw [show off + p * k + j = off + (p * k + j) by omega, hc (p * k + j) hpj]
  have e1 : celC enc l = celC enc (l.take p) ++ (celC enc ((l.drop p).take n) ++ celC enc ((l.drop p).drop n)) := by
    rw [← celC_app, ← celC_app, List.take_append_drop, List.take_append_drop]
  have l1 : (celC enc (l.take p)).length = p * k := by
    rw [celC_len hk, List.length_take]
    congr 1
    omega
  rw [e1, List.getElem?_append_right (by omega), l1, Nat.add_sub_cancel_left, List.getElem?_append_left (by rw [celC_len hk, hlen]; exact hj)]
end Go.Proofs.YtiinigifjdpicaaGreatDoor.Se
