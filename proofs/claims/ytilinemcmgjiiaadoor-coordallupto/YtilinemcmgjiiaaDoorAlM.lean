/- CoordAll: walked. -/
import Derived.Test.YtilinemcmgjiiaaDoorCoA
import Derived.BigQuiet
import Derived.Deep.CutRange
import Derived.Deep.RegionHeld3
namespace Go.Proofs.YtilinemcmgjiiaaDoor
open Go.RowKit
set_option linter.all false
def votE (x : VotV) : List Value := [.int .i64 x.1, .int .i64 x.2.1, .int .i64 x.2.2.1, .int .i64 x.2.2.2.1, .int .i64 x.2.2.2.2]
theorem votK (x : VotV) : (votE x).length = 5 := rfl
theorem vot1 (x : VotV) : ∀ u ∈ votE x, u.oneCell' = true := by
  intro u hu
  simp only [votE, List.mem_cons, List.not_mem_nil, or_false] at hu
  rcases hu with rfl | rfl | rfl | rfl | rfl <;> rfl
theorem infoVot : (Tryd.prog.info? 60).map (fun i => (i.zero, i.size, i.bytes)) = some (some (.agg #[.int .i64 0, .int .i64 0, .int .i64 0, .int .i64 0, .int .i64 0]), 5, 40) := by kernel_rfl
def eqV (a b : VotV) : Bool := a.1 == b.1 && (a.2.1 == b.2.1 && (a.2.2.1 == b.2.2.1 && (a.2.2.2.1 == b.2.2.2.1 && a.2.2.2.2 == b.2.2.2.2)))
theorem eqV_self (a : VotV) : eqV a a = true := by simp [eqV]
theorem eqlVot (a1 a2 a3 a4 a5 b1 b2 b3 b4 b5 : Int) (w : World) : (binOp .eql 60 (.agg #[.int .i64 a1, .int .i64 a2, .int .i64 a3, .int .i64 a4, .int .i64 a5]) (.agg #[.int .i64 b1, .int .i64 b2, .int .i64 b3, .int .i64 b4, .int .i64 b5])).run Tryd.prog w = .ok (.bool (eqV (a1, a2, a3, a4, a5) (b1, b2, b3, b4, b5))) w := by
  unfold eqV
  simp [go_sem]
  by_cases h1 : a1 = b1 <;> by_cases h2 : a2 = b2 <;> by_cases h3 : a3 = b3 <;> by_cases h4 : a4 = b4 <;> by_cases h5 : a5 = b5 <;> simp [h1, h2, h3, h4, h5, go_sem]
abbrev Vots (w : World) (v : Value) (l : List VotV) : Prop := SGot 5 40 votE w v l
set_option maxHeartbeats 8000000 in
set_option maxRecDepth 100000 in
theorem allV_is (x : TraX) (a : Option Addr) (cp : Nat) (l : List VotV) (w : World) (hx : TraAt w x) (hl : Vots w (.slice a l.length cp) l) (hall : ∀ p ∈ x.ps, (x.c, x.q, p.k, p.n, p.g) ∈ l) : Calls Tryd.prog 13 #[.agg (traE x).toArray, .slice a l.length cp] w fun e w' => e = .returned (.bool true) ∧ Below w.heap.size w w' := by
  have L0 : (traE x)[0]? = some (.int .i64 x.c) := rfl
  have L1 : (traE x)[1]? = some (.int .i64 x.q) := rfl
  have L13 : (traE x)[13]? = some (.slice x.pa x.ps.length x.pc) := rfl
  have HP := hideIt hx.p
  have HL := hideIt hl
  have HA : Hid (∀ i (h : i < x.ps.length), l.any (fun u => eqV u (x.c, x.q, x.ps[i].k, x.ps[i].n, x.ps[i].g)) = true) := fun i h => List.any_eq_true.2 ⟨_, hall _ (List.getElem_mem h), eqV_self _⟩
  have h8 := hx.p.1
  have h9 := hl.1
  have HB := hideIt (below1 w (.cells (traE x).toArray 52))
  have HX := hideIt (heap_alloc_new w (.cells (traE x).toArray 52))
  clear hx hl hall
  generalize traE x = LT at *
  have HMC : Hid (∀ W : World, W.heap[w.heap.size]? = some (.cells LT.toArray 52 (0, 0)) → W.cell? ⟨w.heap.size, 0, none⟩ = some (.int .i64 x.c) ∧ W.cell? ⟨w.heap.size, 1, none⟩ = some (.int .i64 x.q) ∧ W.cell? ⟨w.heap.size, 13, none⟩ = some (.slice x.pa x.ps.length x.pc) ∧ w.heap.size < W.heap.size) := fun W hX =>
    have hc : ∀ j v, LT[j]? = some v → W.cell? ⟨w.heap.size, j, none⟩ = some v := fun j v hv => by rw [cell_at hX]; simpa using hv
    ⟨hc 0 _ L0, hc 1 _ L1, hc 13 _ L13, (Array.getElem?_eq_some_iff.1 hX).1⟩
  clear L0 L1 L13
  generalize x.c = c at *
  generalize x.q = q at *
  generalize x.pa = pa at *
  generalize x.pc = pc at *
  generalize x.ps = ps at *
  go_enter Tryd.func13, Tryd.ntmps13
  go_upto_region 2 with fail
  generalize w.alloc (.cells LT.toArray 52) = W0 at *
  go_loopw [5] (fun x wr => ∃ t : Nat, x = .int .i64 t ∧ t ≤ ps.length ∧ Hid (Below W0.heap.size W0 wr)) (fun x _ => ps.length - (intOf x).toNat)
  case atStart => exact ⟨0, rfl, Nat.zero_le _, Below.refl _ _⟩
  case round =>
    obtain ⟨t, rfl, ht, HR⟩ := hrel
    obtain ⟨c0, c1, c13, cz⟩ := HMC.out _ (blkK HX.out HR.out)
    by_cases hlt : t < ps.length
    · have hltI : (t : Int) < (ps.length : Int) := by omega
      have ht0 : (0 : Int) ≤ (t : Int) := by omega
      have hwt : IntKind.i64.wrap ((t : Int) + 1) = ((t + 1 : Nat) : Int) := by rw [IntKind.wrap_i64]; omega
      obtain ⟨-, a3, c3, e, hcap, hr⟩ := HP.out
      simp only [Value.slice.injEq, true_and] at e
      obtain ⟨rfl, rfl⟩ := e
      obtain ⟨pb, po, rfl, hpl, hcc⟩ := hr (by omega)
      have hbP := below_via HB.out HR.out
      have pq : ∀ i v, (peeE ps[t])[i]? = some v → ∀ W, Below wr.heap.size wr W → W.cell? ⟨pb, po + t * 5 + i, none⟩ = some v := fun i v hv W hW => by
        have hi : i < 5 := (List.getElem?_eq_some_iff.1 hv).1
        rw [((below_via hbP hW).cell (p := ⟨pb, po + t * 5 + i, none⟩) hpl), Nat.add_assoc, hcc (t * 5 + i) (by omega), celC_get peeK ps t hlt i hi, hv]
      have HPQ : Hid (∀ W, Below wr.heap.size wr W → W.cell? ⟨pb, po + t * 5, none⟩ = some (.int .i64 ps[t].k) ∧ W.cell? ⟨pb, po + t * 5 + 1, none⟩ = some (.int .i64 ps[t].n) ∧ W.cell? ⟨pb, po + t * 5 + 2, none⟩ = some (.int .i64 ps[t].g) ∧ pb < W.heap.size) := fun W hW => ⟨pq 0 _ rfl W hW, pq 1 _ rfl W hW, pq 2 _ rfl W hW, Nat.lt_of_lt_of_le hpl (below_via hbP hW).size⟩
      have HAT := hideIt (HA.out t hlt)
      clear pq hcc hr hcap
      generalize ps[t].k = pk at *
      generalize ps[t].n = pn at *
      generalize ps[t].g = pg at *
      have HXr := hideIt (blkK HX.out HR.out)
      have HLr := hideIt (HL.out.keep hbP)
      have HBr := hideIt HR.out
      clear HR hbP
      go_upto_region 6 with fail
      clear c0 c1 c13 cz
      go_loopw [7, 6] (fun x y wq => ∃ j : Nat, x = .int .i64 j ∧ y = .bool ((l.take j).any (fun u => eqV u (c, q, pk, pn, pg))) ∧ j ≤ l.length ∧ Hid (Below wr.heap.size wr wq)) (fun x _ _ => l.length - (intOf x).toNat)
      case atStart => exact ⟨0, rfl, rfl, Nat.zero_le _, Below.refl _ _⟩
      case round =>
        obtain ⟨j, rfl, rfl, hj, HJ⟩ := hrel
        by_cases hlj : j < l.length
        · have hjI : (j : Int) < (l.length : Int) := by omega
          have hj0 : (0 : Int) ≤ (j : Int) := by omega
          have hwj : IntKind.i64.wrap ((j : Int) + 1) = ((j + 1 : Nat) : Int) := by rw [IntKind.wrap_i64]; omega
          have HT : Hid ((l.take (j + 1)).any (fun u => eqV u (c, q, pk, pn, pg)) = ((l.take j).any (fun u => eqV u (c, q, pk, pn, pg)) || eqV l[j] (c, q, pk, pn, pg))) := by
            show _ = _
            rw [← List.take_append_getElem hlj, List.any_append, List.any_cons, List.any_nil, Bool.or_false]
          obtain ⟨-, a4, c4, e, -, hr⟩ := HLr.out
          simp only [Value.slice.injEq, true_and] at e
          obtain ⟨rfl, rfl⟩ := e
          obtain ⟨vb, vo, rfl, hvl, hvc⟩ := hr (by omega)
          have vq : ∀ i v, (votE l[j])[i]? = some v → wr.cell? ⟨vb, vo + j * 5 + i, none⟩ = some v := fun i v hv => by
            have hi : i < 5 := (List.getElem?_eq_some_iff.1 hv).1
            rw [(HJ.out.cell (p := ⟨vb, vo + j * 5 + i, none⟩) hvl), Nat.add_assoc, hvc (j * 5 + i) (by omega), celC_get votK l j hlj i hi, hv]
          have v0 : wr.cell? ⟨vb, vo + j * 5, none⟩ = some (.int .i64 l[j].1) := vq 0 _ rfl
          have v1 : wr.cell? ⟨vb, vo + j * 5 + 1, none⟩ = some (.int .i64 l[j].2.1) := vq 1 _ rfl
          have v2 : wr.cell? ⟨vb, vo + j * 5 + 2, none⟩ = some (.int .i64 l[j].2.2.1) := vq 2 _ rfl
          have v3 : wr.cell? ⟨vb, vo + j * 5 + 3, none⟩ = some (.int .i64 l[j].2.2.2.1) := vq 3 _ rfl
          have v4 : wr.cell? ⟨vb, vo + j * 5 + 4, none⟩ = some (.int .i64 l[j].2.2.2.2) := vq 4 _ rfl
          have hvr : vb < wr.heap.size := Nat.lt_of_lt_of_le hvl HJ.out.size
          have hqq := fun W => eqlVot l[j].1 l[j].2.1 l[j].2.2.1 l[j].2.2.2.1 l[j].2.2.2.2 c q pk pn pg W
          clear vq hr hvc
          generalize l[j] = u at *
          obtain ⟨u1, u2, u3, u4, u5⟩ := u
          dsimp only at v0 v1 v2 v3 v4 hqq
          obtain ⟨p0, p1, p2, pz⟩ := HPQ.out wr HJ.out
          obtain ⟨c0, c1, c13, cz⟩ := HMC.out _ (blkK HXr.out HJ.out)
          generalize (l.take j).any (fun u => eqV u (c, q, pk, pn, pg)) = fb at *
          generalize eqV (u1, u2, u3, u4, u5) (c, q, pk, pn, pg) = eb at *
          have B9 := hideIt (fun m => below_drewN HJ.out m)
          cases fb
          · go_upto_region 8 with fail
            go_quiet (fail)
            have B10 := hideIt (B9.out nq)
            clear B9
            go_wp2
            go_roundw
            case rel => exact ⟨j + 1, by go_num, by rw [HT.out]; simp, by omega, B10.out⟩
            case measure => simp [intOf]; omega
          · go_upto_region 8 with fail
            go_quiet (fail)
            have B10 := hideIt (B9.out nq)
            clear B9
            go_wp2
            go_roundw
            case rel => exact ⟨j + 1, by go_num, by rw [HT.out]; simp, by omega, B10.out⟩
            case measure => simp [intOf]; omega
        · have hjI : ¬ (j : Int) < (l.length : Int) := by omega
          have hf : (l.take j).any (fun u => eqV u (c, q, pk, pn, pg)) = true := by rw [List.take_of_length_le (by omega)]; exact HAT.out
          rw [hf]
          have BN := hideIt (below_via HBr.out HJ.out)
          clear HJ
          go_wp2
          go_roundw
          case rel => exact ⟨t + 1, by go_num, by omega, BN.out⟩
          case measure => simp [intOf]; omega
    · have hltI : ¬ (t : Int) < (ps.length : Int) := by omega
      have B2 := hideIt (below_via HB.out HR.out)
      clear HR
      go_wp2
      go_ret
      exact ⟨rfl, B2.out⟩
end Go.Proofs.YtilinemcmgjiiaaDoor
namespace Go.Proofs.YtilinemcmgjiiaaDoor
open Go.RowKit
set_option linter.all false
/-- Blocks of other types than votes' are kept. -/
def KV (w w' : World) : Prop := ∀ (k : Nat) (cs : Array Value) (t : TypeId), w.heap[k]? = some (.cells cs t (0, 0)) → t ≠ 60 → w'.heap[k]? = some (.cells cs t (0, 0))
theorem KV.refl (w : World) : KV w w := fun _ _ _ h _ => h
theorem KV.trans {a b c : World} (h : KV a b) (k : KV b c) : KV a c := fun i cs t h1 h2 => k i cs t (h i cs t h1 h2) h2
theorem KV.of {w w' : World} (h : Below w.heap.size w w') : KV w w' := fun _ _ _ h1 _ => blkK h1 h
theorem own_kv {w w' : World} {B n z : Nat} {e : TypeId} {v : Value} {xs : List Value} (hk : KV w w') (h : w.ownsRow B e z v n xs) (hne : e ≠ 60) : w'.ownsRow B e z v n xs := by
  obtain ⟨h1, hn | ⟨g, cap, cur, rfl, hb, hg, rest⟩⟩ := h
  · exact ⟨h1, .inl hn⟩
  · exact ⟨h1, .inr ⟨g, cap, cur, rfl, hb, hk _ _ _ hg hne, rest⟩⟩
theorem CelOwn.kv {w w' : World} {B : Nat} {c : CelX} (h : CelOwn B w c) (hk : KV w w') : CelOwn B w' c := ⟨own_kv hk h.f (by decide), own_kv hk h.b (by decide), own_kv hk h.a (by decide), own_kv hk h.o (by decide), h.sf, h.sb, h.sa, h.so⟩
theorem TraOwn.kv {w w' : World} {B : Nat} {x : TraX} (h : TraOwn B w x) (hk : KV w w') : TraOwn B w' x := ⟨own_kv hk h.p (by decide), own_kv hk h.m (by decide), ⟨own_kv hk h.c.row (by decide), fun c hc => (h.c.own c hc).kv hk, h.c.siz⟩, ⟨own_kv hk h.x.a (by decide), own_kv hk h.x.f (by decide), h.x.sa, h.x.sf⟩, h.sp, h.sm⟩
theorem TrsOwn.kv {w w' : World} {B : Nat} {v : Value} {l : List TraX} (h : TrsOwn B w v l) (hk : KV w w') : TrsOwn B w' v l := ⟨own_kv hk h.row (by decide), fun x hx => (h.own x hx).kv hk, h.dj, h.siz⟩
theorem CoB.kv {B k c : Nat} {w w' : World} {g : Int} {a : Option Addr} {ys : List TraX} (h : CoB B w k g a c ys) (hk : KV w w') : CoB B w' k g a c ys := ⟨hk _ _ _ h.box (by decide), h.own.kv hk⟩
theorem stp1 (s : StpX) : ∀ u ∈ stpE s, u.oneCell' = true := by
  intro u hu
  unfold stpE at hu
  rw [List.mem_append] at hu
  rcases hu with hu | hu
  · simp only [reqC, List.cons_append, List.nil_append, List.mem_cons, List.not_mem_nil, or_false] at hu
    rcases hu with rfl | rfl | rfl | rfl | rfl | rfl | rfl | rfl | rfl | rfl | rfl | rfl | rfl | rfl | rfl | rfl <;> rfl
  · exact mes1 s.m u hu
/-- A coordinator on its way, and the votes of yes. -/
structure CoY (w : World) (k : Nat) (g : Int) (n : Nat) (yv : Value) (wr : World) : Prop where
  co : ∃ a c ys yes, CoB w.heap.size wr k g a c ys ∧ NmL (ys.map TraX.v) ∧ SzL n (ys.map TraX.v) ∧ YesI (ys.map TraX.v) yes ∧ yes.length ≤ n ∧ wr.ownsRow w.heap.size 60 5 yv yes.length (celC votE yes)
  bel : Below w.heap.size w wr
theorem yes_len {yes : List VotV} {s : StpX} : (yesR yes s).length ≤ yes.length + 1 := by
  unfold yesR
  split
  · exact Nat.le_succ_of_le (List.length_filter_le _ _)
  · split
    · simp
    · omega
/-- An append to the votes. -/
theorem vot_app {w wx : World} {v : Value} {zs : List VotV} (h : wx.ownsRow w.heap.size 60 5 v zs.length (celC votE zs)) (hb : Below w.heap.size w wx) (m : VotV) (hl : zs.length ≤ 1000) : ∃ a' c' w', (Builtin.append_ #[58, 58] 58 #[v, .slice (some ⟨wx.heap.size, 0, none⟩) 1 1]).run Tryd.prog (wx.alloc (.cells (votE m).toArray 60)) = .ok (.slice a' (zs ++ [m]).length c') w' ∧ w'.ownsRow w.heap.size 60 5 (.slice a' (zs ++ [m]).length c') (zs ++ [m]).length (celC votE (zs ++ [m])) ∧ Below w.heap.size w w' ∧ KV wx w' := by
  have hbA := below1 wx (.cells (votE m).toArray 60)
  have h1 := own_keep h hbA
  have hb1 := below_via hb hbA
  obtain ⟨v', w', hrun, how, hgr⟩ := app1 (enc := votE) (t := 58) votK vot1 Tryd.underlying58 infoVot rfl (by omega) (wx.alloc (.cells (votE m).toArray 60)) w.heap.size v zs m wx.heap.size 1 hb1.size h1 (heap_alloc_new wx _) (by omega) (by unfold maxLen; omega)
  obtain ⟨a', c', rfl⟩ := own_len how
  exact ⟨a', c', w', hrun, how, grown_own hgr h1 (Nat.le_refl _) hb1, fun k cs t hk ht => box_type hgr h1 (blkK hk hbA) (fun e => ht e.symm)⟩
end Go.Proofs.YtilinemcmgjiiaaDoor
namespace Go.Proofs.YtilinemcmgjiiaaDoor
open Go.RowKit
set_option linter.all false
theorem own_drewN {w : World} {B n z : Nat} {e : TypeId} {v : Value} {xs : List Value} (h : w.ownsRow B e z v n xs) (m : Nat) : (w.drewN m).ownsRow B e z v n xs := own_keep h (below_drewN (Below.refl _ _) m)
set_option maxHeartbeats 16000000 in
set_option maxRecDepth 100000 in
theorem all_walk (g : Int) (v : Value) (ls : List StpX) (w : World) (hh : Forms w ∧ Stps w v ls) : Calls Tryd.prog 5 #[.int .i64 g, v] w fun e w' => e = .returned (.bool true) ∧ Below w.heap.size w w' := by
  obtain ⟨hF, hG⟩ := hh
  have HLI := hideIt (fun W (hW : Below w.heap.size w W) => live_is W (hF.keep hW))
  have HNE := hideIt (fun W => newC_is g W)
  have HFE := hideIt (fun W (hW : Below w.heap.size w W) => fewS_is v ls W (hG.keep hW))
  have HFO := hideIt (fun W (hW : Below w.heap.size w W) => hF.keep hW)
  have HGO := hideIt hG
  cases hw : wiB g 0 3
  · rw [hw] at HNE
    rw [if_neg (by decide)] at HNE
    clear hF hG hw
    go_enter Tryd.func5, Tryd.ntmps5
    go_wp2_with fail
    refine (HNE.out _).mono ?_
    rintro e w1 ⟨rfl, hb⟩
    dsimp only
    have B1 := hideIt (below_via hb (below1 w1 (.cells #[.int .i64 0, .slice none 0 0] 25)))
    clear hb
    go_wp2_with fail
    refine (HLI.out _ B1.out).mono ?_
    rintro e w2 ⟨rfl, hb⟩
    dsimp only
    have B2 := hideIt (below_via B1.out hb)
    clear hb
    go_wp2
    go_ret
    exact ⟨rfl, B2.out⟩
  · rw [hw] at HNE
    rw [if_pos rfl] at HNE
    clear hF hG hw
    go_enter Tryd.func5, Tryd.ntmps5
    go_wp2_with fail
    refine (HNE.out _).mono ?_
    rintro e w1 ⟨rfl, hb⟩
    dsimp only
    have hbA := below1 w1 (.cells #[.int .i64 g, .slice none 0 0] 25)
    have B1 := hideIt (below_via hb hbA)
    have F0 : Hid (CoY w w1.heap.size g 0 (.slice none 0 0) (w1.alloc (.cells #[.int .i64 g, .slice none 0 0] 25))) := ⟨⟨none, 0, [], [], ⟨heap_alloc_new w1 _, TrsOwn.nil _ _⟩, List.Pairwise.nil, SzL.nil, (fun _ h => by cases h), Nat.le_refl _, own_nil _ _⟩, B1.out⟩
    have hk : w.heap.size ≤ w1.heap.size := hb.size
    clear hb hbA HNE
    go_upto_region 5 with fail
    generalize w1.alloc (.cells #[.int .i64 g, .slice none 0 0] 25) = W1 at *
    generalize w1.heap.size = k at *
    go_wp2_with fail
    refine (HFE.out _ B1.out).mono ?_
    rintro e wq ⟨⟨v2, rfl, hv2⟩, e2⟩
    obtain rfl := e2.symm
    dsimp only
    have HG2 := hideIt (hv2 w HGO.out)
    have hl40 : (ls.take 40).length ≤ 40 := by rw [List.length_take]; omega
    clear hv2 HFE HGO
    generalize ls.take 40 = l at *
    obtain ⟨sa, sc, rfl, h8, hr⟩ := HG2.out.cells
    have HS := hideIt hr
    clear hr
    go_upto_region 7 with fail
    go_loopw [8, 7] (fun x y wr => ∃ i : Nat, x = .int .i64 i ∧ i ≤ l.length ∧ Hid (CoY w k g i y wr)) (fun x _ _ => l.length - (intOf x).toNat)
    case atStart => exact ⟨0, rfl, Nat.zero_le _, F0.out⟩
    case round =>
      clear F0 B1
      obtain ⟨i, rfl, hi, HR⟩ := hrel
      by_cases hlt : i < l.length
      · have hltI : (i : Int) < (l.length : Int) := by omega
        have hi0 : (0 : Int) ≤ (i : Int) := by omega
        have hwi : IntKind.i64.wrap ((i : Int) + 1) = ((i + 1 : Nat) : Int) := by rw [IntKind.wrap_i64]; omega
        obtain ⟨a, c, ys, yes, hco, hnm, hsz, hyi, hyn, hyo⟩ := HR.out.co
        obtain ⟨ya, yc, rfl⟩ := own_len hyo
        have HYI := hideIt hyi
        have HYO := hideIt hyo
        have CO := hideIt hco
        have NM := hideIt hnm
        have BL := hideIt HR.out.bel
        obtain ⟨sb, so, hva, hgl, hq⟩ := HS.out i hlt
        subst hva
        obtain ⟨s, hse⟩ : ∃ s, s = l[i] := ⟨_, rfl⟩
        have SM := hideIt (HG2.out.sml _ (List.getElem_mem hlt))
        have SA := hideIt (HG2.out.at_ _ (List.getElem_mem hlt))
        rw [← hse] at SM SA hq
        have room := hsz.room (by omega) SM.out
        have HSTEP := hideIt (fun W (hW : Below wr.heap.size wr W) => step_is g a c ys s W (hco.own.keep hW).at_ (SA.out.keep (below_via BL.out hW)) (HFO.out _ (below_via BL.out hW)) (by have := room.1; rwa [List.length_map] at this) room.2.1)
        have SZ := hideIt hsz
        have HBad := hideIt (fun h => stp_bad (g := g) (l := ys.map TraX.v) (s := s) h)
        have HChg := hideIt (fun h => stp_chg (g := g) (l := ys.map TraX.v) (s := s) h)
        have HAl := hideIt (fun h => all_step (g := g) (s := s) hnm hyi h)
        have HSz := hideIt (fun h => sz_step (g := g) (s := s) hsz SM.out h)
        unfold HeaBack at HSTEP
        have HLS : Hid ((Tryd.prog.info? 49).map (·.size) = some (stpE s).length) := by
          show _ = _
          rw [stpK]
          kernel_rfl
        have hrg : wr.rangeAt sb (so + i * 40) (stpE s) := fun j v hv => (BL.out.cell (p := ⟨sb, so + i * 40 + j, none⟩) hgl).trans (hq j v hv)
        have hsb : sb < wr.heap.size := Nat.lt_of_lt_of_le hgl BL.out.size
        obtain ⟨⟨q0, q1⟩, qf, qz⟩ := at2 hco.box
        clear hq hgl hco hnm hsz room HR hyi hyo hse
        have hone : Hid ((stpE s).toArray.all (·.oneCell') = true) := all_oneCell_toArray (stp1 s)
        have hS1 : Hid ((Tryd.prog.info? 49).map (·.size) = some (stpE s).toArray.size) := by
          show _ = _
          rw [List.size_toArray, stpK]
          kernel_rfl
        have hS2 : Hid (40 = (stpE s).toArray.size) := by
          show _ = _
          rw [List.size_toArray, stpK]
        have HBC : Hid (∀ (sk : Nat) (W : World), W.heap[sk]? = some (.cells (stpE s).toArray 49 (0, 0)) → W.cell? ⟨sk, 0, none⟩ = some (.bool s.beg) ∧ W.cell? ⟨sk, 1, none⟩ = some (.bool s.tak) ∧ W.cell? ⟨sk, 2, none⟩ = some (.int .i64 s.c) ∧ W.cell? ⟨sk, 3, none⟩ = some (.int .i64 s.q) ∧ W.cell? ⟨sk, 16, none⟩ = some (.int .i64 s.m.kind) ∧ W.cell? ⟨sk, 17, none⟩ = some (.int .i64 s.m.frm) ∧ W.cell? ⟨sk, 19, none⟩ = some (.int .i64 s.m.c) ∧ W.cell? ⟨sk, 20, none⟩ = some (.int .i64 s.m.q) ∧ W.cell? ⟨sk, 21, none⟩ = some (.int .i64 s.m.k) ∧ W.cell? ⟨sk, 22, none⟩ = some (.int .i64 s.m.n) ∧ W.cell? ⟨sk, 34, none⟩ = some (.bool s.m.yes) ∧ sk < W.heap.size) := fun sk W hX =>
          have hc : ∀ j v, (stpE s)[j]? = some v → W.cell? ⟨sk, j, none⟩ = some v := fun j v hv => by rw [cell_at hX]; simpa using hv
          ⟨hc 0 _ rfl, hc 1 _ rfl, hc 2 _ rfl, hc 3 _ rfl, hc 16 _ rfl, hc 17 _ rfl, hc 19 _ rfl, hc 20 _ rfl, hc 21 _ rfl, hc 22 _ rfl, hc 34 _ rfl, (Array.getElem?_eq_some_iff.1 hX).1⟩
        generalize stpE s = LS at *
        obtain ⟨Y2, hY2⟩ : ∃ Y2, Y2 = yesR yes s := ⟨_, rfl⟩
        have HY2 := hideIt hY2
        have hY2l : Y2.length ≤ yes.length + 1 := by rw [hY2]; exact yes_len
        rw [← hY2] at HAl
        clear hY2
        generalize stpR g (ys.map TraX.v) s = R at *
        obtain ⟨g2, d, mk, er⟩ := R
        dsimp only at *
        have hbA := below1 wr (.cells LS.toArray 49)
        have XS := hideIt (heap_alloc_new wr (.cells LS.toArray 49))
        have COA := hideIt (CO.out.keep hbA)
        have HYA := hideIt (own_keep HYO.out hbA)
        have BA := hideIt (below_via BL.out hbA)
        have HST2 := hideIt (fun W hW => HSTEP.out W (below_via hbA hW))
        have hwk : k < wr.heap.size := qz
        clear hbA HSTEP CO HYO q0 q1 qf qz
        go_upto_region 10 with (first | (refine wpList_load_mid rfl _ _ rfl sb (so + i * 40) rfl LS _ hrg Tryd.underlying49 rfl HLS.out ?_; go_frame) | (refine wpList_store_row rfl _ _ _ rfl wr.heap.size LS.toArray rfl rfl _ _ (heap_alloc_new wr _) hS1.out hS2.out hone.out ?_; rw [World.setRow_alloc_new]; go_frame) | fail)
        clear hrg hsb hone hS1 hS2
        generalize wr.alloc (.cells LS.toArray 49) = WA at *
        generalize wr.heap.size = sk at *
        obtain ⟨⟨q0, q1⟩, qf, qz⟩ := at2 COA.out.box
        have hrg : WA.rangeAt sk 0 LS := fun j v hv => by rw [Nat.zero_add, cell_at XS.out]; simpa using hv
        go_wp2_with (first | (refine wpList_load_mid rfl _ _ rfl sk 0 rfl LS _ hrg Tryd.underlying49 rfl HLS.out ?_; go_frame) | fail)
        refine (HST2.out _ (Below.refl _ _)).mono ?_
        rintro e w1 ⟨a2, c2, zs, ma, mc, rfl, hzs, hzo, hmo, hb⟩
        dsimp only
        have hbC := below1 w1 (.cells #[.int .i64 g2, .slice a2 d.length c2] 25)
        have hb2 := below_via hb hbC
        have RR := hideIt (rs_new (g := g2) (w := w) (wr := WA) BA.out.size hzs hzo hmo hb)
        have XS2 := hideIt (blkK XS.out hb2)
        have COX := hideIt (COA.out.keep hb2)
        have HYX := hideIt (own_keep HYA.out hb2)
        have BX := hideIt (below_via BA.out hb2)
        clear hbC hb2 hb hzs hzo hmo XS COA HYA BA HST2 q0 q1 qf qz hrg HLS
        go_upto_region 11 with fail
        generalize w1.alloc (.cells #[.int .i64 g2, .slice a2 d.length c2] 25) = WX at *
        generalize w1.heap.size = k8 at *
        by_cases he : er = 0
        · subst he
          have HCh := hideIt (HChg.out rfl).2
          have hg2 := (HChg.out rfl).1
          have SZ2 := hideIt (HSz.out rfl)
          have HA2 := hideIt (HAl.out rfl)
          subst hg2
          have NM2 := hideIt (chg_nm NM.out HCh.out)
          clear HChg HBad HSz HAl
          obtain ⟨sb0, sb1, sb2, sb3, sb16, sb17, sb19, sb20, sb21, sb22, sb34, sbz⟩ := HBC.out sk WX XS2.out
          have hYr := HY2.out
          unfold yesR at hYr
          have HYR := hideIt hYr
          clear hYr
          go_upto_if 47 with fail
          go_cut [7] from 27 to 132 (fun y wx => ∃ ya yc, y = .slice ya Y2.length yc ∧ Hid (wx.ownsRow w.heap.size 60 5 (.slice ya Y2.length yc) Y2.length (celC votE Y2) ∧ KV WX wx ∧ Below w.heap.size w wx))
          case first =>
            cases hbg : s.beg
            · rw [hbg] at sb0 HBC HYR
              rw [if_neg (by decide)] at HYR
              clear hbg
              have same : ∀ (hc : ¬ (s.tak = false ∧ s.m.kind = 3 ∧ s.m.yes = true)), Y2 = yes := fun hc => by rw [HYR.out, if_neg hc]
              cases htk : s.tak
              · by_cases hk3 : s.m.kind = 3
                · cases hys : s.m.yes
                  · have hE := same (fun h => by rw [hys] at h; exact absurd h.2.2 (by decide))
                    clear same
                    subst hE
                    rw [htk] at sb1
                    rw [hk3] at sb16
                    rw [hys] at sb34
                    have HE := hideIt (And.intro HYX.out (And.intro (KV.refl WX) BX.out))
                    clear HYR hys hk3 htk
                    go_wp2
                    go_meet
                    case rel => exact ⟨ya, yc, rfl, HE.out⟩
                  · have hE : Y2 = yes ++ [(s.m.c, s.m.q, s.m.k, s.m.n, s.m.frm)] := by rw [HYR.out, if_pos ⟨htk, hk3, hys⟩]
                    clear same
                    subst hE
                    rw [htk] at sb1
                    rw [hk3] at sb16
                    rw [hys] at sb34
                    clear HYR hys hk3 htk
                    obtain ⟨a5, c5, w5, hrun, how, hbw, hkv⟩ := vot_app HYX.out BX.out (s.m.c, s.m.q, s.m.k, s.m.n, s.m.frm) (by omega)
                    unfold votE at hrun
                    dsimp only at hrun
                    have HRUN := hideIt hrun
                    have HE := hideIt (And.intro how (And.intro hkv hbw))
                    clear hrun how hkv hbw
                    go_wp2_with (at_builtin; refine Lib.wpList_append_run _ rfl _ _ _ _ rfl _ _ rfl rfl _ _ HRUN.out ?_)
                    go_meet
                    case rel => exact ⟨a5, c5, by simp, HE.out⟩
                · have hE := same (fun h => hk3 h.2.1)
                  have hk4 : (s.m.kind == 3) = false := by simpa using hk3
                  clear same
                  subst hE
                  rw [htk] at sb1
                  have HE := hideIt (And.intro HYX.out (And.intro (KV.refl WX) BX.out))
                  clear HYR hk3 htk
                  go_wp2
                  go_meet
                  case rel => exact ⟨ya, yc, rfl, HE.out⟩
              · have hE := same (fun h => by rw [htk] at h; exact absurd h.1 (by decide))
                clear same
                subst hE
                rw [htk] at sb1
                have HE := hideIt (And.intro HYX.out (And.intro (KV.refl WX) BX.out))
                clear HYR htk
                go_wp2
                go_meet
                case rel => exact ⟨ya, yc, rfl, HE.out⟩
            · rw [hbg] at sb0 HBC HYR
              rw [if_pos rfl] at HYR
              clear hbg
              have VX := hideIt (own_sgot (bytes := 40) HYX.out (by omega))
              go_upto_region 15 with fail
              go_loopw [14, 13] (fun x y wq => ∃ (t : Nat) (ra : Option Addr) (rc : Nat) (L : List VotV), x = .int .i64 t ∧ y = .slice ra L.length rc ∧ t ≤ yes.length ∧ Hid (L = (yes.take t).filter (fun y => !(y.1 == s.c && y.2.1 == s.q)) ∧ wq.ownsRow WX.heap.size 60 5 (.slice ra L.length rc) L.length (celC votE L) ∧ Below WX.heap.size WX wq)) (fun x _ _ => yes.length - (intOf x).toNat)
              case atStart => exact ⟨0, none, 0, [], rfl, rfl, Nat.zero_le _, ⟨rfl, own_nil _ _, Below.refl _ _⟩⟩
              case round =>
                clear sb0 sb1 sb2 sb3 sb16 sb17 sb19 sb20 sb21 sb22 sb34 sbz
                obtain ⟨t, ra, rc, L, rfl, rfl, ht, HQ⟩ := hrel
                by_cases hlt2 : t < yes.length
                · have hltJ : (t : Int) < (yes.length : Int) := by omega
                  have ht0 : (0 : Int) ≤ (t : Int) := by omega
                  have hwt : IntKind.i64.wrap ((t : Int) + 1) = ((t + 1 : Nat) : Int) := by rw [IntKind.wrap_i64]; omega
                  obtain ⟨-, a4, c4, e, -, hr⟩ := VX.out
                  simp only [Value.slice.injEq, true_and] at e
                  obtain ⟨rfl, rfl⟩ := e
                  obtain ⟨vb, vo, rfl, hvl, hvc⟩ := hr (by omega)
                  have HVC : Hid (∀ W, Below WX.heap.size WX W → W.cell? ⟨vb, vo + t * 5, none⟩ = some (.int .i64 yes[t].1) ∧ W.cell? ⟨vb, vo + t * 5 + 1, none⟩ = some (.int .i64 yes[t].2.1) ∧ W.cell? ⟨vb, vo + t * 5 + 2, none⟩ = some (.int .i64 yes[t].2.2.1) ∧ W.cell? ⟨vb, vo + t * 5 + 3, none⟩ = some (.int .i64 yes[t].2.2.2.1) ∧ W.cell? ⟨vb, vo + t * 5 + 4, none⟩ = some (.int .i64 yes[t].2.2.2.2) ∧ vb < W.heap.size ∧ W.cell? ⟨sk, 2, none⟩ = some (.int .i64 s.c) ∧ W.cell? ⟨sk, 3, none⟩ = some (.int .i64 s.q) ∧ sk < W.heap.size) := fun W hW => by
                    have vq : ∀ i v, (votE yes[t])[i]? = some v → W.cell? ⟨vb, vo + t * 5 + i, none⟩ = some v := fun i v hv => by
                      have hi : i < 5 := (List.getElem?_eq_some_iff.1 hv).1
                      rw [(hW.cell (p := ⟨vb, vo + t * 5 + i, none⟩) hvl), Nat.add_assoc, hvc (t * 5 + i) (by omega), celC_get votK yes t hlt2 i hi, hv]
                    obtain ⟨-, -, s2, s3, -, -, -, -, -, -, -, sz⟩ := HBC.out sk W (blkK XS2.out hW)
                    exact ⟨vq 0 _ rfl, vq 1 _ rfl, vq 2 _ rfl, vq 3 _ rfl, vq 4 _ rfl, Nat.lt_of_lt_of_le hvl hW.size, s2, s3, sz⟩
                  have HT : Hid ((yes.take (t + 1)).filter (fun y => !(y.1 == s.c && y.2.1 == s.q)) = (yes.take t).filter (fun y => !(y.1 == s.c && y.2.1 == s.q)) ++ (if (yes[t].1 == s.c && yes[t].2.1 == s.q) = true then [] else [yes[t]])) := by
                    show _ = _
                    rw [← List.take_append_getElem hlt2, List.filter_append, List.filter_cons, List.filter_nil]
                    cases yes[t].1 == s.c && yes[t].2.1 == s.q <;> rfl
                  have hqq := fun W => neqTxn yes[t].1 yes[t].2.1 s.c s.q W
                  have hLl : L.length ≤ 40 := by
                    rw [HQ.out.1]
                    have h1 := List.length_filter_le (fun y : VotV => !(y.1 == s.c && y.2.1 == s.q)) (yes.take t)
                    rw [List.length_take] at h1
                    omega
                  clear hr hvc
                  generalize yes[t] = u at *
                  obtain ⟨u1, u2, u3, u4, u5⟩ := u
                  dsimp only at HVC HT hqq
                  obtain ⟨v0, v1, v2, v3, v4, vz, s2, s3, sz⟩ := HVC.out wr HQ.out.2.2
                  have B9 := hideIt (fun m => below_drewN HQ.out.2.2 m)
                  have O9 := hideIt (fun m => own_drewN HQ.out.2.1 m)
                  have HQL := hideIt HQ.out.1
                  clear HQ
                  cases hcb : (u1 == s.c && u2 == s.q)
                  · rw [hcb] at hqq HT
                    rw [if_neg (by decide)] at HT
                    clear hcb
                    go_upto_region 17 with fail
                    go_quiet (fail)
                    have B10 := hideIt (B9.out nq)
                    have O10 := hideIt (O9.out nq)
                    clear B9 O9 v0 v1 v2 v3 v4 vz s2 s3 sz
                    generalize wr.drewN nq = WQ at *
                    obtain ⟨v0, v1, v2, v3, v4, vz, s2, s3, sz⟩ := HVC.out WQ B10.out
                    obtain ⟨a5, c5, w5, hrun, how, hbw, -⟩ := vot_app (w := WX) O10.out B10.out (u1, u2, u3, u4, u5) (by omega)
                    unfold votE at hrun
                    dsimp only at hrun
                    have HRUN := hideIt hrun
                    have HE := hideIt (And.intro how hbw)
                    clear hrun how hbw
                    go_wp2_with (at_builtin; refine Lib.wpList_append_run _ rfl _ _ _ _ rfl _ _ rfl rfl _ _ HRUN.out ?_)
                    go_roundw
                    case rel => exact ⟨t + 1, a5, c5, L ++ [(u1, u2, u3, u4, u5)], by go_num, by simp, by omega, ⟨by rw [HT.out, HQL.out], HE.out.1, HE.out.2⟩⟩
                    case measure => simp [intOf]; omega
                  · rw [hcb] at hqq HT
                    rw [if_pos rfl, List.append_nil] at HT
                    clear hcb
                    go_upto_region 17 with fail
                    go_quiet (fail)
                    have B10 := hideIt (B9.out nq)
                    have O10 := hideIt (O9.out nq)
                    clear B9 O9
                    go_wp2
                    go_roundw
                    case rel => exact ⟨t + 1, ra, rc, L, by go_num, rfl, by omega, ⟨by rw [HT.out, HQL.out], O10.out, B10.out⟩⟩
                    case measure => simp [intOf]; omega
                · have hltJ : ¬ (t : Int) < (yes.length : Int) := by omega
                  have hLY : L = Y2 := by rw [HQ.out.1, HYR.out, List.take_of_length_le (by omega)]
                  subst hLY
                  have HE := hideIt (And.intro (own_base HQ.out.2.1 BX.out.size) (And.intro (KV.of HQ.out.2.2) (below_via BX.out HQ.out.2.2)))
                  clear HQ HYR
                  go_wp2
                  go_meet
                  case rel => exact ⟨ra, rc, rfl, HE.out⟩
          case rest =>
            obtain ⟨ya2, yc2, rfl, HYC⟩ := hcut
            clear sb0 sb1 sb2 sb3 sb16 sb17 sb19 sb20 sb21 sb22 sb34 sbz HYR
            obtain ⟨a3, c3, zs3, hco2, hzs⟩ := RR.out.co
            have CO2 := hideIt (hco2.kv HYC.out.2.1)
            have COC := hideIt (COX.out.kv HYC.out.2.1)
            have HZS := hideIt hzs
            have hmkl : mk.length ≤ 40 := by
              have h1 := (marks_step NM.out HCh.out).1
              have h2 : (d.filter (comB (ys.map TraX.v))).length ≤ d.length := List.length_filter_le _ _
              have h3 := SZ2.out.1
              omega
            have hzl : zs3.length ≤ 40 := by have := SZ2.out.1; rw [← hzs, List.length_map] at this; omega
            have MR := hideIt (own_sgot (bytes := 24) (own_kv HYC.out.2.1 RR.out.mo (by decide)) (by omega))
            have VT := hideIt (own_sgot (bytes := 40) HYC.out.1 (by omega))
            have BC := hideIt HYC.out.2.2
            have OY := hideIt HYC.out.1
            clear hco2 hzs RR COX HYX BX XS2 HBC HYC
            go_upto_region 23 with fail
            go_loopw [15] (fun x wq => ∃ t : Nat, x = .int .i64 t ∧ t ≤ mk.length ∧ Hid (Below wc.heap.size wc wq)) (fun x _ => mk.length - (intOf x).toNat)
            case atStart => exact ⟨0, rfl, Nat.zero_le _, Below.refl _ _⟩
            case round =>
              obtain ⟨t, rfl, ht, HBy⟩ := hrel
              by_cases hlt2 : t < mk.length
              · have hltJ : (t : Int) < (mk.length : Int) := by omega
                have ht0 : (0 : Int) ≤ (t : Int) := by omega
                have hwt : IntKind.i64.wrap ((t : Int) + 1) = ((t + 1 : Nat) : Int) := by rw [IntKind.wrap_i64]; omega
                obtain ⟨-, a4, c4, e, -, hr⟩ := MR.out
                simp only [Value.slice.injEq, true_and] at e
                obtain ⟨rfl, rfl⟩ := e
                obtain ⟨mb, mo, rfl, hml, hmc⟩ := hr (by omega)
                have mq : ∀ i v, (marE mk[t])[i]? = some v → wc.cell? ⟨mb, mo + t * 3 + i, none⟩ = some v := fun i v hv => by
                  have hi : i < 3 := (List.getElem?_eq_some_iff.1 hv).1
                  rw [Nat.add_assoc, hmc (t * 3 + i) (by omega), celC_get marK mk t hlt2 i hi, hv]
                have HMQ : Hid (∀ W, Below wc.heap.size wc W → W.cell? ⟨mb, mo + t * 3, none⟩ = some (.int .i64 mk[t].1) ∧ W.cell? ⟨mb, mo + t * 3 + 1, none⟩ = some (.int .i64 mk[t].2) ∧ mb < W.heap.size) := fun W hW => ⟨(hW.cell (p := ⟨mb, _, none⟩) hml).trans (mq 0 _ rfl), (hW.cell (p := ⟨mb, _, none⟩) hml).trans (mq 1 _ rfl), Nat.lt_of_lt_of_le hml hW.size⟩
                have HA3 := hideIt (HA2.out.2 mk[t] (List.getElem_mem hlt2))
                clear mq hmc hr
                generalize mk[t] = mm at *
                obtain ⟨m1, m2⟩ := mm
                dsimp only at HMQ HA3
                go_upto_region 26 with fail
                go_loopw [16] (fun x wq => ∃ j : Nat, x = .int .i64 j ∧ j ≤ zs3.length ∧ Hid (Below wc.heap.size wc wq)) (fun x _ => zs3.length - (intOf x).toNat)
                case atStart => exact ⟨0, rfl, Nat.zero_le _, HBy.out⟩
                case round =>
                  obtain ⟨j, rfl, hj, HBj⟩ := hrel
                  obtain ⟨⟨z0, z1⟩, zf, zz⟩ := at2 (CO2.out.keep HBj.out).box
                  by_cases hlj : j < zs3.length
                  · have hjI : (j : Int) < (zs3.length : Int) := by omega
                    have hj0 : (0 : Int) ≤ (j : Int) := by omega
                    have hwj : IntKind.i64.wrap ((j : Int) + 1) = ((j + 1 : Nat) : Int) := by rw [IntKind.wrap_i64]; omega
                    obtain ⟨a', c', e, -, hr⟩ := CO2.out.own.at_.cells
                    simp only [Value.slice.injEq, true_and] at e
                    obtain ⟨rfl, rfl⟩ := e
                    obtain ⟨yb, yo, hae, hyl, hyc⟩ := hr j hlj
                    clear hr
                    subst hae
                    have HC : Hid (∀ W, Below wc.heap.size wc W → W.cell? ⟨k8, 0, none⟩ = some (.int .i64 g2) ∧ W.cell? ⟨k8, 1, none⟩ = some (.slice (some ⟨yb, yo, none⟩) zs3.length c3) ∧ W.cell? ⟨yb, yo + j * 21, none⟩ = some (.int .i64 zs3[j].c) ∧ W.cell? ⟨yb, yo + j * 21 + 1, none⟩ = some (.int .i64 zs3[j].q) ∧ k8 < W.heap.size ∧ yb < W.heap.size ∧ W.cell? ⟨mb, mo + t * 3, none⟩ = some (.int .i64 m1) ∧ W.cell? ⟨mb, mo + t * 3 + 1, none⟩ = some (.int .i64 m2) ∧ mb < W.heap.size ∧ Hid (W.rangeAt yb (yo + j * 21) (traE zs3[j]))) := fun W hW => by
                      obtain ⟨⟨z0, z1⟩, -, zz⟩ := at2 (CO2.out.keep hW).box
                      obtain ⟨w0, w1, w2⟩ := HMQ.out W hW
                      exact ⟨z0, z1, (hW.cell (p := ⟨yb, _, none⟩) hyl).trans (hyc 0 _ rfl), (hW.cell (p := ⟨yb, _, none⟩) hyl).trans (hyc 1 _ rfl), zz, Nat.lt_of_lt_of_le hyl hW.size, w0, w1, w2, fun i v hv => (hW.cell (p := ⟨yb, _, none⟩) hyl).trans (hyc i v hv)⟩
                    have HTA := hideIt (CO2.out.own.own zs3[j] (List.getElem_mem hlj))
                    have HA4 := hideIt (HA3.out zs3[j].v (by rw [← HZS.out]; exact List.mem_map_of_mem (List.getElem_mem hlj)))
                    have HALL : Hid (zs3[j].c = m1 → zs3[j].q = m2 → ∀ W, Below wc.heap.size wc W → Calls Tryd.prog 13 #[.agg (traE zs3[j]).toArray, .slice ya2 Y2.length yc2] W fun e w' => e = .returned (.bool true) ∧ Below W.heap.size W w') := fun h1 h2 W hW => allV_is zs3[j] ya2 yc2 Y2 W (HTA.out.keep hW).at_ (VT.out.keep hW) (HA4.out h1 h2)
                    have HLT : Hid ((Tryd.prog.info? 52).map (·.size) = some (traE zs3[j]).length) := by
                      show _ = _
                      rw [traK]
                      kernel_rfl
                    clear hyc HTA HA4
                    have hqq := fun W => eqlTxn zs3[j].c zs3[j].q m1 m2 W
                    generalize traE zs3[j] = LT at *
                    generalize zs3[j].c = y1 at *
                    generalize zs3[j].q = y2 at *
                    go_upto_region 28 with fail
                    clear z0 z1 zf zz
                    refine wp_region_held_drew (S := fun W => Below wc.heap.size wc W) (by kernel_rfl) HBj.out.drew (fun hHeld => ?_)
                    generalize wr.drew = WD at *
                    refine wpAnyH_take (i := 0) (oi := ⟨some 110, _, _, _, _, _⟩) (v := ?_) rfl (by kernel_rfl) (by kernel_rfl) (by kernel_rfl) (fun _ _ _ h => h) (Or.inl ⟨by rfl, ?_⟩) (by assumption) ?_
                    rotate_left
                    · intro w5 hSw
                      obtain ⟨x0, x1, x2, x3, x4, x5, x6, x7, x8, x9⟩ := HC.out w5 hSw
                      go_simp
                      (try with_reducible rfl)
                    try simp only [Act.put, List.setIfInBounds_toArray, List.set_cons_zero, List.set_cons_succ]
                    refine wpAnyH_take (i := 1) (oi := ⟨some 111, _, _, _, _, _⟩) (v := ?_) rfl (by kernel_rfl) (by kernel_rfl) (by kernel_rfl) (fun _ _ _ h => h) (Or.inl ⟨by rfl, ?_⟩) (by assumption) ?_
                    rotate_left
                    · intro w5 hSw
                      obtain ⟨x0, x1, x2, x3, x4, x5, x6, x7, x8, x9⟩ := HC.out w5 hSw
                      go_simp
                      (try with_reducible rfl)
                    try simp only [Act.put, List.setIfInBounds_toArray, List.set_cons_zero, List.set_cons_succ]
                    refine wpAnyH_take (i := 2) (oi := ⟨some 112, _, _, _, _, _⟩) (v := ?_) rfl (by kernel_rfl) (by kernel_rfl) (by kernel_rfl) (fun _ _ _ h => h) (Or.inl ⟨by rfl, ?_⟩) (by assumption) ?_
                    rotate_left
                    · intro w5 hSw
                      obtain ⟨x0, x1, x2, x3, x4, x5, x6, x7, x8, x9⟩ := HC.out w5 hSw
                      go_simp
                      (try with_reducible rfl)
                    try simp only [Act.put, List.setIfInBounds_toArray, List.set_cons_zero, List.set_cons_succ]
                    refine wpAnyH_take (i := 3) (oi := ⟨some 113, _, _, _, _, _⟩) (v := ?_) rfl (by kernel_rfl) (by kernel_rfl) (by kernel_rfl) (fun _ _ _ h => h) (Or.inl ⟨by rfl, ?_⟩) (by assumption) ?_
                    rotate_left
                    · intro w5 hSw
                      obtain ⟨x0, x1, x2, x3, x4, x5, x6, x7, x8, x9⟩ := HC.out w5 hSw
                      go_simp
                      (try with_reducible rfl)
                    try simp only [Act.put, List.setIfInBounds_toArray, List.set_cons_zero, List.set_cons_succ]
                    refine wpAnyH_take (i := 4) (oi := ⟨some 114, _, _, _, _, _⟩) (v := ?_) rfl (by kernel_rfl) (by kernel_rfl) (by kernel_rfl) (fun _ _ _ h => h) (Or.inl ⟨by rfl, ?_⟩) (by assumption) ?_
                    rotate_left
                    · intro w5 hSw
                      obtain ⟨x0, x1, x2, x3, x4, x5, x6, x7, x8, x9⟩ := HC.out w5 hSw
                      go_simp
                      (try with_reducible rfl)
                    try simp only [Act.put, List.setIfInBounds_toArray, List.set_cons_zero, List.set_cons_succ]
                    refine wpAnyH_take (i := 5) (oi := ⟨some 115, _, _, _, _, _⟩) (v := ?_) rfl (by kernel_rfl) (by kernel_rfl) (by kernel_rfl) (fun _ _ _ h => h) (Or.inl ⟨by rfl, ?_⟩) (by assumption) ?_
                    rotate_left
                    · intro w5 hSw
                      obtain ⟨x0, x1, x2, x3, x4, x5, x6, x7, x8, x9⟩ := HC.out w5 hSw
                      go_simp
                      (try with_reducible rfl)
                    try simp only [Act.put, List.setIfInBounds_toArray, List.set_cons_zero, List.set_cons_succ]
                    refine wpAnyH_take (i := 6) (oi := ⟨some 116, _, _, _, _, _⟩) (v := ?_) rfl (by kernel_rfl) (by kernel_rfl) (by kernel_rfl) (fun _ _ _ h => h) (Or.inl ⟨by rfl, ?_⟩) (by assumption) ?_
                    rotate_left
                    · intro w5 hSw
                      obtain ⟨x0, x1, x2, x3, x4, x5, x6, x7, x8, x9⟩ := HC.out w5 hSw
                      go_simp
                      (try with_reducible rfl)
                    try simp only [Act.put, List.setIfInBounds_toArray, List.set_cons_zero, List.set_cons_succ]
                    refine wpAnyH_take (i := 7) (oi := ⟨some 117, _, _, _, _, _⟩) (v := ?_) rfl (by kernel_rfl) (by kernel_rfl) (by kernel_rfl) (fun _ _ _ h => h) (Or.inl ⟨by rfl, ?_⟩) (by assumption) ?_
                    rotate_left
                    · intro w5 hSw
                      obtain ⟨x0, x1, x2, x3, x4, x5, x6, x7, x8, x9⟩ := HC.out w5 hSw
                      go_simp
                      (try with_reducible rfl)
                    try simp only [Act.put, List.setIfInBounds_toArray, List.set_cons_zero, List.set_cons_succ]
                    refine wpAnyH_take (i := 8) (oi := ⟨some 118, _, _, _, _, _⟩) (v := ?_) rfl (by kernel_rfl) (by kernel_rfl) (by kernel_rfl) (fun _ _ _ h => h) (Or.inl ⟨by rfl, ?_⟩) (by assumption) ?_
                    rotate_left
                    · intro w5 hSw
                      obtain ⟨x0, x1, x2, x3, x4, x5, x6, x7, x8, x9⟩ := HC.out w5 hSw
                      go_simp
                      (try with_reducible rfl)
                    try simp only [Act.put, List.setIfInBounds_toArray, List.set_cons_zero, List.set_cons_succ]
                    refine wpAnyH_take (i := 9) (oi := ⟨some 119, _, _, _, _, _⟩) (v := ?_) rfl (by kernel_rfl) (by kernel_rfl) (by kernel_rfl) (fun _ _ _ h => h) (Or.inl ⟨by rfl, ?_⟩) (by assumption) ?_
                    rotate_left
                    · intro w5 hSw
                      obtain ⟨x0, x1, x2, x3, x4, x5, x6, x7, x8, x9⟩ := HC.out w5 hSw
                      go_simp
                      (try with_reducible rfl)
                    try simp only [Act.put, List.setIfInBounds_toArray, List.set_cons_zero, List.set_cons_succ]
                    refine wpAnyH_take (i := 10) (oi := ⟨some 120, _, _, _, _, _⟩) (v := ?_) rfl (by kernel_rfl) (by kernel_rfl) (by kernel_rfl) (fun _ _ _ h => h) (Or.inl ⟨by rfl, ?_⟩) (by assumption) ?_
                    rotate_left
                    · intro w5 hSw
                      obtain ⟨x0, x1, x2, x3, x4, x5, x6, x7, x8, x9⟩ := HC.out w5 hSw
                      go_simp
                      (try with_reducible rfl)
                    try simp only [Act.put, List.setIfInBounds_toArray, List.set_cons_zero, List.set_cons_succ]
                    cases heq : (y1 == m1 && y2 == m2)
                    · rw [heq] at hqq
                      refine wpAnyH_take (i := 11) (oi := ⟨some 121, _, _, _, _, _⟩) (v := ?_) rfl (by kernel_rfl) (by kernel_rfl) (by kernel_rfl) (fun _ _ _ h => h) (Or.inl ⟨by rfl, ?_⟩) (by assumption) ?_
                      rotate_left
                      · intro w5 hSw
                        obtain ⟨x0, x1, x2, x3, x4, x5, x6, x7, x8, x9⟩ := HC.out w5 hSw
                        go_simp
                        (try with_reducible rfl)
                      try simp only [Act.put, List.setIfInBounds_toArray, List.set_cons_zero, List.set_cons_succ]
                      refine wpAnyH_take (i := 12) (oi := ⟨some 122, _, _, _, _, _⟩) (v := ?_) rfl (by kernel_rfl) (by kernel_rfl) (by kernel_rfl) (fun _ _ _ h => h) (Or.inl ⟨by rfl, ?_⟩) (by assumption) ?_
                      rotate_left
                      · intro w5 hSw
                        obtain ⟨x0, x1, x2, x3, x4, x5, x6, x7, x8, x9⟩ := HC.out w5 hSw
                        go_simp
                        (try with_reducible rfl)
                      try simp only [Act.put, List.setIfInBounds_toArray, List.set_cons_zero, List.set_cons_succ]
                      refine wpAnyH_take (i := 13) (oi := ⟨some 123, _, _, _, _, _⟩) (v := undef) rfl (by kernel_rfl) (by kernel_rfl) (by kernel_rfl) (fun _ _ _ h => h) (Or.inr ⟨by rfl, rfl⟩) (by assumption) ?_
                      try simp only [Act.put, List.setIfInBounds_toArray, List.set_cons_zero, List.set_cons_succ]
                      refine wpAnyH_take (i := 14) (oi := ⟨some 124, _, _, _, _, _⟩) (v := undef) rfl (by kernel_rfl) (by kernel_rfl) (by kernel_rfl) (fun _ _ _ h => h) (Or.inr ⟨by rfl, rfl⟩) (by assumption) ?_
                      try simp only [Act.put, List.setIfInBounds_toArray, List.set_cons_zero, List.set_cons_succ]
                      refine wpAnyH_take (i := 15) (oi := ⟨some 125, _, _, _, _, _⟩) (v := undef) rfl (by kernel_rfl) (by kernel_rfl) (by kernel_rfl) (fun _ _ _ h => h) (Or.inr ⟨by rfl, rfl⟩) (by assumption) ?_
                      try simp only [Act.put, List.setIfInBounds_toArray, List.set_cons_zero, List.set_cons_succ]
                      refine wpAnyH_take (i := 16) (oi := ⟨some 126, _, _, _, _, _⟩) (v := undef) rfl (by kernel_rfl) (by kernel_rfl) (by kernel_rfl) (fun _ _ _ h => h) (Or.inr ⟨by rfl, rfl⟩) (by assumption) ?_
                      try simp only [Act.put, List.setIfInBounds_toArray, List.set_cons_zero, List.set_cons_succ]
                      refine wpAnyH_take (i := 17) (oi := ⟨some 127, _, _, _, _, _⟩) (v := undef) rfl (by kernel_rfl) (by kernel_rfl) (by kernel_rfl) (fun _ _ _ h => h) (Or.inr ⟨by rfl, rfl⟩) (by assumption) ?_
                      try simp only [Act.put, List.setIfInBounds_toArray, List.set_cons_zero, List.set_cons_succ]
                      refine wpAnyH_take (i := 18) (oi := ⟨some 128, _, _, _, _, _⟩) (v := undef) rfl (by kernel_rfl) (by kernel_rfl) (by kernel_rfl) (fun _ _ _ h => h) (Or.inr ⟨by rfl, rfl⟩) (by assumption) ?_
                      try simp only [Act.put, List.setIfInBounds_toArray, List.set_cons_zero, List.set_cons_succ]
                      refine wpAnyH_take (i := 19) (oi := ⟨some 129, _, _, _, _, _⟩) (v := undef) rfl (by kernel_rfl) (by kernel_rfl) (by kernel_rfl) (fun _ _ _ h => h) (Or.inr ⟨by rfl, rfl⟩) (by assumption) ?_
                      try simp only [Act.put, List.setIfInBounds_toArray, List.set_cons_zero, List.set_cons_succ]
                      refine wpAnyH_take (i := 20) (oi := ⟨some 130, _, _, _, _, _⟩) (v := undef) rfl (by kernel_rfl) (by kernel_rfl) (by kernel_rfl) (fun _ _ _ h => h) (Or.inr ⟨by rfl, rfl⟩) (by assumption) ?_
                      try simp only [Act.put, List.setIfInBounds_toArray, List.set_cons_zero, List.set_cons_succ]
                      refine wpAnyH_take (i := 21) (oi := ⟨some 131, _, _, _, _, _⟩) (v := ?_) rfl (by kernel_rfl) (by kernel_rfl) (by kernel_rfl) (fun _ _ _ h => h) (Or.inl ⟨by rfl, ?_⟩) (by assumption) ?_
                      rotate_left
                      · intro w5 hSw
                        obtain ⟨x0, x1, x2, x3, x4, x5, x6, x7, x8, x9⟩ := HC.out w5 hSw
                        go_simp
                        (try with_reducible rfl)
                      try simp only [Act.put, List.setIfInBounds_toArray, List.set_cons_zero, List.set_cons_succ]
                      refine wpAnyH_done (by kernel_rfl) ?_ _
                      have HB5 := hideIt hHeld
                      (repeat clear hHeld)
                      clear HC HALL HBj heq
                      go_wp2
                      go_roundw
                      case rel => exact ⟨j + 1, by go_num, by omega, HB5.out⟩
                      case measure => simp [intOf]; omega
                    · rw [heq] at hqq
                      have he12 : y1 = m1 ∧ y2 = m2 := by simpa using heq
                      have HAL2 := hideIt (HALL.out he12.1 he12.2)
                      clear HALL he12 heq
                      refine wpAnyH_take (i := 11) (oi := ⟨some 121, _, _, _, _, _⟩) (v := ?_) rfl (by kernel_rfl) (by kernel_rfl) (by kernel_rfl) (fun _ _ _ h => h) (Or.inl ⟨by rfl, ?_⟩) (by assumption) ?_
                      rotate_left
                      · intro w5 hSw
                        obtain ⟨x0, x1, x2, x3, x4, x5, x6, x7, x8, x9⟩ := HC.out w5 hSw
                        go_simp
                        (try with_reducible rfl)
                      try simp only [Act.put, List.setIfInBounds_toArray, List.set_cons_zero, List.set_cons_succ]
                      refine wpAnyH_take (i := 12) (oi := ⟨some 122, _, _, _, _, _⟩) (v := ?_) rfl (by kernel_rfl) (by kernel_rfl) (by kernel_rfl) (fun _ _ _ h => h) (Or.inl ⟨by rfl, ?_⟩) (by assumption) ?_
                      rotate_left
                      · intro w5 hSw
                        obtain ⟨x0, x1, x2, x3, x4, x5, x6, x7, x8, x9⟩ := HC.out w5 hSw
                        go_simp
                        (try with_reducible rfl)
                      try simp only [Act.put, List.setIfInBounds_toArray, List.set_cons_zero, List.set_cons_succ]
                      refine wpAnyH_take (i := 13) (oi := ⟨some 123, _, _, _, _, _⟩) (v := ?_) rfl (by kernel_rfl) (by kernel_rfl) (by kernel_rfl) (fun _ _ _ h => h) (Or.inl ⟨by rfl, ?_⟩) (by assumption) ?_
                      rotate_left
                      · intro w5 hSw
                        obtain ⟨x0, x1, x2, x3, x4, x5, x6, x7, x8, x9⟩ := HC.out w5 hSw
                        go_simp
                        (try with_reducible rfl)
                      try simp only [Act.put, List.setIfInBounds_toArray, List.set_cons_zero, List.set_cons_succ]
                      refine wpAnyH_take (i := 14) (oi := ⟨some 124, _, _, _, _, _⟩) (v := ?_) rfl (by kernel_rfl) (by kernel_rfl) (by kernel_rfl) (fun _ _ _ h => h) (Or.inl ⟨by rfl, ?_⟩) (by assumption) ?_
                      rotate_left
                      · intro w5 hSw
                        obtain ⟨x0, x1, x2, x3, x4, x5, x6, x7, x8, x9⟩ := HC.out w5 hSw
                        go_simp
                        (try with_reducible rfl)
                      try simp only [Act.put, List.setIfInBounds_toArray, List.set_cons_zero, List.set_cons_succ]
                      refine wpAnyH_take (i := 15) (oi := ⟨some 125, _, _, _, _, _⟩) (v := ?_) rfl (by kernel_rfl) (by kernel_rfl) (by kernel_rfl) (fun _ _ _ h => h) (Or.inl ⟨by rfl, ?_⟩) (by assumption) ?_
                      rotate_left
                      · intro w5 hSw
                        obtain ⟨x0, x1, x2, x3, x4, x5, x6, x7, x8, x9⟩ := HC.out w5 hSw
                        go_simp
                        (try with_reducible rfl)
                      try simp only [Act.put, List.setIfInBounds_toArray, List.set_cons_zero, List.set_cons_succ]
                      refine wpAnyH_take (i := 16) (oi := ⟨some 126, _, _, _, _, _⟩) (v := ?_) rfl (by kernel_rfl) (by kernel_rfl) (by kernel_rfl) (fun _ _ _ h => h) (Or.inl ⟨by rfl, ?_⟩) (by assumption) ?_
                      rotate_left
                      · intro w5 hSw
                        obtain ⟨x0, x1, x2, x3, x4, x5, x6, x7, x8, x9⟩ := HC.out w5 hSw
                        go_simp
                        (try with_reducible rfl)
                      try simp only [Act.put, List.setIfInBounds_toArray, List.set_cons_zero, List.set_cons_succ]
                      refine wpAnyH_take (i := 17) (oi := ⟨some 127, _, _, _, _, _⟩) (v := .agg LT.toArray) rfl (by kernel_rfl) (by kernel_rfl) (by kernel_rfl) (fun _ _ _ h => h) (yieldsIf_load_mid (by rfl) _ _ rfl yb (yo + j * 21) rfl LT _ (fun W h => (HC.out W h).2.2.2.2.2.2.2.2.2.out) Tryd.underlying52 rfl HLT.out) (by assumption) ?_
                      try simp only [Act.put, List.setIfInBounds_toArray, List.set_cons_zero, List.set_cons_succ]
                      refine wpAnyH_take (i := 18) (oi := ⟨some 128, _, _, _, _, _⟩) (v := ?_) rfl (by kernel_rfl) (by kernel_rfl) (by kernel_rfl) (fun _ _ _ h => h) (Or.inl ⟨by rfl, ?_⟩) (by assumption) ?_
                      rotate_left
                      · intro w5 hSw
                        obtain ⟨x0, x1, x2, x3, x4, x5, x6, x7, x8, x9⟩ := HC.out w5 hSw
                        go_simp
                        (try with_reducible rfl)
                      try simp only [Act.put, List.setIfInBounds_toArray, List.set_cons_zero, List.set_cons_succ]
                      refine wpAnyH_ready (rs := [19]) (by kernel_rfl) (by simp) ?_
                      refine (AllReadyH.cons (o := ⟨some 129, _, _, _, _, _⟩) rfl (fun Kx hK => ?_) AllReadyH.nil)
                      go_simp
                      go_at_call 13
                      refine (HAL2.out _ hHeld).mono ?_
                      rintro e w6 ⟨rfl, hb⟩
                      have hB6 := below_via hHeld hb
                      refine hK.out _ _ hB6 (fun hHeld => ?_)
                      clear hK Kx hb
                      try simp only [Act.put, List.setIfInBounds_toArray, List.set_cons_zero, List.set_cons_succ]
                      refine wpAnyH_take (i := 20) (oi := ⟨some 130, _, _, _, _, _⟩) (v := ?_) rfl (by kernel_rfl) (by kernel_rfl) (by kernel_rfl) (fun _ _ _ h => h) (Or.inl ⟨by rfl, ?_⟩) (by assumption) ?_
                      rotate_left
                      · intro w5 hSw
                        obtain ⟨x0, x1, x2, x3, x4, x5, x6, x7, x8, x9⟩ := HC.out w5 hSw
                        go_simp
                        (try with_reducible rfl)
                      try simp only [Act.put, List.setIfInBounds_toArray, List.set_cons_zero, List.set_cons_succ]
                      refine wpAnyH_take (i := 21) (oi := ⟨some 131, _, _, _, _, _⟩) (v := ?_) rfl (by kernel_rfl) (by kernel_rfl) (by kernel_rfl) (fun _ _ _ h => h) (Or.inl ⟨by rfl, ?_⟩) (by assumption) ?_
                      rotate_left
                      · intro w5 hSw
                        obtain ⟨x0, x1, x2, x3, x4, x5, x6, x7, x8, x9⟩ := HC.out w5 hSw
                        go_simp
                        (try with_reducible rfl)
                      try simp only [Act.put, List.setIfInBounds_toArray, List.set_cons_zero, List.set_cons_succ]
                      refine wpAnyH_done (by kernel_rfl) ?_ _
                      have HB5 := hideIt hB6
                      (repeat clear hHeld)
                      clear HC HAL2 HBj hB6
                      go_wp2
                      go_roundw
                      case rel => exact ⟨j + 1, by go_num, by omega, HB5.out⟩
                      case measure => simp [intOf]; omega
                  · have hjI : ¬ (j : Int) < (zs3.length : Int) := by omega
                    have HBN := hideIt HBj.out
                    clear HBj
                    go_wp2
                    go_roundw
                    case rel => exact ⟨t + 1, by go_num, by omega, HBN.out⟩
                    case measure => simp [intOf]; omega
              · have hltJ : ¬ (t : Int) < (mk.length : Int) := by omega
                have CX := hideIt (COC.out.keep HBy.out)
                have CY := hideIt (CO2.out.keep HBy.out)
                have FN : Hid (CoY w k g2 (i + 1) (.slice ya2 Y2.length yc2) ((wr.setCell ⟨k, 0, none⟩ (.int .i64 g2)).setCell ⟨k, 1, none⟩ (.slice a3 zs3.length c3))) := ⟨⟨a3, c3, zs3, Y2, CX.out.put CY.out, by rw [HZS.out]; exact NM2.out, by rw [HZS.out]; exact SZ2.out, by rw [HZS.out]; exact HA2.out.1, by omega, own_cell (own_cell (own_keep OY.out HBy.out) CX.out.box (by decide)) (heap_set CX.out.box 0 _) (by decide)⟩, belowSet _ (belowSet _ (below_via BC.out HBy.out) hk) hk⟩
                obtain ⟨⟨q0, q1⟩, qf, qz⟩ := at2 CX.out.box
                obtain ⟨⟨z0, z1⟩, zf, zz⟩ := at2 CY.out.box
                clear CX CY CO2 COC NM NM2 SZ SZ2 HZS BC OY HCh MR VT HA2 HBy HYI
                go_wp2
                go_roundw
                case rel => exact ⟨i + 1, by go_num, by omega, FN.out⟩
                case measure => simp [intOf]; omega
        · have he2 : (er == 0) = false := by simpa using he
          have he3 : (er != 0) = true := by simpa using he
          have FN : Hid (CoY w k g (i + 1) (.slice ya yes.length yc) WX) := ⟨⟨a, c, ys, yes, COX.out, NM.out, SZ.out.more, HYI.out, by omega, HYX.out⟩, BX.out⟩
          clear HChg HBad HSz HAl COX NM SZ RR BX HYX HYI
          go_wp2
          go_roundw
          case rel => exact ⟨i + 1, by go_num, by omega, FN.out⟩
          case measure => simp [intOf]; omega
      · have hltI : ¬ (i : Int) < (l.length : Int) := by omega
        have B2 := hideIt HR.out.bel
        clear HR
        go_wp2_with fail
        refine (HLI.out _ B2.out).mono ?_
        rintro e w2 ⟨rfl, hb⟩
        dsimp only
        have B3 := hideIt (below_via B2.out hb)
        clear hb
        go_wp2
        go_ret
        exact ⟨rfl, B3.out⟩
end Go.Proofs.YtilinemcmgjiiaaDoor
