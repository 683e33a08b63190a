/- Sessions: one in its client's place. -/
import Derived.Test.YtilinemcmgjiiaaDoorChs
import Derived.Test.YtilinemcmgjiiaaDoorCat
namespace Go.Proofs.YtilinemcmgjiiaaDoor
open Go.RowKit
set_option linter.all false
def atL (l : List SesX) (c : Int) : Nat := (l.takeWhile (fun s => ltB s.c c)).length
theorem at_hit {l : List SesX} {t : Nat} {c : Int} (h : t < l.length) (hp : ltB l[t].c c = true) : atL (l.drop t) c = 1 + atL (l.drop (t + 1)) c := by
  unfold atL
  rw [List.drop_eq_getElem_cons h, List.takeWhile_cons_of_pos (by exact hp), List.length_cons]
  omega
theorem at_miss {l : List SesX} {t : Nat} {c : Int} (h : t < l.length) (hp : ltB l[t].c c = false) : atL (l.drop t) c = 0 := by
  unfold atL
  rw [List.drop_eq_getElem_cons h, List.takeWhile_cons_of_neg (by simp [hp])]
  rfl
theorem at_le (l : List SesX) (c : Int) : atL l c ≤ l.length := by
  unfold atL
  exact List.Sublist.length_le (List.takeWhile_sublist _)
def bhL (l : List SesX) (c : Int) : Nat := match l[atL l c]? with | some s => if s.c = c then atL l c + 1 else atL l c | none => atL l c
theorem bh_le (l : List SesX) (c : Int) : bhL l c ≤ l.length := by
  unfold bhL
  cases h : l[atL l c]? with
  | none => exact at_le l c
  | some s =>
    have := (List.getElem?_eq_some_iff.1 h).1
    dsimp only
    split <;> omega
def withX (l : List SesX) (one : SesX) : List SesX := l.take (atL l one.c) ++ ([one] ++ l.drop (bhL l one.c))
theorem below_drewN {B : Nat} {w w' : World} (h : Below B w w') (n : Nat) : Below B w (w'.drewN n) := ⟨h.os, h.tape, h.output, h.size, h.block⟩
/-- What a list of sessions in memory is read from. -/
theorem cat3 (l R : List SesX) (one : SesX) (v : Value) (w wy : World) (A1 A3 : Option Addr) (t bh n3 c1 c3 N : Nat) (hR : R = l.take t ++ ([one] ++ l.drop bh)) (hN : N = R.length) (hS : Sess w v l) (ho : AnsAt w one.x) (hl : l.length ≤ 400) (ht : t ≤ l.length) (h3 : n3 = l.length - bh)
    (hb : Below w.heap.size w wy) (g1 : SGot 7 88 sesE w (.slice A1 t c1) (l.take t)) (g3 : SGot 7 88 sesE w (.slice A3 n3 c3) (l.drop bh)) :
    Calls Tryd.prog 76 #[.slice (some ⟨wy.heap.size + 1, 0, none⟩) 3 3] ((wy.alloc (.cells (sesE one).toArray 133)).alloc (.cells #[.slice A1 t c1, .slice (some ⟨wy.heap.size, 0, none⟩) 1 1, .slice A3 n3 c3] 109)).drew fun e w' => ∃ a c, e = .returned (.slice a N c) ∧ Hid ((Sess w' (.slice a N c) R ∧ Below w.heap.size w w') ∧ Below wy.heap.size wy w') := by
  have b2 := (below2 wy (.cells (sesE one).toArray 133) (.cells #[.slice A1 t c1, .slice (some ⟨wy.heap.size, 0, none⟩) 1 1, .slice A3 n3 c3] 109)).drew
  have hB := below_via hb b2
  obtain ⟨k1, k2, k3⟩ := two_heap wy (.cells (sesE one).toArray 133) (.cells #[.slice A1 t c1, .slice (some ⟨wy.heap.size, 0, none⟩) 1 1, .slice A3 n3 c3] 109)
  have hone : SGot 7 88 sesE ((wy.alloc (.cells (sesE one).toArray 133)).alloc (.cells #[.slice A1 t c1, .slice (some ⟨wy.heap.size, 0, none⟩) 1 1, .slice A3 n3 c3] 109)).drew (.slice (some ⟨wy.heap.size, 0, none⟩) 1 1) [one] := by
    refine ⟨by simp, _, _, rfl, ⟨Nat.le_refl _, by unfold maxLen; omega⟩, fun _ => ⟨wy.heap.size, 0, rfl, by show wy.heap.size < ((wy.alloc _).alloc _).heap.size; rw [k3]; omega, fun j hj => ?_⟩⟩
    have : (((wy.alloc (.cells (sesE one).toArray 133)).alloc (.cells #[.slice A1 t c1, .slice (some ⟨wy.heap.size, 0, none⟩) 1 1, .slice A3 n3 c3] 109)).drew).cell? ⟨wy.heap.size, 0 + j, none⟩ = (sesE one).toArray[0 + j]? := cell_at (w := ((wy.alloc (.cells (sesE one).toArray 133)).alloc (.cells #[.slice A1 t c1, .slice (some ⟨wy.heap.size, 0, none⟩) 1 1, .slice A3 n3 c3] 109)).drew) k1 (0 + j)
    rw [this, Nat.zero_add]
    simp [celC]
  have hlen : R.length ≤ 1000 := by
    rw [hR]
    simp
    omega
  have hcat := concat_is (.slice (some ⟨wy.heap.size + 1, 0, none⟩) 3 3) [.slice A1 t c1, .slice (some ⟨wy.heap.size, 0, none⟩) 1 1, .slice A3 n3 c3] [l.take t, [one], l.drop bh] R (by rw [hR]; simp) (((wy.alloc (.cells (sesE one).toArray 133)).alloc (.cells #[.slice A1 t c1, .slice (some ⟨wy.heap.size, 0, none⟩) 1 1, .slice A3 n3 c3] 109)).drew) ⟨rfl, some ⟨wy.heap.size + 1, 0, none⟩, 3, rfl, fun j hj hj2 => ⟨wy.heap.size + 1, 0, rfl, by show wy.heap.size + 1 < ((wy.alloc _).alloc _).heap.size; rw [k3]; omega, by
    have hc := cell_at (w := ((wy.alloc (.cells (sesE one).toArray 133)).alloc (.cells #[.slice A1 t c1, .slice (some ⟨wy.heap.size, 0, none⟩) 1 1, .slice A3 n3 c3] 109)).drew) k2 (0 + j)
    rw [hc]
    match j, hj with
    | 0, _ => rfl
    | 1, _ => rfl
    | 2, _ => rfl, by
    match j, hj with
    | 0, _ => exact g1.keep hB
    | 1, _ => exact hone
    | 2, _ => exact g3.keep hB⟩⟩ hlen (by simp)
  refine hcat.mono ?_
  rintro e w' ⟨r, rfl, how, hbel⟩
  obtain ⟨a, c, rfl⟩ := own_len how
  have hb3 := below_via hB hbel
  refine ⟨a, c, by rw [hN], ⟨?_, hb3⟩, below_via b2 hbel⟩
  rw [hN]
  refine ⟨own_sgot how (by omega), fun s hs => ?_, own_nul how⟩
  rw [hR, List.mem_append, List.mem_append, List.mem_singleton] at hs
  rcases hs with hs | rfl | hs
  · exact (hS.ans s (List.mem_of_mem_take hs)).keep hb3
  · exact ho.keep hb3
  · exact (hS.ans s (List.mem_of_mem_drop hs)).keep hb3
/-- Sessions read at a later time, copied. -/
theorem lis3 (R : List SesX) (w : World) (N : Nat) (hN : N = R.length) (a : Option Addr) (c : Nat) (W : World) (h : Sess W (.slice a N c) R ∧ Below w.heap.size w W) : Calls Tryd.prog 66 #[.slice a N c, .func (.func 67) #[] #[]] W fun e w' => ∃ a' c', e = .returned (.slice a' N c') ∧ Hid (SesLBack (R.map SesX.v) w (.returned (.slice a' N c')) w' ∧ Below W.heap.size W w') := by
  refine (list_is _ R W h.1).mono ?_
  rintro e w' ⟨a', c', ys, rfl, hy, ho, hb⟩
  have hl : (R.map SesX.v).length = N := by rw [List.length_map, hN]
  rw [hl] at ho ⊢
  refine ⟨a', c', rfl, ⟨a', c', ys, by rw [hl], hy, ?_, below_via h.2 hb⟩, hb⟩
  rw [hl]
  exact ho.base h.2.size
set_option maxHeartbeats 8000000 in
set_option maxRecDepth 100000 in
theorem with_is (v : Value) (l : List SesX) (one : SesX) (w : World) (h : Sess w v l) (ho : AnsAt w one.x) (hl : l.length ≤ 400) : Calls Tryd.prog 65 #[v, .agg (sesE one).toArray] w (SesLBack ((withX l one).map SesX.v) w) := by
  have HT : Hid (withX l one = l.take (atL l one.c) ++ ([one] ++ l.drop (bhL l one.c))) := rfl
  have HBH : Hid (∀ t, atL l one.c = t → ((∃ (ht : t < l.length), l[t].c = one.c) → bhL l one.c = t + 1) ∧ ((¬ ∃ (ht : t < l.length), l[t].c = one.c) → bhL l one.c = t)) := by
    rintro t rfl
    refine ⟨?_, ?_⟩
    · rintro ⟨ht, he⟩
      unfold bhL
      rw [List.getElem?_eq_getElem ht]
      dsimp only
      rw [if_pos he]
    · intro hn
      unfold bhL
      cases hg : l[atL l one.c]? with
      | none => rfl
      | some s =>
        obtain ⟨h1, h2⟩ := List.getElem?_eq_some_iff.1 hg
        dsimp only
        rw [if_neg (fun e => hn ⟨h1, by rw [h2]; exact e⟩)]
  have HS := hideIt h
  have HO := hideIt ho
  obtain ⟨a, cc, rfl, h8, hr⟩ := h.seven
  have hcap := h.row.cap
  have HH := hideIt hr
  clear hr h ho
  have HB0 := hideIt (And.intro (heap_alloc_new w (.cells (sesE one).toArray 133)) (below1 w (.cells (sesE one).toArray 133)))
  have HA : Hid (atL l one.c = 0 + atL (l.drop 0) one.c) := by
    show _ = _
    rw [List.drop_zero, Nat.zero_add]
  generalize withX l one = RES at *
  obtain ⟨oc, oq, od, ⟨⟨code, num, am, fl⟩, aa, ac, fa, fc⟩⟩ := one
  simp only [sesE, AnsX.am, AnsX.fl] at *
  go_enter Tryd.func65, Tryd.ntmps65
  go_wp2
  go_loopw [5] (fun x wr => ∃ t : Nat, x = .int .i64 t ∧ t ≤ l.length ∧ Hid (atL l oc = t + atL (l.drop t) oc ∧ wr.heap[w.heap.size]? = some (.cells #[.int .i64 oc, .int .i64 oq, .bool od, .int .i64 code, .int .i64 num, .slice aa am.length ac, .slice fa fl.length fc] 133 (0, 0)) ∧ Below w.heap.size w wr)) (fun x _ => l.length - (intOf x).toNat)
  case atStart => exact ⟨0, rfl, Nat.zero_le _, hideIt ⟨HA.out, HB0.out.1, HB0.out.2⟩⟩
  case round =>
    clear HA HB0
    obtain ⟨t, rfl, ht, HR⟩ := hrel
    obtain ⟨⟨g0, g1, g2, g3, g4, g5, g6⟩, -, gz⟩ := seven_at HR.out.2.1
    by_cases hlt : t < l.length
    · have hltI : (t : Int) < (l.length : Int) := by omega
      have ht0 : (0 : Int) ≤ (t : Int) := by omega
      obtain ⟨b, off, rfl, hbl, q0, -⟩ := HH.out t hlt
      have c0 := (HR.out.2.2.cell (p := ⟨b, off + t * 7, none⟩) hbl).trans q0
      have hblr : b < wr.heap.size := Nat.lt_of_lt_of_le hbl HR.out.2.2.size
      cases hq : ltB l[t].c oc
      · have hqd : decide (l[t].c < oc) = false := hq
        have hN : atL l oc = t := HR.out.1.trans (by rw [at_miss hlt hq]; rfl)
        have HBT := hideIt (HBH.out t hN)
        clear hq q0
        have HLT := hideIt (And.intro hN HT.out)
        clear hN HT HBH
        cases he : (l[t].c == oc)
        · have heI : ¬ l[t].c = oc := by simpa using he
          have hbh : bhL l oc = t := HBT.out.2 (by rintro ⟨_, h⟩; exact heI h)
          have HE := hideIt (HLT.out.2.trans (by rw [HLT.out.1, hbh]))
          clear hbh HLT he HBT
          have hgs : ∃ sc, l[t].c = sc := ⟨_, rfl⟩
          obtain ⟨sc, hsc⟩ := hgs
          rw [hsc] at c0 heI hqd
          clear hsc
          go_upto_region 2 with fail
          go_quiet (fail)
          have HR2 : Hid ((wr.drewN nq).heap[w.heap.size]? = some (.cells #[.int .i64 oc, .int .i64 oq, .bool od, .int .i64 code, .int .i64 num, .slice aa am.length ac, .slice fa fl.length fc] 133 (0, 0)) ∧ Below w.heap.size w (wr.drewN nq) ∧ (wr.drewN nq).cell? ⟨b, off + t * 7, none⟩ = some (.int .i64 sc)) := ⟨HR.out.2.1, below_drewN HR.out.2.2 _, c0⟩
          clear HR c0 g0 g1 g2 g3 g4 g5 g6 gz hblr
          generalize wr.drewN nq = wx at *
          have c0 := HR2.out.2.2
          obtain ⟨⟨g0, g1, g2, g3, g4, g5, g6⟩, -, gz⟩ := seven_at HR2.out.1
          have hblr : b < wx.heap.size := Nat.lt_of_lt_of_le hbl HR2.out.2.1.size
          go_upto_region 5 with fail
          go_quiet (fail)
          have HR3 : Hid ((wx.drewN nq).heap[w.heap.size]? = some (.cells #[.int .i64 oc, .int .i64 oq, .bool od, .int .i64 code, .int .i64 num, .slice aa am.length ac, .slice fa fl.length fc] 133 (0, 0)) ∧ Below w.heap.size w (wx.drewN nq)) := ⟨HR2.out.1, below_drewN HR2.out.2.1 _⟩
          clear HR2 c0 g0 g1 g2 g3 g4 g5 g6 gz hblr
          generalize wx.drewN nq = wy at *
          obtain ⟨⟨g0, g1, g2, g3, g4, g5, g6⟩, -, gz⟩ := seven_at HR3.out.1
          go_upto_region 7 with fail
          clear HH hqd heI
          have htc : (t : Int) ≤ (cc : Int) := by omega
          have hlc : (l.length : Int) ≤ (cc : Int) := by omega
          have hbI : ((t : Nat) : Int) ≤ (l.length : Int) := by omega
          have htz : (t : Int) ≤ (t : Int) + 1 := by omega
          have hb0 : (0 : Int) ≤ ((t : Nat) : Int) := by omega
          have hbJ : (t : Int) + 1 ≤ (l.length : Int) := by omega
          have hbK : (0 : Int) ≤ (t : Int) + 1 := by omega
          obtain ⟨N, hN⟩ : ∃ N, N = RES.length := ⟨_, rfl⟩
          have G1 : SGot 7 88 sesE w (.slice (some ⟨b, off, none⟩) t cc) (l.take t) := by
            have := SGot.part sesK HS.out.row 0 t cc (by omega) ⟨by omega, hcap.2⟩ (some ⟨b, off, none⟩) (fun _ b' off' e => by simpa using e)
            simpa using this
          have G3 : SGot 7 88 sesE w (.slice (if cc = t then some ⟨b, off, none⟩ else some ⟨b, off + t * 7, none⟩) (l.length - t) (cc - t)) (l.drop (t)) := by
            have := SGot.part sesK HS.out.row (t) (l.length - (t)) (cc - (t)) (by omega) ⟨by omega, by have := hcap.2; omega⟩ (if cc = t then some ⟨b, off, none⟩ else some ⟨b, off + t * 7, none⟩) (fun hp b' off' e => by
              first | rw [if_neg (by omega)] | skip | (exfalso; omega)
              simp only [Option.some.injEq, Addr.mk.injEq] at e
              obtain ⟨rfl, rfl, _⟩ := e
              first | rfl | (exfalso; omega))
            rwa [List.take_of_length_le (by rw [List.length_drop]; omega)] at this
          have HCAT := hideIt (cat3 l RES _ _ w wy _ _ t (t) _ _ _ N HE.out hN HS.out HO.out hl ht rfl HR3.out.2 G1 G3)
          have HLIS := hideIt (lis3 RES w N hN)
          have HBX := hideIt HR3.out.1
          clear HS G1 G3 HR3 HE HO hN
          simp only [sesE, AnsX.am, AnsX.fl] at HCAT
          go_region_held3 (fun W => W.cell? ⟨w.heap.size, 0, none⟩ = some (.int .i64 oc) ∧ W.cell? ⟨w.heap.size, 1, none⟩ = some (.int .i64 oq) ∧ W.cell? ⟨w.heap.size, 2, none⟩ = some (.bool od) ∧ W.cell? ⟨w.heap.size, 3, none⟩ = some (.int .i64 code) ∧ W.cell? ⟨w.heap.size, 4, none⟩ = some (.int .i64 num) ∧ W.cell? ⟨w.heap.size, 5, none⟩ = some (.slice aa am.length ac) ∧ W.cell? ⟨w.heap.size, 6, none⟩ = some (.slice fa fl.length fc)) (go_keep) (first | (go_at_call 76; refine HCAT.out.mono ?_; rintro e w3 ⟨a3, c3, rfl, H3⟩; have P3 := (H3.out.2.block _ gz).trans HBX.out; obtain ⟨⟨j0, j1, j2, j3, j4, j5, j6⟩, -, -⟩ := seven_at P3; have HP3 := hideIt P3; clear P3 HCAT) | (go_at_call 66; refine (HLIS.out _ _ _ H3.out.1).mono ?_; rintro e w4 ⟨a4, c4, rfl, H4⟩; obtain ⟨⟨k0, k1, k2, k3, k4, k5, k6⟩, -, -⟩ := seven_at ((H4.out.2.block _ (Array.getElem?_eq_some_iff.1 HP3.out).1).trans HP3.out); clear H3 HLIS))
          go_wp2
          go_ret
          exact H4.out.1
        · have heI : l[t].c = oc := by simpa using he
          have hbh : bhL l oc = t + 1 := HBT.out.1 ⟨hlt, heI⟩
          have HE := hideIt (HLT.out.2.trans (by rw [HLT.out.1, hbh]))
          clear hbh HLT he HBT
          have hgs : ∃ sc, l[t].c = sc := ⟨_, rfl⟩
          obtain ⟨sc, hsc⟩ := hgs
          rw [hsc] at c0 heI hqd
          clear hsc
          have heJ := heI.symm
          clear heI
          subst heJ
          have hwt : IntKind.i64.wrap ((t : Int) + 1) = ((t + 1 : Nat) : Int) := by rw [IntKind.wrap_i64]; omega
          go_upto_region 2 with fail
          go_quiet (fail)
          have HR2 : Hid ((wr.drewN nq).heap[w.heap.size]? = some (.cells #[.int .i64 oc, .int .i64 oq, .bool od, .int .i64 code, .int .i64 num, .slice aa am.length ac, .slice fa fl.length fc] 133 (0, 0)) ∧ Below w.heap.size w (wr.drewN nq) ∧ (wr.drewN nq).cell? ⟨b, off + t * 7, none⟩ = some (.int .i64 oc)) := ⟨HR.out.2.1, below_drewN HR.out.2.2 _, c0⟩
          clear HR c0 g0 g1 g2 g3 g4 g5 g6 gz hblr
          generalize wr.drewN nq = wx at *
          have c0 := HR2.out.2.2
          obtain ⟨⟨g0, g1, g2, g3, g4, g5, g6⟩, -, gz⟩ := seven_at HR2.out.1
          have hblr : b < wx.heap.size := Nat.lt_of_lt_of_le hbl HR2.out.2.1.size
          go_upto_region 5 with fail
          go_quiet (fail)
          have HR3 : Hid ((wx.drewN nq).heap[w.heap.size]? = some (.cells #[.int .i64 oc, .int .i64 oq, .bool od, .int .i64 code, .int .i64 num, .slice aa am.length ac, .slice fa fl.length fc] 133 (0, 0)) ∧ Below w.heap.size w (wx.drewN nq)) := ⟨HR2.out.1, below_drewN HR2.out.2.1 _⟩
          clear HR2 c0 g0 g1 g2 g3 g4 g5 g6 gz hblr
          generalize wx.drewN nq = wy at *
          obtain ⟨⟨g0, g1, g2, g3, g4, g5, g6⟩, -, gz⟩ := seven_at HR3.out.1
          go_upto_region 7 with fail
          clear HH hqd
          by_cases hcc : cc = t + 1
          · subst hcc
            have htc : (t : Int) ≤ (((t + 1) : Nat) : Int) := by omega
            have hlc : (l.length : Int) ≤ (((t + 1) : Nat) : Int) := by omega
            have hbI : (((t + 1) : Nat) : Int) ≤ (l.length : Int) := by omega
            have hb0 : (0 : Int) ≤ (((t + 1) : Nat) : Int) := by omega
            have htz : (t : Int) ≤ (t : Int) + 1 := by omega
            have hbK : (0 : Int) ≤ (t : Int) + 1 := by omega
            have hmx : (t + 1) ≤ maxLen := hcap.2
            (try have hbJ : (t : Int) + 1 ≤ (l.length : Int) := by omega)
            obtain ⟨N, hN⟩ : ∃ N, N = RES.length := ⟨_, rfl⟩
            have G1 : SGot 7 88 sesE w (.slice (some ⟨b, off, none⟩) t ((t + 1))) (l.take t) := by
              have := SGot.part sesK HS.out.row 0 (t) ((t + 1)) (by omega) ⟨by omega, hcap.2⟩ (some ⟨b, off, none⟩) (fun _ b' off' e => by simpa using e)
              simpa using this
            have G3 : ∀ A3, SGot 7 88 sesE w (.slice A3 0 0) (l.drop ((t + 1))) := by
              intro A3
              rw [List.drop_eq_nil_of_le (by omega)]
              exact SGot.nil _ _ _ _ _ _ (Nat.zero_le _)
            have HCAT := hideIt (fun A3 => cat3 l RES _ _ w wy _ A3 (t) ((t + 1)) 0 _ 0 N HE.out hN HS.out HO.out hl (by omega) (by omega) HR3.out.2 G1 (G3 A3))
            have HLIS := hideIt (lis3 RES w N hN)
            have HBX := hideIt HR3.out.1
            clear HS G1 G3 HR3 HE HO hN
            simp only [sesE, AnsX.am, AnsX.fl] at HCAT
            go_region_held3 (fun W => W.cell? ⟨w.heap.size, 0, none⟩ = some (.int .i64 oc) ∧ W.cell? ⟨w.heap.size, 1, none⟩ = some (.int .i64 oq) ∧ W.cell? ⟨w.heap.size, 2, none⟩ = some (.bool od) ∧ W.cell? ⟨w.heap.size, 3, none⟩ = some (.int .i64 code) ∧ W.cell? ⟨w.heap.size, 4, none⟩ = some (.int .i64 num) ∧ W.cell? ⟨w.heap.size, 5, none⟩ = some (.slice aa am.length ac) ∧ W.cell? ⟨w.heap.size, 6, none⟩ = some (.slice fa fl.length fc)) (go_keep) (first | (go_at_call 76; refine (HCAT.out _).mono ?_; rintro e w3 ⟨a3, c3, rfl, H3⟩; have P3 := (H3.out.2.block _ gz).trans HBX.out; obtain ⟨⟨j0, j1, j2, j3, j4, j5, j6⟩, -, -⟩ := seven_at P3; have HP3 := hideIt P3; clear P3 HCAT) | (go_at_call 66; refine (HLIS.out _ _ _ H3.out.1).mono ?_; rintro e w4 ⟨a4, c4, rfl, H4⟩; obtain ⟨⟨k0, k1, k2, k3, k4, k5, k6⟩, -, -⟩ := seven_at ((H4.out.2.block _ (Array.getElem?_eq_some_iff.1 HP3.out).1).trans HP3.out); clear H3 HLIS))
            go_wp2
            go_ret
            exact H4.out.1
          · have htc : (t : Int) ≤ (cc : Int) := by omega
            have hlc : (l.length : Int) ≤ (cc : Int) := by omega
            have hbI : (((t + 1) : Nat) : Int) ≤ (l.length : Int) := by omega
            have htz : (t : Int) ≤ (t : Int) + 1 := by omega
            have hb0 : (0 : Int) ≤ (((t + 1) : Nat) : Int) := by omega
            have hbJ : (t : Int) + 1 ≤ (l.length : Int) := by omega
            have hbK : (0 : Int) ≤ (t : Int) + 1 := by omega
            obtain ⟨N, hN⟩ : ∃ N, N = RES.length := ⟨_, rfl⟩
            have G1 : SGot 7 88 sesE w (.slice (some ⟨b, off, none⟩) t cc) (l.take t) := by
              have := SGot.part sesK HS.out.row 0 t cc (by omega) ⟨by omega, hcap.2⟩ (some ⟨b, off, none⟩) (fun _ b' off' e => by simpa using e)
              simpa using this
            have G3 : SGot 7 88 sesE w (.slice (some ⟨b, off + (t + 1) * 7, none⟩) (l.length - (t + 1)) (cc - (t + 1))) (l.drop ((t + 1))) := by
              have := SGot.part sesK HS.out.row ((t + 1)) (l.length - ((t + 1))) (cc - ((t + 1))) (by omega) ⟨by omega, by have := hcap.2; omega⟩ (some ⟨b, off + (t + 1) * 7, none⟩) (fun hp b' off' e => by
                first | rw [if_neg (by omega)] | skip | (exfalso; omega)
                simp only [Option.some.injEq, Addr.mk.injEq] at e
                obtain ⟨rfl, rfl, _⟩ := e
                first | rfl | (exfalso; omega))
              rwa [List.take_of_length_le (by rw [List.length_drop]; omega)] at this
            have HCAT := hideIt (cat3 l RES _ _ w wy _ _ t ((t + 1)) _ _ _ N HE.out hN HS.out HO.out hl ht rfl HR3.out.2 G1 G3)
            have HLIS := hideIt (lis3 RES w N hN)
            have HBX := hideIt HR3.out.1
            clear HS G1 G3 HR3 HE HO hN
            simp only [sesE, AnsX.am, AnsX.fl] at HCAT
            go_region_held3 (fun W => W.cell? ⟨w.heap.size, 0, none⟩ = some (.int .i64 oc) ∧ W.cell? ⟨w.heap.size, 1, none⟩ = some (.int .i64 oq) ∧ W.cell? ⟨w.heap.size, 2, none⟩ = some (.bool od) ∧ W.cell? ⟨w.heap.size, 3, none⟩ = some (.int .i64 code) ∧ W.cell? ⟨w.heap.size, 4, none⟩ = some (.int .i64 num) ∧ W.cell? ⟨w.heap.size, 5, none⟩ = some (.slice aa am.length ac) ∧ W.cell? ⟨w.heap.size, 6, none⟩ = some (.slice fa fl.length fc)) (go_keep) (first | (go_at_call 76; refine HCAT.out.mono ?_; rintro e w3 ⟨a3, c3, rfl, H3⟩; have P3 := (H3.out.2.block _ gz).trans HBX.out; obtain ⟨⟨j0, j1, j2, j3, j4, j5, j6⟩, -, -⟩ := seven_at P3; have HP3 := hideIt P3; clear P3 HCAT) | (go_at_call 66; refine (HLIS.out _ _ _ H3.out.1).mono ?_; rintro e w4 ⟨a4, c4, rfl, H4⟩; obtain ⟨⟨k0, k1, k2, k3, k4, k5, k6⟩, -, -⟩ := seven_at ((H4.out.2.block _ (Array.getElem?_eq_some_iff.1 HP3.out).1).trans HP3.out); clear H3 HLIS))
            go_wp2
            go_ret
            exact H4.out.1
      · have hqI : l[t].c < oc := of_decide_eq_true hq
        have hN := HR.out.1.trans (by rw [at_hit hlt hq])
        have HN : Hid (atL l oc = (t + 1) + atL (l.drop (t + 1)) oc) := by
          show _ = _
          rw [hN]
          omega
        clear hq hN q0
        generalize l[t] = s at *
        obtain ⟨sc, _⟩ := s
        dsimp only at c0 hqI
        go_upto_region 2 with fail
        go_quiet (fail)
        have HR2 : Hid ((wr.drewN nq).heap[w.heap.size]? = some (.cells #[.int .i64 oc, .int .i64 oq, .bool od, .int .i64 code, .int .i64 num, .slice aa am.length ac, .slice fa fl.length fc] 133 (0, 0)) ∧ Below w.heap.size w (wr.drewN nq)) := ⟨HR.out.2.1, below_drewN HR.out.2.2 _⟩
        clear HR
        generalize wr.drewN nq = wx at *
        go_wp2
        go_roundw
        case rel => exact ⟨t + 1, by go_num, by omega, hideIt ⟨HN.out, HR2.out.1, HR2.out.2⟩⟩
        case measure => simp [intOf]; omega
    · have hltI : ¬ (t : Int) < (l.length : Int) := by omega
      have hdf : decide ((t : Int) < (l.length : Int)) = false := decide_eq_false hltI
      have hdf2 : decide (t < l.length) = false := decide_eq_false hlt
      have hN : atL l oc = t := HR.out.1.trans (by rw [List.drop_eq_nil_of_le (by omega)]; rfl)
      have hbh : bhL l oc = t := (HBH.out t hN).2 (by rintro ⟨h, _⟩; exact hlt h)
      have HE := hideIt (HT.out.trans (by rw [hN, hbh]))
      clear hN hbh HT HBH
      go_upto_region 2 with fail
      go_quiet (fail)
      have HR2 : Hid ((wr.drewN nq).heap[w.heap.size]? = some (.cells #[.int .i64 oc, .int .i64 oq, .bool od, .int .i64 code, .int .i64 num, .slice aa am.length ac, .slice fa fl.length fc] 133 (0, 0)) ∧ Below w.heap.size w (wr.drewN nq)) := ⟨HR.out.2.1, below_drewN HR.out.2.2 _⟩
      clear HR g0 g1 g2 g3 g4 g5 g6 gz
      generalize wr.drewN nq = wx at *
      obtain ⟨⟨g0, g1, g2, g3, g4, g5, g6⟩, -, gz⟩ := seven_at HR2.out.1
      go_upto_region 5 with fail
      go_quiet (fail)
      have HR3 : Hid ((wx.drewN nq).heap[w.heap.size]? = some (.cells #[.int .i64 oc, .int .i64 oq, .bool od, .int .i64 code, .int .i64 num, .slice aa am.length ac, .slice fa fl.length fc] 133 (0, 0)) ∧ Below w.heap.size w (wx.drewN nq)) := ⟨HR2.out.1, below_drewN HR2.out.2 _⟩
      clear HR2 g0 g1 g2 g3 g4 g5 g6 gz
      generalize wx.drewN nq = wy at *
      obtain ⟨⟨g0, g1, g2, g3, g4, g5, g6⟩, -, gz⟩ := seven_at HR3.out.1
      go_upto_region 7 with fail
      cases a with
      | some ad =>
        obtain ⟨b, off, sp⟩ := ad
        clear HH hdf hdf2
        by_cases hcc : cc = t
        · subst hcc
          have htc : (cc : Int) ≤ ((cc : Nat) : Int) := by omega
          have hlc : (l.length : Int) ≤ ((cc : Nat) : Int) := by omega
          have hbI : ((cc : Nat) : Int) ≤ (l.length : Int) := by omega
          have hb0 : (0 : Int) ≤ ((cc : Nat) : Int) := by omega
          have htz : (cc : Int) ≤ (cc : Int) + 1 := by omega
          have hbK : (0 : Int) ≤ (cc : Int) + 1 := by omega
          have hmx : cc ≤ maxLen := hcap.2
          (try have hbJ : (cc : Int) + 1 ≤ (l.length : Int) := by omega)
          obtain ⟨N, hN⟩ : ∃ N, N = RES.length := ⟨_, rfl⟩
          have G1 : SGot 7 88 sesE w (.slice (some ⟨b, off, sp⟩) cc (cc)) (l.take cc) := by
            have := SGot.part sesK HS.out.row 0 (cc) (cc) (by omega) ⟨by omega, hcap.2⟩ (some ⟨b, off, sp⟩) (fun _ b' off' e => by simpa using e)
            simpa using this
          have G3 : ∀ A3, SGot 7 88 sesE w (.slice A3 0 0) (l.drop (cc)) := by
            intro A3
            rw [List.drop_eq_nil_of_le (by omega)]
            exact SGot.nil _ _ _ _ _ _ (Nat.zero_le _)
          have HCAT := hideIt (fun A3 => cat3 l RES _ _ w wy _ A3 (cc) (cc) 0 _ 0 N HE.out hN HS.out HO.out hl (by omega) (by omega) HR3.out.2 G1 (G3 A3))
          have HLIS := hideIt (lis3 RES w N hN)
          have HBX := hideIt HR3.out.1
          clear HS G1 G3 HR3 HE HO hN
          simp only [sesE, AnsX.am, AnsX.fl] at HCAT
          go_region_held3 (fun W => W.cell? ⟨w.heap.size, 0, none⟩ = some (.int .i64 oc) ∧ W.cell? ⟨w.heap.size, 1, none⟩ = some (.int .i64 oq) ∧ W.cell? ⟨w.heap.size, 2, none⟩ = some (.bool od) ∧ W.cell? ⟨w.heap.size, 3, none⟩ = some (.int .i64 code) ∧ W.cell? ⟨w.heap.size, 4, none⟩ = some (.int .i64 num) ∧ W.cell? ⟨w.heap.size, 5, none⟩ = some (.slice aa am.length ac) ∧ W.cell? ⟨w.heap.size, 6, none⟩ = some (.slice fa fl.length fc)) (go_keep) (first | (go_at_call 76; refine (HCAT.out _).mono ?_; rintro e w3 ⟨a3, c3, rfl, H3⟩; have P3 := (H3.out.2.block _ gz).trans HBX.out; obtain ⟨⟨j0, j1, j2, j3, j4, j5, j6⟩, -, -⟩ := seven_at P3; have HP3 := hideIt P3; clear P3 HCAT) | (go_at_call 66; refine (HLIS.out _ _ _ H3.out.1).mono ?_; rintro e w4 ⟨a4, c4, rfl, H4⟩; obtain ⟨⟨k0, k1, k2, k3, k4, k5, k6⟩, -, -⟩ := seven_at ((H4.out.2.block _ (Array.getElem?_eq_some_iff.1 HP3.out).1).trans HP3.out); clear H3 HLIS))
          go_wp2
          go_ret
          exact H4.out.1
        · have htc : (t : Int) ≤ (cc : Int) := by omega
          have hlc : (l.length : Int) ≤ (cc : Int) := by omega
          have hbI : (t : Int) ≤ (l.length : Int) := by omega
          have hb0 : (0 : Int) ≤ (t : Int) := by omega
          have hmx : cc ≤ maxLen := hcap.2
          obtain ⟨N, hN⟩ : ∃ N, N = RES.length := ⟨_, rfl⟩
          have G1 : SGot 7 88 sesE w (.slice (some ⟨b, off, sp⟩) t cc) (l.take t) := by
            have := SGot.part sesK HS.out.row 0 (t) (cc) (by omega) ⟨by omega, hcap.2⟩ (some ⟨b, off, sp⟩) (fun _ b' off' e => by simpa using e)
            simpa using this
          have G3 : ∀ A3 c3, c3 ≤ maxLen → SGot 7 88 sesE w (.slice A3 (l.length - t) c3) (l.drop t) := by
            intro A3 c3 hc3
            rw [List.drop_eq_nil_of_le (by omega), show l.length - t = 0 by omega]
            exact SGot.nil _ _ _ _ _ _ hc3
          have HCAT := hideIt (fun A3 c3 (hc3 : c3 ≤ maxLen) => cat3 l RES _ _ w wy _ A3 t t _ _ c3 N HE.out hN HS.out HO.out hl ht rfl HR3.out.2 G1 (G3 A3 c3 hc3))
          have HLIS := hideIt (lis3 RES w N hN)
          have HBX := hideIt HR3.out.1
          clear HS G1 G3 HR3 HE HO hN
          simp only [sesE, AnsX.am, AnsX.fl] at HCAT
          go_region_held3 (fun W => W.cell? ⟨w.heap.size, 0, none⟩ = some (.int .i64 oc) ∧ W.cell? ⟨w.heap.size, 1, none⟩ = some (.int .i64 oq) ∧ W.cell? ⟨w.heap.size, 2, none⟩ = some (.bool od) ∧ W.cell? ⟨w.heap.size, 3, none⟩ = some (.int .i64 code) ∧ W.cell? ⟨w.heap.size, 4, none⟩ = some (.int .i64 num) ∧ W.cell? ⟨w.heap.size, 5, none⟩ = some (.slice aa am.length ac) ∧ W.cell? ⟨w.heap.size, 6, none⟩ = some (.slice fa fl.length fc)) (go_keep) (first | (go_at_call 76; refine (HCAT.out _ _ (by omega)).mono ?_; rintro e w3 ⟨a3, c3, rfl, H3⟩; have P3 := (H3.out.2.block _ gz).trans HBX.out; obtain ⟨⟨j0, j1, j2, j3, j4, j5, j6⟩, -, -⟩ := seven_at P3; have HP3 := hideIt P3; clear P3 HCAT) | (go_at_call 66; refine (HLIS.out _ _ _ H3.out.1).mono ?_; rintro e w4 ⟨a4, c4, rfl, H4⟩; obtain ⟨⟨k0, k1, k2, k3, k4, k5, k6⟩, -, -⟩ := seven_at ((H4.out.2.block _ (Array.getElem?_eq_some_iff.1 HP3.out).1).trans HP3.out); clear H3 HLIS))
          go_wp2
          go_ret
          exact H4.out.1
      | none =>
        clear HH hdf hdf2
        obtain ⟨h0, rfl⟩ := HS.out.nul _ _ rfl
        have hl0 : l = [] := List.length_eq_zero_iff.1 h0
        have ht0 : t = 0 := by omega
        subst hl0
        subst ht0
        simp only [List.length_nil, Int.natCast_zero]
        have HCAT := hideIt (cat3 [] RES _ _ w wy none none 0 0 0 0 0 RES.length HE.out rfl HS.out HO.out hl (Nat.le_refl _) rfl HR3.out.2 (SGot.nil _ _ _ _ _ _ (Nat.zero_le _)) (SGot.nil _ _ _ _ _ _ (Nat.zero_le _)))
        have HLIS := hideIt (lis3 RES w RES.length rfl)
        have HBX := hideIt HR3.out.1
        clear HS HR3 HE HO
        generalize RES.length = N at *
        simp only [sesE, AnsX.am, AnsX.fl] at HCAT
        go_region_held3 (fun W => W.cell? ⟨w.heap.size, 0, none⟩ = some (.int .i64 oc) ∧ W.cell? ⟨w.heap.size, 1, none⟩ = some (.int .i64 oq) ∧ W.cell? ⟨w.heap.size, 2, none⟩ = some (.bool od) ∧ W.cell? ⟨w.heap.size, 3, none⟩ = some (.int .i64 code) ∧ W.cell? ⟨w.heap.size, 4, none⟩ = some (.int .i64 num) ∧ W.cell? ⟨w.heap.size, 5, none⟩ = some (.slice aa am.length ac) ∧ W.cell? ⟨w.heap.size, 6, none⟩ = some (.slice fa fl.length fc)) (go_keep) (first | (go_at_call 76; refine (HCAT.out).mono ?_; rintro e w3 ⟨a3, c3, rfl, H3⟩; have P3 := (H3.out.2.block _ gz).trans HBX.out; obtain ⟨⟨j0, j1, j2, j3, j4, j5, j6⟩, -, -⟩ := seven_at P3; have HP3 := hideIt P3; clear P3 HCAT) | (go_at_call 66; refine (HLIS.out _ _ _ H3.out.1).mono ?_; rintro e w4 ⟨a4, c4, rfl, H4⟩; obtain ⟨⟨k0, k1, k2, k3, k4, k5, k6⟩, -, -⟩ := seven_at ((H4.out.2.block _ (Array.getElem?_eq_some_iff.1 HP3.out).1).trans HP3.out); clear H3 HLIS))
        go_wp2
        go_ret
        exact H4.out.1
end Go.Proofs.YtilinemcmgjiiaaDoor
