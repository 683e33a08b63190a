/- Texts of my own, laid together. -/
import Derived.Test.YtiinigifjdpicaaGreatDoorMb00
import Derived.Test.YtiinigifjdpicaaGreatDoorProg
import Derived.WalkKit
import Derived.WalkSpells
import Derived.WalkLawsBesides
import Derived.Deep.QuietTactic
import Derived.BigQuiet
import Derived.Lib.AppendStr
import Derived.Deep.RegionHeld3
import Derived.Deep.RegionLaw
import Derived.Deep.CutBlock
import Derived.StillTailTactics
import Derived.OwnWalk
import Derived.Deep.Slices
import Derived.ChangeSlices
namespace Go.Proofs.YtiinigifjdpicaaGreatDoor.Lg
open Go.RowKit
def shA (s : Nat → Int) : Array Value := #[.int .i64 (s 0), .int .i64 (s 1), .int .i64 (s 2), .int .i64 (s 3)]
theorem sh_cells {w : World} {p : Nat} {s : Nat → Int} (h : w.heap[p]? = some (.cells (shA s) 108 (0, 0))) : w.cell? ⟨p, 0, none⟩ = some (.int .i64 (s 0)) ∧ w.cell? ⟨p, 1, none⟩ = some (.int .i64 (s 1)) ∧ w.cell? ⟨p, 2, none⟩ = some (.int .i64 (s 2)) ∧ w.cell? ⟨p, 3, none⟩ = some (.int .i64 (s 3)) :=
 ⟨by rw [cell_at h]; rfl, by rw [cell_at h]; rfl, by rw [cell_at h]; rfl, by rw [cell_at h]; rfl⟩
theorem sh_cell {w : World} {p : Nat} {s : Nat → Int} (h : w.heap[p]? = some (.cells (shA s) 108 (0, 0))) (t : Nat) (ht : t < 4) : w.cell? ⟨p, t, none⟩ = some (.int .i64 (s t)) := by
 obtain ⟨h0, h1, h2, h3⟩ := sh_cells h
 rcases (by omega : t = 0 ∨ t = 1 ∨ t = 2 ∨ t = 3) with rfl | rfl | rfl | rfl
 ·exact h0
 ·exact h1
 ·exact h2
 ·exact h3
def upS (s : Nat → Int) (t : Nat) (n : Int) : Nat → Int := fun k => if k = t then n else s k
theorem sh_set {w : World} {p : Nat} {s : Nat → Int} (h : w.heap[p]? = some (.cells (shA s) 108 (0, 0))) (t : Nat) (ht : t < 4) (n : Int) : (w.setCell ⟨p, t, none⟩ (.int .i64 n)).heap[p]? = some (.cells (shA (upS s t n)) 108 (0, 0)) := by
 rw [heap_set h]
 rcases (by omega : t = 0 ∨ t = 1 ∨ t = 2 ∨ t = 3) with rfl | rfl | rfl | rfl <;> rfl
structure Mine (w : World) (v : Value) (xs : List AmtV) (wr : World) : Prop where
 own : wr.ownsRow w.heap.size 53 2 v xs.length (amC xs)
 bel : Below w.heap.size w wr
theorem Mine.grow {w wr : World} {v : Value} {xs : List AmtV} (h : Mine w v xs wr) (x y : Int) (hl : xs.length ≤ 1000) :
  ∃ v' w', (Builtin.append_ #[33, 33] 33 #[v, .slice (some ⟨wr.heap.size, 0, none⟩) 1 1]).run Tryz.prog (wr.alloc (.cells #[.int .i64 x, .int .i64 y] 53)) = .ok v' w' ∧ Mine w v' (xs ++ [⟨x, y⟩]) w' := by
 have hb := h.bel.size;obtain ⟨v', w', h1, h2, h3⟩ := run_app (wr.alloc (.cells #[.int .i64 x, .int .i64 y] 53)) 33 w.heap.size v xs [⟨x, y⟩] (.slice (some ⟨wr.heap.size, 0, none⟩) 1 1) (by simp; omega) (own_keep h.own (below1 wr _)) (one_got wr x y) (by rw [List.length_singleton]; omega)
 refine ⟨v', w', h1, h2, ?_⟩;have ho : Out (fun k => v.ownBlock = some k) (wr.alloc (.cells #[.int .i64 x, .int .i64 y] 53)) w' := Out.ofGrown h3 (fun k e => e);refine below_out (below_via h.bel (below1 wr _)) ho fun k hk => ?_
 obtain ⟨_, ⟨rfl, _⟩ | ⟨g, cap, cur, rfl, hB, _⟩⟩ := h.own
 ·cases hk
 ·simp only [Value.ownBlock, Option.some.injEq] at hk;omega
set_option maxHeartbeats 4000000 in
set_option maxRecDepth 100000 in
theorem amounts_is (p : Nat) (s : Nat → Int) (w : World) (hp : w.heap[p]? = some (.cells (shA s) 108 (0, 0))) : Calls Tryz.prog 57 #[.pointer (some ⟨p, 0, none⟩)] w fun e w' => ∃ g, e = .returned g ∧ Mine w g (pre s 4) w' := by
 have HP := hideIt hp;have hpl := (Array.getElem?_eq_some_iff.1 hp).1;clear hp
 go_enter Tryz.func57, Tryz.ntmps57
 go_wp2
 go_loopw [3, 7] (fun u v wr => ∃ (t : Nat), v = .int .i64 t ∧ t ≤ 4 ∧ Hid (Mine w u (pre s t) wr)) (fun _ v _ => 4 - (intOf v).toNat)
 case atStart => exact ⟨0, rfl, Nat.zero_le _, hideIt ⟨own_nil _ _, Below.refl _ _⟩⟩
 case round =>
  obtain ⟨t, rfl, ht, HR⟩ := hrel
  by_cases hlt : t < 4
  ·have hltI : (t : Int) < 4 := by omega
   have ht0 : (0 : Int) ≤ (t : Int) := by omega
   have c0 := (HR.out.bel.cell (p := ⟨p, t, none⟩) hpl).trans (sh_cell HP.out t hlt);have HE : Hid (pre s (t + 1) = pre s t ++ one s t) := rfl
   by_cases h0 : 0 < s t
   ·have HO : Hid (one s t = [⟨t, s t⟩]) := if_pos h0;have hpl4 := pre_len s t
    go_upto_region 4 with fail
    go_quiet (fail)
    have HM : Mine w u3 (pre s t) (wr.drewN nq) := ⟨HR.out.own, bN HR.out.bel _⟩;generalize wr.drewN nq = wq at *;obtain ⟨v', w', hrun, hm⟩ := HM.grow t (s t) (by omega);have HRUN := hideIt hrun;have HM2 := hideIt hm;clear hrun hm HM HR
    go_wp2_with (at_builtin; refine wpList_append_run _ rfl _ _ rfl rfl rfl rfl HRUN.out ?_)
    clear HRUN;go_wp2
    go_roundw
    case rel => exact ⟨t + 1, by go_num, by omega, hideIt (by rw [HE.out, HO.out]; exact HM2.out)⟩
    case measure => simp [intOf]; omega
   ·have HO : Hid (one s t = []) := if_neg h0;have h0I : s t ≤ 0 := by omega
    clear h0
    go_upto_region 4 with fail
    go_quiet (fail)
    go_wp2
    go_roundw
    case rel => exact ⟨t + 1, by go_num, by omega, hideIt (by rw [HE.out, HO.out, List.append_nil]; exact ⟨HR.out.own, bN HR.out.bel _⟩)⟩
    case measure => simp [intOf]; omega
  ·have hltI : ¬ (t : Int) < 4 := by omega
   obtain rfl : t = 4 := by omega
   go_wp2;go_ret
   exact ⟨_, rfl, HR.out⟩
theorem cell_of_block {w w' : World} {b : Nat} (h : w'.heap[b]? = w.heap[b]?) (i : Nat) : w'.cell? ⟨b, i, none⟩ = w.cell? ⟨b, i, none⟩ := by
 simp [World.cell?, h]
theorem Out1.set {w wr : World} {p : Nat} (h : Out (fun k => k = p) w wr) (j : Nat) (v : Value) : Out (fun k => k = p) w (wr.setCell ⟨p, j, none⟩ v) := h.trans (Out.ofSet (F := fun k => k = p) wr ⟨p, j, none⟩ v rfl) (fun _ _ e => e)
set_option maxHeartbeats 4000000 in
set_option maxRecDepth 100000 in
theorem add_is (p : Nat) (s : Nat → Int) (g : Value) (l : List AmtV) (w : World) (hp : w.heap[p]? = some (.cells (shA s) 108 (0, 0))) (h : AGot w g l) (hl : amtsB l (-1) = true) (hs : ∀ k, k < 4 → 0 ≤ s k ∧ s k ≤ 9200000000000000000) (hd : 0 < l.length → ∀ b off n c, g = .slice (some ⟨b, off, none⟩) n c → b ≠ p) : Calls Tryz.prog 56 #[.pointer (some ⟨p, 0, none⟩), g] w fun e w' => e = .returned (.tuple #[]) ∧ w'.heap[p]? = some (.cells (shA (fun k => s k + balL l k)) 108 (0, 0)) ∧ Out (fun k => k = p) w w' := by
 have HP := hideIt hp;have hpl := (Array.getElem?_eq_some_iff.1 hp).1;obtain ⟨a, c, rfl, h8, hr⟩ := h.open;have HH := hideIt hr;have HL := hideIt hl;have HS := hideIt hs;have HD := hideIt hd;clear hp hr h hl hs hd
 go_enter Tryz.func56, Tryz.ntmps56
 go_wp2
 go_loopw [8] (fun v wr => ∃ (t : Nat), v = .int .i64 t ∧ t ≤ l.length ∧ Hid (wr.heap[p]? = some (.cells (shA (fun k => s k + sumL (l.take t) k)) 108 (0, 0)) ∧ Out (fun k => k = p) w wr)) (fun v _ => l.length - (intOf v).toNat)
 case atStart => exact ⟨0, rfl, Nat.zero_le _, hideIt ⟨by simpa [sumL] using HP.out, Out.refl _ _⟩⟩
 case round =>
  obtain ⟨t, rfl, ht, HR⟩ := hrel
  by_cases hlt : t < l.length
  ·have hltI : (t : Int) < (l.length : Int) := by omega
   have ht0 : (0 : Int) ≤ (t : Int) := by omega
   obtain ⟨b, off, rfl, hbl, q0, q1⟩ := HH.out t hlt;have hbp := HD.out (by omega) b off _ _ rfl;have c0 : wr.cell? ⟨b, off + t * 2, none⟩ = some (.int .i64 (l[t]).k) := by
    rw [← q0];exact cell_of_block (HR.out.2.block b hbl hbp) _
   have c1 : wr.cell? ⟨b, off + t * 2 + 1, none⟩ = some (.int .i64 (l[t]).n) := by
    rw [← q1];exact cell_of_block (HR.out.2.block b hbl hbp) _
   have hm := amts_mem l _ HL.out l[t] (List.getElem_mem hlt);have HST := hideIt (fun a => sumL_take l t a hlt);have hT := fun a => take_in l _ a t HL.out
   clear q0 q1;generalize l[t] = en at *;obtain ⟨ek, ex⟩ := en;simp only at c0 c1 hm HST;obtain ⟨kk, rfl⟩ : ∃ kk : Nat, ek = kk := Int.eq_ofNat_of_zero_le hm.2.1.1;have hk4 : kk < 4 := by omega
   have hk4I : (kk : Int) < 4 := by omega
   have hk0 : (0 : Int) ≤ (kk : Int) := by omega
   obtain ⟨A, hA⟩ : ∃ A, A = s kk + sumL (l.take t) kk := ⟨_, rfl⟩;have hAr : 0 ≤ A ∧ A ≤ 9209007199254740992 := by
    have := HS.out kk hk4;have := hT kk;omega
   obtain ⟨A1, A2⟩ := hAr;obtain ⟨E1, E2⟩ := hm.2.2;have hsz := HR.out.2.size;have hpr : p < wr.heap.size := by omega
   have hpc : wr.cell? ⟨p, kk, none⟩ = some (.int .i64 A) := by
    rw [hA];exact sh_cell HR.out.1 kk hk4
   have hpf : wr.frozen? ⟨p, kk, none⟩ = false := free_at HR.out.1 kk;have HA := hideIt hA;have HN : Hid ((((wr.setCell ⟨p, kk, none⟩ (.int .i64 (A + ex))).alloc (.cells #[.int .i64 (kk : Int), .int .i64 ex] 53)).drew).heap[p]? = some (.cells (shA (fun k => s k + sumL (l.take (t + 1)) k)) 108 (0, 0)) ∧ Out (fun k => k = p) w (((wr.setCell ⟨p, kk, none⟩ (.int .i64 (A + ex))).alloc (.cells #[.int .i64 (kk : Int), .int .i64 ex] 53)).drew)) := by
    refine ⟨?_, (Out1.set HR.out.2 kk _).trans (Out.ofAlloc (F := fun k => k = p) _ _) (fun _ _ e => e) |>.trans (Out.ofDrew (F := fun k => k = p) _) (fun _ _ e => e)⟩
    show (((wr.setCell ⟨p, kk, none⟩ (.int .i64 (A + ex))).alloc (.cells #[.int .i64 (kk : Int), .int .i64 ex] 53))).heap[p]? = _
    rw [heap_alloc_old _ _ (by simpa using hpr), sh_set HR.out.1 kk hk4];have e : upS (fun k => s k + sumL (l.take t) k) kk (A + ex) = fun k : Nat => s k + sumL (l.take (t + 1)) k := by
     funext k
     rw [HST.out k, upS]
     by_cases c : k = kk
     ·subst c;rw [if_pos rfl, if_pos rfl, hA];omega
     ·rw [if_neg c, if_neg (by omega), Int.add_zero]
    rw [e]
   clear hm hT hA
   go_upto_region 3 with fail
   go_region
   clear hpc hpf c0 c1;go_wp2
   go_roundw
   case rel => exact ⟨t + 1, by go_num, by omega, HN⟩
   case measure => simp [intOf]; omega
  ·have hltI : ¬ (t : Int) < (l.length : Int) := by omega
   go_wp2
   go_end0
   refine ⟨rfl, ?_, HR.out.2⟩;rw [HR.out.1, List.take_of_length_le (by omega)];have e : (fun k : Nat => s k + sumL l k) = fun k : Nat => s k + balL l k := by
    funext k
    rw [sum_bal l _ _ HL.out]
   rw [e]
end Go.Proofs.YtiinigifjdpicaaGreatDoor.Lg
namespace Go.Proofs.YtiinigifjdpicaaGreatDoor.Lg
open Go.RowKit
theorem AGot.apart {w : World} {g : Value} {l : List AmtV} {p : Nat} (h : AGot w g l) (hp : w.heap.size ≤ p) : 0 < l.length → ∀ b off n c, g = .slice (some ⟨b, off, none⟩) n c → b ≠ p := by
 intro hl b off n c e;obtain ⟨_, a', c', rfl, _, hr⟩ := h;obtain ⟨b', off', rfl, hlt, _⟩ := hr hl;simp only [Value.slice.injEq, Option.some.injEq, Addr.mk.injEq] at e;omega
theorem wrap_ok {x : Int} (h : -9223372036854775808 ≤ x) (k : x ≤ 9223372036854775807) : IntKind.i64.wrap x = x := by
 rw [IntKind.wrap_i64];omega
structure Duo (w : World) (A : AccV) (g : Value) (wx : World) : Prop where
 box : wx.heap[w.heap.size]? = some (.cells (accA A g) 44 (0, 0))
 res : wx.heap[w.heap.size + 1]? = some (.cells #[.slice none 0 0, .int .i64 0] 44 (0, 0))
 bel : Below w.heap.size w wx
theorem Duo.first (w : World) (A : AccV) (g : Value) : Duo w A g ((w.alloc (.cells (accA A g) 44)).alloc (.cells #[.slice none 0 0, .int .i64 0] 44)) := by
 have ht := two_heap w (.cells (accA A g) 44) (.cells #[.slice none 0 0, .int .i64 0] 44)
 exact ⟨ht.1, ht.2.1, below2 w _ _⟩
theorem Duo.size {w wx : World} {A : AccV} {g : Value} (h : Duo w A g wx) : w.heap.size + 2 ≤ wx.heap.size := (Array.getElem?_eq_some_iff.1 h.res).1
theorem Duo.keep {w wx wy : World} {A : AccV} {g : Value} (h : Duo w A g wx) (hb : Below wx.heap.size wx wy) : Duo w A g wy := by
 have := h.size
 exact ⟨(hb.block _ (by omega)).trans h.box, (hb.block _ (by omega)).trans h.res, below_via h.bel hb⟩
theorem Duo.out {w wx wy : World} {A : AccV} {g : Value} {F : Nat → Prop} (h : Duo w A g wx) (ho : Out F wx wy) (hF : ∀ k, F k → w.heap.size + 2 ≤ k) : Duo w A g wy := by
 have := h.size
 exact ⟨(ho.block _ (by omega) (fun e => by have := hF _ e; omega)).trans h.box, (ho.block _ (by omega) (fun e => by have := hF _ e; omega)).trans h.res, below_out h.bel ho (fun k e => by have := hF k e; omega)⟩
theorem Duo.drew {w wx : World} {A : AccV} {g : Value} (h : Duo w A g wx) : Duo w A g wx.drew := ⟨h.box, h.res, h.bel.drew⟩
theorem Duo.cells {w wx : World} {A : AccV} {g : Value} (h : Duo w A g wx) : wx.cell? ⟨w.heap.size, 0, none⟩ = some g ∧ wx.cell? ⟨w.heap.size, 1, none⟩ = some (.int .i64 A.ct) :=
 ⟨by rw [cell_at h.box]; rfl, by rw [cell_at h.box]; rfl⟩
theorem Duo.zero {w wx : World} {A : AccV} {g : Value} (h : Duo w A g wx) : wx.cell? ⟨w.heap.size + 1, 0, none⟩ = some (.slice none 0 0) ∧ wx.cell? ⟨w.heap.size + 1, 1, none⟩ = some (.int .i64 0) ∧ ∀ j, wx.frozen? ⟨w.heap.size + 1, j, none⟩ = false :=
 ⟨by rw [cell_at h.res]; rfl, by rw [cell_at h.res]; rfl, fun j => free_at h.res j⟩
theorem Duo.put {w wx : World} {A : AccV} {g : Value} (h : Duo w A g wx) (v0 v1 : Value) : Hid (((wx.setCell ⟨w.heap.size + 1, 0, none⟩ v0).setCell ⟨w.heap.size + 1, 1, none⟩ v1).heap[w.heap.size + 1]? = some (.cells #[v0, v1] 44 (0, 0)) ∧ Below w.heap.size w ((wx.setCell ⟨w.heap.size + 1, 0, none⟩ v0).setCell ⟨w.heap.size + 1, 1, none⟩ v1)) :=
 fin2 v0 v1 h.res (by omega) h.bel
set_option maxHeartbeats 4000000 in
set_option maxRecDepth 100000 in
theorem refused_is (A : AccV) (g : Value) (a n : Int) (w : World) (h : AGot w g A.l) : Calls Tryz.prog 106 #[accV A g, .int .i64 a, .int .i64 n] w fun e w' => e = .returned (.int .i64 (refI A a n)) ∧ Below w.heap.size w w' := by
 have HB := hideIt (below1 w (.cells (accA A g) 44));have H1 := hideIt (check_is A g _ (h.keep HB.out));have N1 := hideIt (fun W => isAsset_is a W);have N2 := hideIt (fun W => isBalance_is n W);obtain ⟨ga, gc, rfl⟩ := h.slice;unfold refI;unfold chkI at H1;cases h1 : accB A
 ·rw [h1] at H1;obtain ⟨l, ct⟩ := A;unfold accV accA at *;simp only [Bool.false_eq_true, if_false] at H1 HB ⊢;clear h
  go_enter Tryz.func106, Tryz.ntmps106
  go_wp2_with fail
  refine H1.out.mono ?_;rintro e w1 ⟨rfl, hbl⟩;dsimp only;have HB2 := hideIt (below_via HB.out hbl);clear hbl;go_wp2;go_ret
  exact ⟨rfl, HB2.out⟩
 ·rw [h1] at H1;obtain ⟨l, ct⟩ := A;unfold accV accA at *;simp only [if_true] at H1 HB ⊢;clear h;cases h2 : wiB a 0 3
  ·rw [h2] at N1
   go_enter Tryz.func106, Tryz.ntmps106
   go_wp2_with fail
   refine H1.out.mono ?_;rintro e w1 ⟨rfl, hbl⟩;dsimp only;have HB2 := hideIt (below_via HB.out hbl);clear hbl
   go_wp2_with fail
   refine (N1.out _).mono ?_;rintro e w1 ⟨rfl, rfl⟩;dsimp only;go_wp2;go_ret
   exact ⟨rfl, HB2.out⟩
  ·rw [h2] at N1;cases h3 : wiB n 1 9007199254740992
   ·rw [h3] at N2
    go_enter Tryz.func106, Tryz.ntmps106
    go_wp2_with fail
    refine H1.out.mono ?_;rintro e w1 ⟨rfl, hbl⟩;dsimp only;have HB2 := hideIt (below_via HB.out hbl);clear hbl
    go_wp2_with fail
    refine (N1.out _).mono ?_;rintro e w1 ⟨rfl, rfl⟩;dsimp only
    go_wp2_with fail
    refine (N2.out _).mono ?_;rintro e w1 ⟨rfl, rfl⟩;dsimp only;go_wp2;go_ret
    exact ⟨rfl, HB2.out⟩
   ·rw [h3] at N2
    go_enter Tryz.func106, Tryz.ntmps106
    go_wp2_with fail
    refine H1.out.mono ?_;rintro e w1 ⟨rfl, hbl⟩;dsimp only;have HB2 := hideIt (below_via HB.out hbl);clear hbl
    go_wp2_with fail
    refine (N1.out _).mono ?_;rintro e w1 ⟨rfl, rfl⟩;dsimp only
    go_wp2_with fail
    refine (N2.out _).mono ?_;rintro e w1 ⟨rfl, rfl⟩;dsimp only;go_wp2;go_ret
    exact ⟨rfl, HB2.out⟩
set_option maxHeartbeats 8000000 in
set_option maxRecDepth 100000 in
theorem entered_is (A : AccV) (g : Value) (a n : Int) (w : World) (h : AGot w g A.l) (hA : accB A = true) (ha : 0 ≤ a ∧ a ≤ 3) (hn : -9007199254740992 ≤ n ∧ n ≤ 9007199254740992) : Calls Tryz.prog 108 #[accV A g, .int .i64 a, .int .i64 n] w (AccBack ⟨pre (moreS A.l a n) 4, A.ct + 1⟩ w) := by
 obtain ⟨hA1, hA2, hA3⟩ := accB_in hA;have T0 := Duo.first w A g;have T1 := hideIt (T0.keep (below1 _ (.cells #[.int .i64 0, .int .i64 0, .int .i64 0, .int .i64 0] 108)));have hs2 : ((w.alloc (.cells (accA A g) 44)).alloc (.cells #[.slice none 0 0, .int .i64 0] 44)).heap.size = w.heap.size + 2 := by simp
 have P1 := hideIt (heap_alloc_new ((w.alloc (.cells (accA A g) 44)).alloc (.cells #[.slice none 0 0, .int .i64 0] 44)) (.cells #[.int .i64 0, .int .i64 0, .int .i64 0, .int .i64 0] 108));rw [hs2] at P1;have HADD := hideIt (add_is (w.heap.size + 2) (fun _ => 0) g A.l _ P1.out (h.keep T1.out.bel) hA1 (fun k _ => ⟨Int.le_refl _, by decide⟩) (h.apart (by omega)));obtain ⟨kk, rfl⟩ : ∃ kk : Nat, a = kk := Int.eq_ofNat_of_zero_le ha.1;have hk4 : kk < 4 := by omega
 have hbi := bal_in A.l _ (kk : Int) hA1;have hUP : Hid (upS (fun k => 0 + balL A.l k) kk (balL A.l kk + n) = moreS A.l kk n) := by
  show _ = _
  funext k
  rw [upS, moreS]
  by_cases c : k = kk
  ·subst c;rw [if_pos rfl, if_pos rfl]
  ·rw [if_neg c, if_neg (by omega)];omega
 have hk4I : (kk : Int) < 4 := by omega
 have hk0 : (0 : Int) ≤ (kk : Int) := by omega
 obtain ⟨n1, n2⟩ := hn;obtain ⟨b1, b2⟩ := hbi;obtain ⟨ga, gc, rfl⟩ := h.slice;obtain ⟨l, ct⟩ := A;unfold AccBack;unfold accV accA at *;simp only at HADD T1 P1 hUP hA2 hA3 b1 b2 ⊢;have hwr : IntKind.i64.wrap (ct + 1) = ct + 1 := wrap_ok (by omega) (by omega);obtain ⟨D, hD⟩ : ∃ D, D = pre (moreS l kk n) 4 := ⟨_, rfl⟩;have HD := hideIt hD;rw [← hD];clear h hA T0 hs2 hD
 go_enter Tryz.func108, Tryz.ntmps108
 go_upto_region 2 with fail
 generalize ((w.alloc (.cells #[.slice ga l.length gc, .int .i64 ct] 44)).alloc (.cells #[.slice none 0 0, .int .i64 0] 44)).alloc (.cells #[.int .i64 0, .int .i64 0, .int .i64 0, .int .i64 0] 108) = X at *;obtain ⟨c0, c1⟩ := T1.out.cells;simp only at c0 c1;have hpe : w.heap.size + 1 + 1 = w.heap.size + 2 := rfl;rw [hpe]
 go_wp2_with fail
 refine HADD.out.mono ?_;rintro e w1 ⟨rfl, hsh, ho⟩;dsimp only;have T2 := hideIt (T1.out.out ho (fun k e => by omega));have P2 := hideIt hsh;clear hsh ho T1 P1 HADD c0 c1;obtain ⟨B, hB⟩ : ∃ B, B = balL l kk := ⟨_, rfl⟩;rw [← hB] at b1 b2 hUP;have hpc : w1.cell? ⟨w.heap.size + 2, kk, none⟩ = some (.int .i64 B) := by
  rw [sh_cell P2.out kk hk4, hB, Int.zero_add]
 have hpf : w1.frozen? ⟨w.heap.size + 2, kk, none⟩ = false := free_at P2.out kk;have T3 := hideIt (T2.out.out (Out.ofSet (F := fun k => k = w.heap.size + 2) w1 ⟨w.heap.size + 2, kk, none⟩ (.int .i64 (B + n)) rfl) (fun k e => by omega));have P3 := hideIt (sh_set P2.out kk hk4 (B + n));rw [hUP.out] at P3;clear hB T2 P2 hUP
 go_upto_region 4 with fail
 generalize w1.setCell ⟨w.heap.size + 2, kk, none⟩ (.int .i64 (B + n)) = w2 at *;clear hpc hpf;have T4 := hideIt T3.out.drew;have HAM := hideIt (amounts_is (w.heap.size + 2) (moreS l kk n) w2.drew P3.out);rw [← HD.out] at HAM;clear HD;refine wp_region_held_drew (S := fun w' => w'.cell? ⟨w.heap.size, 1, none⟩ = some (.int .i64 ct)) (by kernel_rfl) T4.out.cells.2 (fun hHeld => ?_);refine wpAnyH_take (i := 1) (oi := ⟨some 18, _, _, _, _, _⟩) (v := ?_) rfl (by kernel_rfl) (by kernel_rfl) (by kernel_rfl) (fun _ _ _ h => h) (Or.inl ⟨by rfl, ?_⟩) (by assumption) ?_
 rotate_left
 ·intro w5 hSw
  (try dsimp only at hSw)
  go_simp
  (try with_reducible rfl)
 try simp only [Act.put, List.setIfInBounds_toArray, List.set_cons_zero, List.set_cons_succ]
 refine wpAnyH_take (i := 2) (oi := ⟨some 19, _, _, _, _, _⟩) (v := ?_) rfl (by kernel_rfl) (by kernel_rfl) (by kernel_rfl) (fun _ _ _ h => h) (Or.inl ⟨by rfl, ?_⟩) (by assumption) ?_
 rotate_left
 ·intro w5 hSw
  (try dsimp only at hSw)
  go_simp
  (try with_reducible rfl)
 try simp only [Act.put, List.setIfInBounds_toArray, List.set_cons_zero, List.set_cons_succ]
 refine wpAnyH_take (i := 3) (oi := ⟨some 20, _, _, _, _, _⟩) (v := ?_) rfl (by kernel_rfl) (by kernel_rfl) (by kernel_rfl) (fun _ _ _ h => h) (Or.inl ⟨by rfl, ?_⟩) (by assumption) ?_
 rotate_left
 ·intro w5 hSw
  (try dsimp only at hSw)
  go_simp
  (try with_reducible rfl)
 try simp only [Act.put, List.setIfInBounds_toArray, List.set_cons_zero, List.set_cons_succ]
 refine wpAnyH_ready (rs := [0]) (by kernel_rfl) (by simp) ?_;refine AllReadyH.cons (o := ⟨some 17, _, _, _, _, _⟩) rfl (fun K hK => ?_) AllReadyH.nil;go_simp
 go_at_call 57
 refine HAM.out.mono ?_;rintro e w4 ⟨r, rfl, hm⟩;have T5 := hideIt (T4.out.keep hm.bel);refine hK.out _ _ T5.out.cells.2 (fun hHeld => ?_);obtain ⟨ra, rc, rfl⟩ := own_len hm.own;have HO := hideIt (own2 (R := w.heap.size + 1) (.slice ra D.length rc) (.int .i64 (ct + 1)) hm.own (by have := T4.out.size; omega) w.heap.size (by have := T4.out.size; omega)).out
 have HP := T5.out.put (.slice ra D.length rc) (.int .i64 (ct + 1));have HS : Hid (((w4.setCell ⟨w.heap.size + 1, 0, none⟩ (.slice ra D.length rc)).setCell ⟨w.heap.size + 1, 1, none⟩ (.int .i64 (ct + 1))).cell? ⟨w.heap.size, 1, none⟩ = some (.int .i64 ct)) := by
  show _ = _
  rw [cell_at (setOther _ (setOther _ T5.out.box (by omega)) (by omega))]
  rfl
 obtain ⟨z0, z1, zf⟩ := T5.out.zero;clear hK K hm HAM T3 P3 T4 T5
 try simp only [Act.put, List.setIfInBounds_toArray, List.set_cons_zero, List.set_cons_succ]
 refine wpAnyH_take (i := 4) (oi := ⟨some 21, _, _, _, _, _⟩) (v := ?_) rfl (by kernel_rfl) (by kernel_rfl) (by kernel_rfl) (fun _ _ _ h => h) (Or.inl ⟨by rfl, ?_⟩) (by assumption) ?_
 rotate_left
 ·intro w5 hSw
  (try dsimp only at hSw)
  go_simp
  (try with_reducible rfl)
 try simp only [Act.put, List.setIfInBounds_toArray, List.set_cons_zero, List.set_cons_succ]
 refine wpAnyH_ready (rs := [5]) (by kernel_rfl) (by simp) ?_;refine AllReadyH.cons (o := ⟨none, _, _, _, _, _⟩) rfl (fun K hK => ?_) AllReadyH.nil;go_simp;refine hK.out _ _ HS.out (fun hHeld => ?_);clear hK K;obtain ⟨e1, e2⟩ := HP.out;have e3 := HO.out;clear HP HO HS;generalize ((w4.setCell ⟨w.heap.size + 1, 0, none⟩ (.slice ra D.length rc)).setCell ⟨w.heap.size + 1, 1, none⟩ (.int .i64 (ct + 1))) = W at *
 try simp only [Act.put, List.setIfInBounds_toArray, List.set_cons_zero, List.set_cons_succ]
 refine wpAnyH_done (by kernel_rfl) ?_ _;go_wp2;exact bodyPost_ret (v := accV ⟨D, ct + 1⟩ (.slice ra D.length rc)) (by simp [results, Tryz.results108, go_sem, cell_at e1, accV, accA]) rfl ⟨_, rfl, e3, e2⟩
def AccErr (X : AccV × Int) (w : World) (e : Ending) (w' : World) : Prop := ∃ g, e = .returned (.tuple #[accV X.1 g, .int .i64 X.2]) ∧ w'.ownsRow w.heap.size 53 2 g X.1.l.length (amC X.1.l) ∧ Below w.heap.size w w'
set_option maxHeartbeats 8000000 in
set_option maxRecDepth 100000 in
theorem credit_is (A : AccV) (g : Value) (a n : Int) (w : World) (h : AGot w g A.l) : Calls Tryz.prog 75 #[accV A g, .int .i64 a, .int .i64 n] w (AccErr (credL A a n) w) := by
 have T0 := hideIt (Duo.first w A g);have H1 := hideIt (refused_is A g a n _ (h.keep T0.out.bel));unfold AccErr credL
 by_cases hr : refI A a n = 0
 ·rw [if_pos hr];rw [hr] at H1;obtain ⟨hA, ha, hn⟩ := refI_in hr;have HBA := hideIt (fun wx (hx : Below w.heap.size w wx) => balance_is A g a wx (h.keep hx));have HEN := hideIt (fun wx (hx : Below w.heap.size w wx) => entered_is A g a n wx (h.keep hx) hA ha ⟨by omega, hn.2⟩);unfold AccBack at HEN;have hb := bal_in A.l _ a (accB_in hA).1;obtain ⟨ga, gc, rfl⟩ := h.slice;obtain ⟨l, ct⟩ := A;unfold accV accA at *;simp only at H1 HBA HEN hb T0 ⊢;generalize pre (moreS l a n) 4 = D at *;generalize balL l a = B at *;obtain ⟨b1, b2⟩ := hb;obtain ⟨n1, n2⟩ := hn;clear h hA hr ha
  by_cases hov : 9007199254740992 < B + n
  ·rw [if_pos (.inl hov)];clear HEN
   go_enter Tryz.func75, Tryz.ntmps75
   go_wp2_with fail
   refine H1.out.mono ?_;rintro e w1 ⟨rfl, hbl⟩;dsimp only;have T1 := hideIt (T0.out.keep hbl);obtain ⟨c0, c1⟩ := T1.out.cells;simp only at c0 c1;clear T0 H1 hbl
   go_wp2_with fail
   refine (HBA.out _ T1.out.bel).mono ?_;rintro e w2 ⟨rfl, hbl⟩;dsimp only;have T2 := hideIt (T1.out.keep hbl);obtain ⟨z0, z1, zf⟩ := T2.out.zero;have HP := T2.out.put (.slice none 0 0) (.int .i64 0);clear T1 T2 hbl HBA c0 c1;obtain ⟨e1, e2⟩ := HP.out;clear HP;go_wp2
   revert e1 e2
   generalize (World.setCell _ ⟨w.heap.size + 1, 1, none⟩ _) = W;intro e1 e2;exact bodyPost_ret (v := .tuple #[accV zA (.slice none 0 0), .int .i64 122]) (by simp [results, Tryz.results75, go_sem, cell_at e1, accV, accA, zA]) rfl ⟨_, rfl, own_nil _ _, e2⟩
  ·have hovI : B + n ≤ 9007199254740992 := by omega
   by_cases hct : ct = 1000000000
   ·rw [if_pos (.inr hct)];subst hct;clear HEN
    go_enter Tryz.func75, Tryz.ntmps75
    go_wp2_with fail
    refine H1.out.mono ?_;rintro e w1 ⟨rfl, hbl⟩;dsimp only;have T1 := hideIt (T0.out.keep hbl);obtain ⟨c0, c1⟩ := T1.out.cells;simp only at c0 c1;clear T0 H1 hbl
    go_wp2_with fail
    refine (HBA.out _ T1.out.bel).mono ?_;rintro e w2 ⟨rfl, hbl⟩;dsimp only;have T2 := hideIt (T1.out.keep hbl);clear c0 c1;obtain ⟨c0, c1⟩ := T2.out.cells;simp only at c0 c1;obtain ⟨z0, z1, zf⟩ := T2.out.zero;have HP := T2.out.put (.slice none 0 0) (.int .i64 0);clear T1 T2 hbl HBA;obtain ⟨e1, e2⟩ := HP.out;clear HP;go_wp2
    revert e1 e2
    generalize (World.setCell _ ⟨w.heap.size + 1, 1, none⟩ _) = W;intro e1 e2;exact bodyPost_ret (v := .tuple #[accV zA (.slice none 0 0), .int .i64 122]) (by simp [results, Tryz.results75, go_sem, cell_at e1, accV, accA, zA]) rfl ⟨_, rfl, own_nil _ _, e2⟩
   ·have hctb : (ct == 1000000000) = false := beq_eq_false_iff_ne.2 hct;rw [if_neg (by omega)];clear hct
    go_enter Tryz.func75, Tryz.ntmps75
    go_wp2_with fail
    refine H1.out.mono ?_;rintro e w1 ⟨rfl, hbl⟩;dsimp only;have T1 := hideIt (T0.out.keep hbl);obtain ⟨c0, c1⟩ := T1.out.cells;simp only at c0 c1;clear T0 H1 hbl
    go_wp2_with fail
    refine (HBA.out _ T1.out.bel).mono ?_;rintro e w2 ⟨rfl, hbl⟩;dsimp only;have T2 := hideIt (T1.out.keep hbl);clear c0 c1;obtain ⟨c0, c1⟩ := T2.out.cells;simp only at c0 c1;clear T1 hbl HBA
    go_wp2_with fail
    refine (HEN.out _ T2.out.bel).mono ?_;rintro e w3 ⟨gx, rfl, ho, hbl⟩;dsimp only;have T3 := hideIt (T2.out.keep hbl);obtain ⟨xa, xc, rfl⟩ := own_len ho;have HO := hideIt (own2 (R := w.heap.size + 1) (.slice xa D.length xc) (.int .i64 (ct + 1)) ho (by have := T2.out.size; omega) w.heap.size (by have := T2.out.size; omega)).out
    have HP := T3.out.put (.slice xa D.length xc) (.int .i64 (ct + 1));obtain ⟨z0, z1, zf⟩ := T3.out.zero;clear ho hbl T3 T2 c0 c1 HEN;obtain ⟨e1, e2⟩ := HP.out;have e3 := HO.out;clear HP HO;go_wp2
    revert e1 e2 e3
    generalize (World.setCell _ ⟨w.heap.size + 1, 1, none⟩ _) = W;intro e1 e2 e3;exact bodyPost_ret (v := .tuple #[accV ⟨D, ct + 1⟩ (.slice xa D.length xc), .int .i64 0]) (by simp [results, Tryz.results75, go_sem, cell_at e1, accV, accA]) rfl ⟨_, rfl, e3, e2⟩
 ·rw [if_neg hr];generalize refI A a n = R at *;have hrb : (R != 0) = true := by simp [hr]
  obtain ⟨ga, gc, rfl⟩ := h.slice;obtain ⟨l, ct⟩ := A;unfold accV accA at *;simp only at H1 T0 ⊢;clear h hr
  go_enter Tryz.func75, Tryz.ntmps75
  go_wp2_with fail
  refine H1.out.mono ?_;rintro e w1 ⟨rfl, hbl⟩;dsimp only;have T1 := hideIt (T0.out.keep hbl);obtain ⟨z0, z1, zf⟩ := T1.out.zero;have HP := T1.out.put (.slice none 0 0) (.int .i64 0);clear T0 T1 H1 hbl;obtain ⟨e1, e2⟩ := HP.out;clear HP;go_wp2
  revert e1 e2
  generalize (World.setCell _ ⟨w.heap.size + 1, 1, none⟩ _) = W;intro e1 e2;exact bodyPost_ret (v := .tuple #[accV zA (.slice none 0 0), .int .i64 R]) (by simp [results, Tryz.results75, go_sem, cell_at e1, accV, accA, zA]) rfl ⟨_, rfl, own_nil _ _, e2⟩
set_option maxHeartbeats 8000000 in
set_option maxRecDepth 100000 in
theorem debit_is (A : AccV) (g : Value) (a n : Int) (w : World) (h : AGot w g A.l) : Calls Tryz.prog 77 #[accV A g, .int .i64 a, .int .i64 n] w (AccErr (debL A a n) w) := by
 have T0 := hideIt (Duo.first w A g);have H1 := hideIt (refused_is A g a n _ (h.keep T0.out.bel));unfold AccErr debL
 by_cases hr : refI A a n = 0
 ·rw [if_pos hr];rw [hr] at H1;obtain ⟨hA, ha, hn⟩ := refI_in hr;have HBA := hideIt (fun wx (hx : Below w.heap.size w wx) => balance_is A g a wx (h.keep hx));have HEN := hideIt (fun wx (hx : Below w.heap.size w wx) => entered_is A g a (-n) wx (h.keep hx) hA ha ⟨by omega, by omega⟩);unfold AccBack at HEN;have hb := bal_in A.l _ a (accB_in hA).1;obtain ⟨ga, gc, rfl⟩ := h.slice;obtain ⟨l, ct⟩ := A;unfold accV accA at *;simp only at H1 HBA HEN hb T0 ⊢;generalize pre (moreS l a (-n)) 4 = D at *;generalize balL l a = B at *;obtain ⟨b1, b2⟩ := hb;obtain ⟨n1, n2⟩ := hn;clear h hA hr ha
  by_cases hov : B < n
  ·rw [if_pos hov];clear HEN
   go_enter Tryz.func77, Tryz.ntmps77
   go_wp2_with fail
   refine H1.out.mono ?_;rintro e w1 ⟨rfl, hbl⟩;dsimp only;have T1 := hideIt (T0.out.keep hbl);obtain ⟨c0, c1⟩ := T1.out.cells;simp only at c0 c1;clear T0 H1 hbl
   go_wp2_with fail
   refine (HBA.out _ T1.out.bel).mono ?_;rintro e w2 ⟨rfl, hbl⟩;dsimp only;have T2 := hideIt (T1.out.keep hbl);obtain ⟨z0, z1, zf⟩ := T2.out.zero;have HP := T2.out.put (.slice none 0 0) (.int .i64 0);clear T1 T2 hbl HBA c0 c1;obtain ⟨e1, e2⟩ := HP.out;clear HP;go_wp2
   revert e1 e2
   generalize (World.setCell _ ⟨w.heap.size + 1, 1, none⟩ _) = W;intro e1 e2;exact bodyPost_ret (v := .tuple #[accV zA (.slice none 0 0), .int .i64 121]) (by simp [results, Tryz.results77, go_sem, cell_at e1, accV, accA, zA]) rfl ⟨_, rfl, own_nil _ _, e2⟩
  ·have hovI : n ≤ B := by omega
   rw [if_neg hov]
   by_cases hct : ct = 1000000000
   ·rw [if_pos hct];subst hct;clear HEN
    go_enter Tryz.func77, Tryz.ntmps77
    go_wp2_with fail
    refine H1.out.mono ?_;rintro e w1 ⟨rfl, hbl⟩;dsimp only;have T1 := hideIt (T0.out.keep hbl);obtain ⟨c0, c1⟩ := T1.out.cells;simp only at c0 c1;clear T0 H1 hbl
    go_wp2_with fail
    refine (HBA.out _ T1.out.bel).mono ?_;rintro e w2 ⟨rfl, hbl⟩;dsimp only;have T2 := hideIt (T1.out.keep hbl);clear c0 c1;obtain ⟨c0, c1⟩ := T2.out.cells;simp only at c0 c1;obtain ⟨z0, z1, zf⟩ := T2.out.zero;have HP := T2.out.put (.slice none 0 0) (.int .i64 0);clear T1 T2 hbl HBA;obtain ⟨e1, e2⟩ := HP.out;clear HP;go_wp2
    revert e1 e2
    generalize (World.setCell _ ⟨w.heap.size + 1, 1, none⟩ _) = W;intro e1 e2;exact bodyPost_ret (v := .tuple #[accV zA (.slice none 0 0), .int .i64 122]) (by simp [results, Tryz.results77, go_sem, cell_at e1, accV, accA, zA]) rfl ⟨_, rfl, own_nil _ _, e2⟩
   ·have hctb : (ct == 1000000000) = false := beq_eq_false_iff_ne.2 hct;rw [if_neg hct];have hng : IntKind.i64.wrap (-n) = -n := wrap_ok (by omega) (by omega);clear hct
    go_enter Tryz.func77, Tryz.ntmps77
    go_wp2_with fail
    refine H1.out.mono ?_;rintro e w1 ⟨rfl, hbl⟩;dsimp only;have T1 := hideIt (T0.out.keep hbl);obtain ⟨c0, c1⟩ := T1.out.cells;simp only at c0 c1;clear T0 H1 hbl
    go_wp2_with fail
    refine (HBA.out _ T1.out.bel).mono ?_;rintro e w2 ⟨rfl, hbl⟩;dsimp only;have T2 := hideIt (T1.out.keep hbl);clear c0 c1;obtain ⟨c0, c1⟩ := T2.out.cells;simp only at c0 c1;clear T1 hbl HBA
    go_wp2_with fail
    refine (HEN.out _ T2.out.bel).mono ?_;rintro e w3 ⟨gx, rfl, ho, hbl⟩;dsimp only;have T3 := hideIt (T2.out.keep hbl);obtain ⟨xa, xc, rfl⟩ := own_len ho;have HO := hideIt (own2 (R := w.heap.size + 1) (.slice xa D.length xc) (.int .i64 (ct + 1)) ho (by have := T2.out.size; omega) w.heap.size (by have := T2.out.size; omega)).out
    have HP := T3.out.put (.slice xa D.length xc) (.int .i64 (ct + 1));obtain ⟨z0, z1, zf⟩ := T3.out.zero;clear ho hbl T3 T2 c0 c1 HEN;obtain ⟨e1, e2⟩ := HP.out;have e3 := HO.out;clear HP HO;go_wp2
    revert e1 e2 e3
    generalize (World.setCell _ ⟨w.heap.size + 1, 1, none⟩ _) = W;intro e1 e2 e3;exact bodyPost_ret (v := .tuple #[accV ⟨D, ct + 1⟩ (.slice xa D.length xc), .int .i64 0]) (by simp [results, Tryz.results77, go_sem, cell_at e1, accV, accA]) rfl ⟨_, rfl, e3, e2⟩
 ·rw [if_neg hr];generalize refI A a n = R at *;have hrb : (R != 0) = true := by simp [hr]
  obtain ⟨ga, gc, rfl⟩ := h.slice;obtain ⟨l, ct⟩ := A;unfold accV accA at *;simp only at H1 T0 ⊢;clear h hr
  go_enter Tryz.func77, Tryz.ntmps77
  go_wp2_with fail
  refine H1.out.mono ?_;rintro e w1 ⟨rfl, hbl⟩;dsimp only;have T1 := hideIt (T0.out.keep hbl);obtain ⟨z0, z1, zf⟩ := T1.out.zero;have HP := T1.out.put (.slice none 0 0) (.int .i64 0);clear T0 T1 H1 hbl;obtain ⟨e1, e2⟩ := HP.out;clear HP;go_wp2
  revert e1 e2
  generalize (World.setCell _ ⟨w.heap.size + 1, 1, none⟩ _) = W;intro e1 e2;exact bodyPost_ret (v := .tuple #[accV zA (.slice none 0 0), .int .i64 R]) (by simp [results, Tryz.results77, go_sem, cell_at e1, accV, accA, zA]) rfl ⟨_, rfl, own_nil _ _, e2⟩
end Go.Proofs.YtiinigifjdpicaaGreatDoor.Lg
namespace Go.Proofs.YtiinigifjdpicaaGreatDoor.Lg
open Go.RowKit
def LGot (w : World) (v : Value) (L : List AccV) : Prop :=
 L.length * 32 ≤ 140737488355328 ∧ ∃ a c, v = .slice a L.length c ∧ ∀ i (h : i < L.length), ∃ b off g, a = some ⟨b, off, none⟩ ∧ b < w.heap.size ∧ w.cell? ⟨b, off + i * 2, none⟩ = some g ∧ w.cell? ⟨b, off + i * 2 + 1, none⟩ = some (.int .i64 (L[i]).ct) ∧ AGot w g (L[i]).l
theorem LGot.keep {w w' : World} {v : Value} {L : List AccV} (h : LGot w v L) (hb : Below w.heap.size w w') : LGot w' v L := by
 obtain ⟨h8, a, c, rfl, hr⟩ := h;refine ⟨h8, a, c, rfl, fun i hi => ?_⟩;obtain ⟨b, off, g, rfl, hlt, c0, c1, hg⟩ := hr i hi
 exact ⟨b, off, g, rfl, Nat.lt_of_lt_of_le hlt hb.size, (hb.cell hlt).trans c0, (hb.cell hlt).trans c1, hg.keep hb⟩
theorem Mine.base {w wx : World} {g : Value} {xs : List AmtV} {wy : World} (h : Mine wx g xs wy) (hb : Below w.heap.size w wx) : Mine w g xs wy := ⟨own_base h.own hb.size, below_via hb h.bel⟩
end Go.Proofs.YtiinigifjdpicaaGreatDoor.Lg
namespace Go.Proofs.YtiinigifjdpicaaGreatDoor.Se
open Go.RowKit
set_option linter.all false
theorem hideIt {p : Prop} (h : p) : Hid p := h
structure Out (F : Nat → Prop) (w w' : World) : Prop where
 os : w'.os = w.os
 tape : w'.tape = w.tape
 output : w'.output = w.output
 size : w.heap.size ≤ w'.heap.size
 block : ∀ k, k < w.heap.size → ¬ F k → w'.heap[k]? = w.heap[k]?
theorem Out.refl (F : Nat → Prop) (w : World) : Out F w w := ⟨rfl, rfl, rfl, Nat.le_refl _, fun _ _ _ => rfl⟩
theorem Out.trans {F G : Nat → Prop} {a b c : World} (h : Out F a b) (k : Out G b c) (hG : ∀ i, i < a.heap.size → G i → F i) : Out F a c :=
 ⟨k.os.trans h.os, k.tape.trans h.tape, k.output.trans h.output, Nat.le_trans h.size k.size, fun i hi hn => (k.block i (Nat.lt_of_lt_of_le hi h.size) (fun e => hn (hG i hi e))).trans (h.block i hi hn)⟩
theorem Out.mono {F G : Nat → Prop} {a b : World} (h : Out F a b) (hG : ∀ i, F i → G i) : Out G a b :=
 ⟨h.os, h.tape, h.output, h.size, fun i hi hn => h.block i hi (fun e => hn (hG i e))⟩
theorem Out.ofBelow {F : Nat → Prop} {w w' : World} (h : Below w.heap.size w w') : Out F w w' := ⟨h.os, h.tape, h.output, h.size, fun i hi _ => h.block i hi⟩
theorem Out.below {F : Nat → Prop} {w w' : World} (h : Out F w w') {B : Nat} (hB : B ≤ w.heap.size) (hF : ∀ k, F k → B ≤ k) : Below B w w' :=
 ⟨h.os, h.tape, h.output, h.size, fun i hi => h.block i (Nat.lt_of_lt_of_le hi hB) (fun e => by have := hF i e; omega)⟩
theorem Out.ofGrown {F : Nat → Prop} {w w' : World} {r : Option Nat} (h : w.grownBy w' r) (hF : ∀ k, r = some k → F k) : Out F w w' :=
 ⟨h.os, h.tape, h.output, h.size, fun i hi hn => h.block i hi (fun e => hn (hF i e.symm))⟩
theorem Out.ofSet {F : Nat → Prop} (w : World) (a : Addr) (v : Value) (hF : F a.block) : Out F w (w.setCell a v) :=
 ⟨rfl, rfl, rfl, by simp, fun i _ hn => RowKit.Below.heap_setCell _ _ _ _ (fun e => hn (e ▸ hF))⟩
theorem Out.ofAlloc {F : Nat → Prop} (w : World) (o : Obj) : Out F w (w.alloc o) := Out.ofBelow ((Below.refl _ w).alloc (Nat.le_refl _) o)
theorem Out.ofDrew {F : Nat → Prop} (w : World) : Out F w w.drew := Out.ofBelow (Below.refl _ w).drew
theorem cell_at {w : World} {p : Nat} {cs : Array Value} {t : TypeId} (h : w.heap[p]? = some (.cells cs t (0, 0))) (i : Nat) : w.cell? ⟨p, i, none⟩ = cs[i]? := by
 simp [World.cell?, h]
theorem free_at {w : World} {p : Nat} {cs : Array Value} {t : TypeId} (h : w.heap[p]? = some (.cells cs t (0, 0))) (i : Nat) : w.frozen? ⟨p, i, none⟩ = false := by
 simp [World.frozen?, h]
theorem heap_set {w : World} {p : Nat} {cs : Array Value} {t : TypeId} (h : w.heap[p]? = some (.cells cs t (0, 0))) (j : Nat) (v : Value) : (w.setCell ⟨p, j, none⟩ v).heap[p]? = some (.cells (cs.setIfInBounds j v) t (0, 0)) := by
 rw [setCell_eq_setRow _ p j cs t (0, 0) _ h];exact setRow_heap _ p cs _ t _ h
theorem heap_set_other (w : World) (p j k : Nat) (v : Value) (h : k ≠ p) : (w.setCell ⟨p, j, none⟩ v).heap[k]? = w.heap[k]? := RowKit.Below.heap_setCell _ _ _ _ (fun e => h e)
def wiB (x lo hi : Int) : Bool := decide (lo ≤ x ∧ x ≤ hi)
theorem below1 (w : World) (o : Obj) : Below w.heap.size w (w.alloc o) := (Below.refl _ w).alloc (Nat.le_refl _) o
theorem below2 (w : World) (o p : Obj) : Below w.heap.size w ((w.alloc o).alloc p) := (below1 w o).alloc (by simp) p
theorem own_len {w : World} {B : Nat} {e : TypeId} {z n : Nat} {v : Value} {xs : List Value} (h : w.ownsRow B e z v n xs) : ∃ a c, v = .slice a n c := by
 obtain ⟨_, ⟨rfl, rfl⟩ | ⟨g, cap, cur, rfl, _⟩⟩ := h
 ·exact ⟨_, _, rfl⟩
 ·exact ⟨_, _, rfl⟩
theorem own_keep {w w' : World} {B : Nat} {e : TypeId} {z n : Nat} {v : Value} {xs : List Value} (h : w.ownsRow B e z v n xs) (hb : Below w.heap.size w w') : w'.ownsRow B e z v n xs := by
 obtain ⟨h1, h2 | ⟨g, cap, cur, hv, hB, hg, r⟩⟩ := h
 ·exact ⟨h1, .inl h2⟩
 ·exact ⟨h1, .inr ⟨g, cap, cur, hv, hB, (hb.block g (Array.getElem?_eq_some_iff.1 hg).1).trans hg, r⟩⟩
theorem own_base {w : World} {B B' : Nat} {e : TypeId} {z n : Nat} {v : Value} {xs : List Value} (h : w.ownsRow B e z v n xs) (hb : B' ≤ B) : w.ownsRow B' e z v n xs := by
 obtain ⟨h1, h2 | ⟨g, cap, cur, hv, hB, r⟩⟩ := h
 ·exact ⟨h1, .inl h2⟩
 ·exact ⟨h1, .inr ⟨g, cap, cur, hv, by omega, r⟩⟩
theorem shape_at {w : World} {p : Nat} {cs : Array Value} {t : TypeId} (h : w.heap[p]? = some (.cells cs t (0, 0))) : w.shape? p = some (t, cs.size) := by
 simp [World.shape?, h]
theorem put4 (wc : World) (b : Nat) (ty : TypeId) (v0 v1 v2 v3 : Value) {z0 z1 z2 z3 : Value} (h : wc.heap[b]? = some (.cells #[z0, z1, z2, z3] ty (0, 0))) :
  ((((wc.setCell ⟨b, 0, none⟩ v0).setCell ⟨b, 1, none⟩ v1).setCell ⟨b, 2, none⟩ v2).setCell ⟨b, 3, none⟩ v3).heap[b]? = some (.cells #[v0, v1, v2, v3] ty (0, 0)) := by
 have h0 := heap_set h 0 v0;have h1 := heap_set h0 1 v1;have h2 := heap_set h1 2 v2;exact heap_set h2 3 v3
theorem setOther {w : World} {b k j : Nat} {o : Option Obj} (v : Value) (h : w.heap[k]? = o) (hk : k ≠ b) : (w.setCell ⟨b, j, none⟩ v).heap[k]? = o := (heap_set_other w b j k v hk).trans h
theorem belowSet {B b j : Nat} {w0 w : World} (v : Value) (h : Below B w0 w) (hb : B ≤ b) : Below B w0 (w.setCell ⟨b, j, none⟩ v) :=
 ⟨h.os, h.tape, h.output, by simpa using h.size, fun k hk => by rw [heap_set_other _ _ _ _ _ (by omega)]; exact h.block k hk⟩
theorem ownSet {B b j n : Nat} {e : TypeId} {z : Nat} {g : Value} {w : World} {xs : List Value} (v : Value) (h : w.ownsRow B e z g n xs) (hb : b < B) : (w.setCell ⟨b, j, none⟩ v).ownsRow B e z g n xs := by
 obtain ⟨h1, h2 | ⟨k, cap, cur, hv, hB, hg, r⟩⟩ := h
 ·exact ⟨h1, .inl h2⟩
 ·exact ⟨h1, .inr ⟨k, cap, cur, hv, hB, (heap_set_other _ _ _ _ _ (by omega)).trans hg, r⟩⟩
theorem two_heap (w : World) (o p : Obj) : ((w.alloc o).alloc p).heap[w.heap.size]? = some o ∧ ((w.alloc o).alloc p).heap[w.heap.size + 1]? = some p ∧ ((w.alloc o).alloc p).heap.size = w.heap.size + 2 := by
 refine ⟨?_, ?_, by simp⟩
 ·rw [heap_alloc_old _ _ (by simp)];exact heap_alloc_new w _
 ·have e : w.heap.size + 1 = (w.alloc o).heap.size := by simp
  rw [e];exact heap_alloc_new _ _
theorem below_out {W w w' : World} {F : Nat → Prop} (h : Below W.heap.size W w) (ho : Out F w w') (hF : ∀ k, F k → W.heap.size ≤ k) : Below W.heap.size W w' :=
 h.trans (ho.below h.size hF)
theorem own_out {F : Nat → Prop} {wa wb : World} {B : Nat} {e : TypeId} {z : Nat} {v : Value} {n : Nat} {xs : List Value} (h : wa.ownsRow B e z v n xs) (ho : Out F wa wb) (hF : ∀ k, F k → k < B) : wb.ownsRow B e z v n xs := by
 obtain ⟨h1, hn | ⟨g, cap, cur, hv, hb, hg, rest⟩⟩ := h
 ·exact ⟨h1, .inl hn⟩
 ·exact ⟨h1, .inr ⟨g, cap, cur, hv, hb, (ho.block g (Array.getElem?_eq_some_iff.1 hg).1 (fun hf => by have := hF g hf; omega)).trans hg, rest⟩⟩
theorem addN (b off j : Nat) : (⟨b, off, none⟩ : Addr).add j = ⟨b, off + j, none⟩ := by cases j <;> simp [Addr.add]
theorem grown_refl (w : World) (r : Option Nat) : w.grownBy w r := ⟨rfl, rfl, rfl, Nat.le_refl _, fun _ _ _ => rfl⟩
theorem below3 (w : World) (o p q : Obj) : Below w.heap.size w (((w.alloc o).alloc p).alloc q) := (below2 w o p).alloc (by simp; omega) q
theorem three_heap (w : World) (o p q : Obj) : (((w.alloc o).alloc p).alloc q).heap[w.heap.size]? = some o ∧ (((w.alloc o).alloc p).alloc q).heap[w.heap.size + 1]? = some p ∧ (((w.alloc o).alloc p).alloc q).heap[w.heap.size + 2]? = some q ∧ (((w.alloc o).alloc p).alloc q).heap.size = w.heap.size + 3 := by
 have ht := two_heap w o p;refine ⟨?_, ?_, ?_, by simp⟩
 ·rw [heap_alloc_old _ _ (by rw [ht.2.2]; omega)]
  exact ht.1
 ·rw [heap_alloc_old _ _ (by rw [ht.2.2]; omega)]
  exact ht.2.1
 ·have h := heap_alloc_new ((w.alloc o).alloc p) q
  rwa [ht.2.2] at h
theorem grown_none {w w' : World} (h : w.grownBy w' none) : Below w.heap.size w w' := (Out.ofGrown (F := fun _ => False) h (fun _ h => by cases h)).below (Nat.le_refl _) (fun _ h => h.elim)
theorem box_cell {w w1 : World} {cs : Array Value} {t : TypeId} (h : Below (w.alloc (.cells cs t)).heap.size (w.alloc (.cells cs t)) w1) (i : Nat) : w1.cell? ⟨w.heap.size, i, none⟩ = cs[i]? :=
 (h.cell (by simp)).trans (cell_at (heap_alloc_new w _) i)
theorem below_via {w w1 w2 : World} (h : Below w.heap.size w w1) (k : Below w1.heap.size w1 w2) : Below w.heap.size w w2 :=
 h.trans ⟨k.os, k.tape, k.output, k.size, fun i hi => k.block i (Nat.lt_of_lt_of_le hi h.size)⟩
def celC {α : Type} (enc : α → List Value) (l : List α) : List Value := (l.map enc).flatten
theorem celC_cons {α : Type} (enc : α → List Value) (x : α) (l : List α) : celC enc (x :: l) = enc x ++ celC enc l := by simp [celC]
theorem celC_app {α : Type} (enc : α → List Value) (l k : List α) : celC enc (l ++ k) = celC enc l ++ celC enc k := by simp [celC]
theorem celC_len {α : Type} {enc : α → List Value} {k : Nat} (hk : ∀ x, (enc x).length = k) (l : List α) : (celC enc l).length = l.length * k := by
 induction l with
 | nil => simp [celC]
 | cons e l ih => rw [celC_cons, List.length_append, ih, hk, List.length_cons, Nat.succ_mul, Nat.add_comm]
theorem celC_get {α : Type} {enc : α → List Value} {k : Nat} (hk : ∀ x, (enc x).length = k) : ∀ (l : List α) (i : Nat) (h : i < l.length) (j : Nat), j < k → (celC enc l)[i * k + j]? = (enc l[i])[j]?
 | [], i, h, j, hj => by simp at h
 | x :: l, 0, h, j, hj => by
  rw [celC_cons, Nat.zero_mul, Nat.zero_add, List.getElem?_append_left (by rw [hk]; exact hj)]
  rfl
 | x :: l, i + 1, h, j, hj => by
  have ih := celC_get hk l i (by simpa using h) j hj;have e : (i + 1) * k + j = k + (i * k + j) := by rw [Nat.add_mul, Nat.one_mul]; omega
  rw [celC_cons, List.getElem?_append_right (by rw [hk]; omega), hk, e, Nat.add_sub_cancel_left, ih]
  rfl
theorem celC_one {α : Type} {enc : α → List Value} (h1 : ∀ x, ∀ u ∈ enc x, u.oneCell' = true) (l : List α) : ∀ u ∈ celC enc l, u.oneCell' = true := by
 intro u hu;unfold celC at hu;rw [List.mem_flatten] at hu;obtain ⟨r, hr, hu⟩ := hu;obtain ⟨e, _, rfl⟩ := List.mem_map.1 hr;exact h1 e u hu
theorem celC_take {α : Type} {enc : α → List Value} {k : Nat} (hk : ∀ x, (enc x).length = k) : ∀ (l : List α) (n : Nat), (celC enc l).take (n * k) = celC enc (l.take n)
 | [], n => by simp [celC]
 | x :: l, 0 => by simp [celC]
 | x :: l, n + 1 => by
  rw [celC_cons, List.take_succ_cons, celC_cons, ← celC_take hk l n, List.take_append, hk, List.take_of_length_le (by rw [hk, Nat.add_mul]; omega)]
  congr 2
  rw [Nat.add_mul];omega
def SGot {α : Type} (k bytes : Nat) (enc : α → List Value) (w : World) (v : Value) (l : List α) : Prop :=
 l.length * bytes ≤ 140737488355328 ∧ ∃ a c, v = .slice a l.length c ∧ (l.length ≤ c ∧ c ≤ maxLen) ∧ (0 < l.length → ∃ b off, a = some ⟨b, off, none⟩ ∧ b < w.heap.size ∧ ∀ j, j < l.length * k → w.cell? ⟨b, off + j, none⟩ = (celC enc l)[j]?)
theorem SGot.nil {α : Type} (k bytes : Nat) (enc : α → List Value) (w : World) (a : Option Addr) (c : Nat) (hc : c ≤ maxLen) : SGot k bytes enc w (.slice a 0 c) [] := ⟨by simp, a, c, rfl, ⟨Nat.zero_le _, hc⟩, fun h => absurd h (by simp)⟩
theorem SGot.keep {α : Type} {k bytes : Nat} {enc : α → List Value} {w w' : World} {v : Value} {l : List α} (h : SGot k bytes enc w v l) (hb : Below w.heap.size w w') : SGot k bytes enc w' v l := by
 obtain ⟨h8, a, c, rfl, hcc, hr⟩ := h;refine ⟨h8, a, c, rfl, hcc, fun hp => ?_⟩;obtain ⟨b, off, rfl, hlt, hc⟩ := hr hp
 exact ⟨b, off, rfl, Nat.lt_of_lt_of_le hlt hb.size, fun j hj => (hb.cell hlt).trans (hc j hj)⟩
theorem SGot.blk {α : Type} {k bytes : Nat} {enc : α → List Value} {w : World} {a : Option Addr} {n c : Nat} {l : List α} (h : SGot k bytes enc w (.slice a n c) l) : 0 < l.length → ∀ b off, a = some ⟨b, off, none⟩ → b < w.heap.size := by
 intro hp b off e;obtain ⟨_, a', c', e', _, hr⟩ := h;simp only [Value.slice.injEq] at e';obtain ⟨b', off', e2, hlt, _⟩ := hr hp;rw [e'.1, e2] at e;simp only [Option.some.injEq, Addr.mk.injEq] at e;rw [← e.1];exact hlt
theorem SGot.slice {α : Type} {k bytes : Nat} {enc : α → List Value} {w : World} {v : Value} {l : List α} (h : SGot k bytes enc w v l) : ∃ a c, v = .slice a l.length c := by
 obtain ⟨_, a, c, e, _⟩ := h
 exact ⟨a, c, e⟩
theorem SGot.cap {α : Type} {k bytes : Nat} {enc : α → List Value} {w : World} {a : Option Addr} {c : Nat} {l : List α} (h : SGot k bytes enc w (.slice a l.length c) l) : l.length ≤ c ∧ c ≤ maxLen := by
 obtain ⟨_, a', c', e, hcc, _⟩ := h;simp only [Value.slice.injEq] at e;rw [e.2.2];exact hcc
theorem SGot.turn {α : Type} {k bytes : Nat} {enc : α → List Value} {F : Nat → Prop} {w w' : World} {v : Value} {l : List α} (h : SGot k bytes enc w v l) (ho : Out F w w') (hF : 0 < l.length → ∀ b off n c, v = .slice (some ⟨b, off, none⟩) n c → ¬ F b) : SGot k bytes enc w' v l := by
 obtain ⟨h8, a, c, rfl, hcc, hr⟩ := h;refine ⟨h8, a, c, rfl, hcc, fun hp => ?_⟩;obtain ⟨b, off, rfl, hlt, hc⟩ := hr hp;refine ⟨b, off, rfl, Nat.lt_of_lt_of_le hlt ho.size, fun j hj => ?_⟩;rw [← hc j hj];have := ho.block b hlt (hF hp b off _ _ rfl)
 simp [World.cell?, this]
theorem own_sgot {α : Type} {k bytes : Nat} {enc : α → List Value} {w : World} {B : Nat} {e : TypeId} {v : Value} {l : List α} (h : w.ownsRow B e k v l.length (celC enc l)) (h8 : l.length * bytes ≤ 140737488355328) : SGot k bytes enc w v l := by
 obtain ⟨_, ⟨rfl, h0⟩ | ⟨g, cap, cur, rfl, hB, hg, hn, hc, hs, ht⟩⟩ := h
 ·rw [List.length_eq_zero_iff] at h0;subst h0;exact SGot.nil _ _ _ _ _ _ (Nat.zero_le _)
 ·refine ⟨h8, _, cap, rfl, ⟨hn, hc⟩, fun _ => ⟨g, 0, rfl, (Array.getElem?_eq_some_iff.1 hg).1, fun j hj => ?_⟩⟩;rw [cell_at hg, Nat.zero_add, ← ht, List.getElem?_take, if_pos (by omega)]
  simp
theorem own_nil {k : Nat} {e : TypeId} (w : World) (B : Nat) : w.ownsRow B e k (.slice none 0 0) 0 [] := World.ownsRow_nil w B e k
abbrev KeyV := Int × Int
abbrev TxnV := Int × Int
abbrev HoldV := KeyV × TxnV
def holE (h : HoldV) : List Value := [.int .i64 h.1.1, .int .i64 h.1.2, .int .i64 h.2.1, .int .i64 h.2.2]
theorem holK (h : HoldV) : (holE h).length = 4 := rfl
theorem hol1 (h : HoldV) : ∀ u ∈ holE h, u.oneCell' = true := by
 intro u hu;simp only [holE, List.mem_cons, List.not_mem_nil, or_false] at hu
 rcases hu with rfl | rfl | rfl | rfl <;> rfl
abbrev Hols (w : World) (v : Value) (l : List HoldV) : Prop := SGot 4 32 holE w v l
theorem SGot.hols {w : World} {v : Value} {l : List HoldV} (h : Hols w v l) : ∃ a c, v = .slice a l.length c ∧ l.length * 32 ≤ 140737488355328 ∧ ∀ i (h : i < l.length), ∃ b off, a = some ⟨b, off, none⟩ ∧ b < w.heap.size ∧ w.cell? ⟨b, off + i * 4, none⟩ = some (.int .i64 (l[i]).1.1) ∧ w.cell? ⟨b, off + i * 4 + 1, none⟩ = some (.int .i64 (l[i]).1.2) ∧ w.cell? ⟨b, off + i * 4 + 2, none⟩ = some (.int .i64 (l[i]).2.1) ∧ w.cell? ⟨b, off + i * 4 + 3, none⟩ = some (.int .i64 (l[i]).2.2) := by
 obtain ⟨h8, a, c, rfl, _, hr⟩ := h;refine ⟨a, c, rfl, h8, fun i hi => ?_⟩;obtain ⟨b, off, rfl, hlt, hc⟩ := hr (by omega);have g := celC_get holK l i hi
 exact ⟨b, off, rfl, hlt, (hc (i * 4) (by omega)).trans (g 0 (by omega)), (hc (i * 4 + 1) (by omega)).trans (g 1 (by omega)), (hc (i * 4 + 2) (by omega)).trans (g 2 (by omega)), (hc (i * 4 + 3) (by omega)).trans (g 3 (by omega))⟩
structure TabV where
 held : List HoldV
 wait : List HoldV
structure Tab (w : World) (T : TabV) (h v : Value) : Prop where
 held : Hols w h T.held
 wait : Hols w v T.wait
theorem Tab.keep {w w' : World} {T : TabV} {h v : Value} (k : Tab w T h v) (hb : Below w.heap.size w w') : Tab w' T h v := ⟨k.held.keep hb, k.wait.keep hb⟩
theorem eq26 (a b c d : Int) (w : World) : (binOp .eql 24 (.agg #[.int .i64 a, .int .i64 b]) (.agg #[.int .i64 c, .int .i64 d])).run Tryz.prog w = .ok (.bool ((a, b) == (c, d))) w := by
 simp [go_sem]
 by_cases h : a = c <;> by_cases k : b = d <;> simp [h, k]
theorem eq28 (a b c d : Int) (w : World) : (binOp .eql 129 (.agg #[.int .i64 a, .int .i64 b]) (.agg #[.int .i64 c, .int .i64 d])).run Tryz.prog w = .ok (.bool ((a, b) == (c, d))) w := by
 simp [go_sem]
 by_cases h : a = c <;> by_cases k : b = d <;> simp [h, k]
end Go.Proofs.YtiinigifjdpicaaGreatDoor.Se
