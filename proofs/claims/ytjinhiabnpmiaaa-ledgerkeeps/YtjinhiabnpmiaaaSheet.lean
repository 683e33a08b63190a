/- So much of each asset, in a block: what is added to it, and what amounts it has. -/
import Derived.Test.YtjinhiabnpmiaaaRefB
namespace Go.Proofs.Ytjinhiabnpmiaaa
open Go.RowKit
def shA (s : Nat → Int) : Array Value := #[.int .i64 (s 0), .int .i64 (s 1), .int .i64 (s 2), .int .i64 (s 3)]
theorem sh_cells {w : World} {p : Nat} {s : Nat → Int} (h : w.heap[p]? = some (.cells (shA s) 55 (0, 0))) : w.cell? ⟨p, 0, none⟩ = some (.int .i64 (s 0)) ∧ w.cell? ⟨p, 1, none⟩ = some (.int .i64 (s 1)) ∧ w.cell? ⟨p, 2, none⟩ = some (.int .i64 (s 2)) ∧ w.cell? ⟨p, 3, none⟩ = some (.int .i64 (s 3)) :=
  ⟨by rw [cell_at h]; rfl, by rw [cell_at h]; rfl, by rw [cell_at h]; rfl, by rw [cell_at h]; rfl⟩
theorem sh_cell {w : World} {p : Nat} {s : Nat → Int} (h : w.heap[p]? = some (.cells (shA s) 55 (0, 0))) (t : Nat) (ht : t < 4) : w.cell? ⟨p, t, none⟩ = some (.int .i64 (s t)) := by
  obtain ⟨h0, h1, h2, h3⟩ := sh_cells h
  rcases (by omega : t = 0 ∨ t = 1 ∨ t = 2 ∨ t = 3) with rfl | rfl | rfl | rfl
  · exact h0
  · exact h1
  · exact h2
  · exact h3
def upS (s : Nat → Int) (t : Nat) (n : Int) : Nat → Int := fun k => if k = t then n else s k
theorem sh_set {w : World} {p : Nat} {s : Nat → Int} (h : w.heap[p]? = some (.cells (shA s) 55 (0, 0))) (t : Nat) (ht : t < 4) (n : Int) : (w.setCell ⟨p, t, none⟩ (.int .i64 n)).heap[p]? = some (.cells (shA (upS s t n)) 55 (0, 0)) := by
  rw [heap_set h]
  rcases (by omega : t = 0 ∨ t = 1 ∨ t = 2 ∨ t = 3) with rfl | rfl | rfl | rfl <;> rfl
/-- A list of the call's own, and what stays while it grows. -/
structure Mine (w : World) (v : Value) (xs : List AmtV) (wr : World) : Prop where
  own : wr.ownsRow w.heap.size 35 2 v xs.length (amC xs)
  bel : Below w.heap.size w wr
theorem Mine.grow {w wr : World} {v : Value} {xs : List AmtV} (h : Mine w v xs wr) (x y : Int) (hl : xs.length ≤ 1000) :
    ∃ v' w', (Builtin.append_ #[22, 22] 22 #[v, .slice (some ⟨wr.heap.size, 0, none⟩) 1 1]).run Try.prog (wr.alloc (.cells #[.int .i64 x, .int .i64 y] 35)) = .ok v' w' ∧ Mine w v' (xs ++ [⟨x, y⟩]) w' := by
  have hb := h.bel.size
  obtain ⟨v', w', h1, h2, h3⟩ := run_app (wr.alloc (.cells #[.int .i64 x, .int .i64 y] 35)) 22 w.heap.size v xs [⟨x, y⟩] (.slice (some ⟨wr.heap.size, 0, none⟩) 1 1) (by simp; omega) (own_keep h.own (below1 wr _)) (one_got wr x y) (by rw [List.length_singleton]; omega)
  refine ⟨v', w', h1, h2, ?_⟩
  have ho : Out (fun k => v.ownBlock = some k) (wr.alloc (.cells #[.int .i64 x, .int .i64 y] 35)) w' := Out.ofGrown h3 (fun k e => e)
  refine below_out (below_via h.bel (below1 wr _)) ho fun k hk => ?_
  obtain ⟨_, ⟨rfl, _⟩ | ⟨g, cap, cur, rfl, hB, _⟩⟩ := h.own
  · cases hk
  · simp only [Value.ownBlock, Option.some.injEq] at hk
    omega
set_option maxHeartbeats 4000000 in
set_option maxRecDepth 100000 in
theorem amounts_is (p : Nat) (s : Nat → Int) (w : World) (hp : w.heap[p]? = some (.cells (shA s) 55 (0, 0))) : Calls Try.prog 30 #[.pointer (some ⟨p, 0, none⟩)] w fun e w' => ∃ g, e = .returned g ∧ Mine w g (pre s 4) w' := by
  have HP := hideIt hp
  have hpl := (Array.getElem?_eq_some_iff.1 hp).1
  clear hp
  go_enter Try.func30, Try.ntmps30
  go_wp2
  go_loopw [3, 7] (fun u v wr => ∃ (t : Nat), v = .int .i64 t ∧ t ≤ 4 ∧ Hid (Mine w u (pre s t) wr)) (fun _ v _ => 4 - (intOf v).toNat)
  case atStart => exact ⟨0, rfl, Nat.zero_le _, hideIt ⟨own_nil _ _, Below.refl _ _⟩⟩
  case round =>
    obtain ⟨t, rfl, ht, HR⟩ := hrel
    by_cases hlt : t < 4
    · have hltI : (t : Int) < 4 := by omega
      have ht0 : (0 : Int) ≤ (t : Int) := by omega
      have c0 := (HR.out.bel.cell (p := ⟨p, t, none⟩) hpl).trans (sh_cell HP.out t hlt)
      have HE : Hid (pre s (t + 1) = pre s t ++ one s t) := rfl
      by_cases h0 : 0 < s t
      · have HO : Hid (one s t = [⟨t, s t⟩]) := if_pos h0
        have hpl4 := pre_len s t
        go_upto_region 4 with fail
        go_quiet (fail)
        have HM : Mine w u3 (pre s t) (wr.drewN nq) := ⟨HR.out.own, bN HR.out.bel _⟩
        generalize wr.drewN nq = wq at *
        obtain ⟨v', w', hrun, hm⟩ := HM.grow t (s t) (by omega)
        have HRUN := hideIt hrun
        have HM2 := hideIt hm
        clear hrun hm HM HR
        go_wp2_with (at_builtin; refine wpList_append_run _ rfl _ _ rfl rfl rfl rfl HRUN.out ?_)
        clear HRUN
        go_wp2
        go_roundw
        case rel => exact ⟨t + 1, by go_num, by omega, hideIt (by rw [HE.out, HO.out]; exact HM2.out)⟩
        case measure => simp [intOf]; omega
      · have HO : Hid (one s t = []) := if_neg h0
        have h0I : s t ≤ 0 := by omega
        clear h0
        go_upto_region 4 with fail
        go_quiet (fail)
        go_wp2
        go_roundw
        case rel => exact ⟨t + 1, by go_num, by omega, hideIt (by rw [HE.out, HO.out, List.append_nil]; exact ⟨HR.out.own, bN HR.out.bel _⟩)⟩
        case measure => simp [intOf]; omega
    · have hltI : ¬ (t : Int) < 4 := by omega
      obtain rfl : t = 4 := by omega
      go_wp2
      go_ret
      exact ⟨_, rfl, HR.out⟩
theorem cell_of_block {w w' : World} {b : Nat} (h : w'.heap[b]? = w.heap[b]?) (i : Nat) : w'.cell? ⟨b, i, none⟩ = w.cell? ⟨b, i, none⟩ := by
  simp [World.cell?, h]
theorem Out1.set {w wr : World} {p : Nat} (h : Out (fun k => k = p) w wr) (j : Nat) (v : Value) : Out (fun k => k = p) w (wr.setCell ⟨p, j, none⟩ v) := h.trans (Out.ofSet (F := fun k => k = p) wr ⟨p, j, none⟩ v rfl) (fun _ _ e => e)
set_option maxHeartbeats 4000000 in
set_option maxRecDepth 100000 in
theorem add_is (p : Nat) (s : Nat → Int) (g : Value) (l : List AmtV) (w : World) (hp : w.heap[p]? = some (.cells (shA s) 55 (0, 0))) (h : AGot w g l) (hl : amtsB l (-1) = true) (hs : ∀ k, k < 4 → 0 ≤ s k ∧ s k ≤ 9200000000000000000) (hd : 0 < l.length → ∀ b off n c, g = .slice (some ⟨b, off, none⟩) n c → b ≠ p) : Calls Try.prog 29 #[.pointer (some ⟨p, 0, none⟩), g] w fun e w' => e = .returned (.tuple #[]) ∧ w'.heap[p]? = some (.cells (shA (fun k => s k + balL l k)) 55 (0, 0)) ∧ Out (fun k => k = p) w w' := by
  have HP := hideIt hp
  have hpl := (Array.getElem?_eq_some_iff.1 hp).1
  obtain ⟨a, c, rfl, h8, hr⟩ := h.open
  have HH := hideIt hr
  have HL := hideIt hl
  have HS := hideIt hs
  have HD := hideIt hd
  clear hp hr h hl hs hd
  go_enter Try.func29, Try.ntmps29
  go_wp2
  go_loopw [8] (fun v wr => ∃ (t : Nat), v = .int .i64 t ∧ t ≤ l.length ∧ Hid (wr.heap[p]? = some (.cells (shA (fun k => s k + sumL (l.take t) k)) 55 (0, 0)) ∧ Out (fun k => k = p) w wr)) (fun v _ => l.length - (intOf v).toNat)
  case atStart => exact ⟨0, rfl, Nat.zero_le _, hideIt ⟨by simpa [sumL] using HP.out, Out.refl _ _⟩⟩
  case round =>
    obtain ⟨t, rfl, ht, HR⟩ := hrel
    by_cases hlt : t < l.length
    · have hltI : (t : Int) < (l.length : Int) := by omega
      have ht0 : (0 : Int) ≤ (t : Int) := by omega
      obtain ⟨b, off, rfl, hbl, q0, q1⟩ := HH.out t hlt
      have hbp := HD.out (by omega) b off _ _ rfl
      have c0 : wr.cell? ⟨b, off + t * 2, none⟩ = some (.int .i64 (l[t]).k) := by
        rw [← q0]
        exact cell_of_block (HR.out.2.block b hbl hbp) _
      have c1 : wr.cell? ⟨b, off + t * 2 + 1, none⟩ = some (.int .i64 (l[t]).n) := by
        rw [← q1]
        exact cell_of_block (HR.out.2.block b hbl hbp) _
      have hm := amts_mem l _ HL.out l[t] (List.getElem_mem hlt)
      have HST := hideIt (fun a => sumL_take l t a hlt)
      have hT := fun a => take_in l _ a t HL.out
      clear q0 q1
      generalize l[t] = en at *
      obtain ⟨ek, ex⟩ := en
      simp only at c0 c1 hm HST
      obtain ⟨kk, rfl⟩ : ∃ kk : Nat, ek = kk := Int.eq_ofNat_of_zero_le hm.2.1.1
      have hk4 : kk < 4 := by omega
      have hk4I : (kk : Int) < 4 := by omega
      have hk0 : (0 : Int) ≤ (kk : Int) := by omega
      obtain ⟨A, hA⟩ : ∃ A, A = s kk + sumL (l.take t) kk := ⟨_, rfl⟩
      have hAr : 0 ≤ A ∧ A ≤ 9209007199254740992 := by
        have := HS.out kk hk4
        have := hT kk
        omega
      obtain ⟨A1, A2⟩ := hAr
      obtain ⟨E1, E2⟩ := hm.2.2
      have hsz := HR.out.2.size
      have hpr : p < wr.heap.size := by omega
      have hpc : wr.cell? ⟨p, kk, none⟩ = some (.int .i64 A) := by
        rw [hA]
        exact sh_cell HR.out.1 kk hk4
      have hpf : wr.frozen? ⟨p, kk, none⟩ = false := free_at HR.out.1 kk
      have HA := hideIt hA
      have HN : Hid ((((wr.setCell ⟨p, kk, none⟩ (.int .i64 (A + ex))).alloc (.cells #[.int .i64 (kk : Int), .int .i64 ex] 35)).drew).heap[p]? = some (.cells (shA (fun k => s k + sumL (l.take (t + 1)) k)) 55 (0, 0)) ∧ Out (fun k => k = p) w (((wr.setCell ⟨p, kk, none⟩ (.int .i64 (A + ex))).alloc (.cells #[.int .i64 (kk : Int), .int .i64 ex] 35)).drew)) := by
        refine ⟨?_, (Out1.set HR.out.2 kk _).trans (Out.ofAlloc (F := fun k => k = p) _ _) (fun _ _ e => e) |>.trans (Out.ofDrew (F := fun k => k = p) _) (fun _ _ e => e)⟩
        show (((wr.setCell ⟨p, kk, none⟩ (.int .i64 (A + ex))).alloc (.cells #[.int .i64 (kk : Int), .int .i64 ex] 35))).heap[p]? = _
        rw [heap_alloc_old _ _ (by simpa using hpr), sh_set HR.out.1 kk hk4]
        have e : upS (fun k => s k + sumL (l.take t) k) kk (A + ex) = fun k : Nat => s k + sumL (l.take (t + 1)) k := by
          funext k
          rw [HST.out k, upS]
          by_cases c : k = kk
          · subst c
            rw [if_pos rfl, if_pos rfl, hA]
            omega
          · rw [if_neg c, if_neg (by omega), Int.add_zero]
        rw [e]
      clear hm hT hA
      go_upto_region 3 with fail
      go_region
      clear hpc hpf c0 c1
      go_wp2
      go_roundw
      case rel => exact ⟨t + 1, by go_num, by omega, HN⟩
      case measure => simp [intOf]; omega
    · have hltI : ¬ (t : Int) < (l.length : Int) := by omega
      go_wp2
      go_end0
      refine ⟨rfl, ?_, HR.out.2⟩
      rw [HR.out.1, List.take_of_length_le (by omega)]
      have e : (fun k : Nat => s k + sumL l k) = fun k : Nat => s k + balL l k := by
        funext k
        rw [sum_bal l _ _ HL.out]
      rw [e]
end Go.Proofs.Ytjinhiabnpmiaaa
