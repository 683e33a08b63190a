/- A builder that has been written to, written to again: what else stays (the library's contract says less of blocks behind the builder). -/
import Derived.Test.YtagfolckodpioaaWr
namespace Go.Proofs.Ytagfolckodpioaa
open Go.RowKit

theorem copyCheck_set (b : Nat) (v : Value) (w : World) (hbk : w.heap[b]? = some (.cells #[.pointer (some ⟨b, 0, none⟩), v] 136 (0, 0))) :
    Calls Try.prog 93 #[.pointer (some ⟨b, 0, none⟩)] w fun e w' => (∃ x, e = .returned x) ∧ w' = w :=
  Calls.mono (Any.Builder_copyCheck_used (P := Try.prog) (ρ := renWrite) { layWrite with } extraWrite.toX72 b w (by rw [cell_at hbk]; rfl)) (fun _ _ h => ⟨⟨_, h.1⟩, h.2⟩)
theorem info5 : (Try.prog.info? 5).map (fun i => (i.zero, i.size, i.bytes)) = some (some (.int .u8 0), 1, 1) := by kernel_rfl
set_option maxHeartbeats 2000000 in
set_option maxRecDepth 100000 in
theorem bWriteZ (B b z : Nat) (bs : List Value) (s : ByteArray) (w : World) (v : Value) (hB : B ≤ b) (hbk : w.heap[b]? = some (.cells #[.pointer (some ⟨b, 0, none⟩), v] 136 (0, 0))) (hown : w.ownsRow B 5 1 v bs.length bs) (hne : v.ownBlock ≠ some b)
    (hlen : bs.length + s.size ≤ 140737488355328) (hBw : B ≤ w.heap.size) (hz : z < w.heap.size) (hzb : z ≠ b) (hzr : v.ownBlock ≠ some z) :
    Calls Try.prog 84 #[.pointer (some ⟨b, 0, none⟩), .string s] w fun e w' => (∃ x, e = .returned x) ∧ (Lib.BuilderAt 136 5 B b (.pointer (some ⟨b, 0, none⟩)) (bs ++ Lib.strCells s) w' ∧ Below B w w') ∧ w'.heap[z]? = w.heap[z]? := by
  obtain ⟨i0, hi, hz0, hz1, hz2⟩ := info_parts info5
  have c1 : w.cell? ⟨b, 1, none⟩ = some v := by rw [cell_at hbk]; rfl
  have hlt : b < w.heap.size := (Array.getElem?_eq_some_iff.1 hbk).1
  have H1 := hideIt (copyCheck_set b v w hbk)
  have HK := hideIt hbk
  have HO := hideIt hown
  clear hbk hown
  go_enter Try.func84, Try.ntmps84
  go_wp2_with fail
  refine H1.out.mono ?_
  rintro e w1 ⟨⟨x, rfl⟩, rfl⟩
  dsimp only
  go_wp2_with (at_builtin; refine Lib.wpList_append_own_string _ rfl _ _ 46 9 rfl B 5 i0 Try.underlying46 Try.underlying9 hi hz0 hz1 hz2 _ _ _ rfl HO.out s rfl ?c3 ?c4 ?c5 ?_)
  case c3 => unfold maxLen; omega
  case c4 => omega
  case c5 => omega
  intro v' w2 hown' hgrow _
  have hb2 : w2.heap[b]? = some (.cells #[.pointer (some ⟨b, 0, none⟩), v] 136 (0, 0)) := by
    rw [hgrow.block b hlt (fun e => hne e.symm)]
    exact HK.out
  have hzz : w2.heap[z]? = w1.heap[z]? := hgrow.block z hz (fun e => hzr e.symm)
  have d1 : w2.cell? ⟨b, 1, none⟩ = some v := by rw [cell_at hb2]; rfl
  have f1 : w2.frozen? ⟨b, 1, none⟩ = false := free_at hb2 1
  have HX := hideIt (And.intro hown' (And.intro hgrow (And.intro hb2 hzz)))
  obtain ⟨ao, n', cap, rfl⟩ : ∃ ao n' cap, v' = .slice ao n' cap := by
    rcases hown'.2 with ⟨hv, _⟩ | ⟨g, cap, cur, hv, _⟩
    · exact ⟨_, _, _, hv⟩
    · exact ⟨_, _, _, hv⟩
  clear hown' hgrow hb2 hzz
  go_wp2
  go_ret2
  obtain ⟨hown', hgrow, hb2, hzz⟩ := HX.out
  refine ⟨⟨_, rfl⟩, ⟨?_, ?_⟩, ?_⟩
  · exact Lib.BuilderAt.put (T := 136) (e := 5) hB hb2 (bs' := bs ++ Lib.strCells s) (by simpa [Lib.strCells_length] using hown') (by decide)
  · exact ((Below.refl B w1).grown hgrow (by omega) (fun k hk => (HO.out.lt k hk).1)).setCell (p := ⟨b, 1, none⟩) hB _
  · rw [heap_set_other _ _ _ _ _ hzb]; exact hzz
end Go.Proofs.Ytagfolckodpioaa
