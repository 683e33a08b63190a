/- Hear, in plain data; vote and acknowledge as one contract each. -/
import Derived.Test.YtilinemcmgjiiaaDoorAk
import Derived.Test.YtilinemcmgjiiaaDoorBg
namespace Go.Proofs.YtilinemcmgjiiaaDoor
open Go.RowKit
set_option linter.all false
def vtV (t : TraV) (j : Nat) (m : MesX) : TraV × Bool :=
  if m.yes = false then (abtV t m.x.v.code, false)
  else match t.ps[j]? with
    | none => (t, false)
    | some p => if t.st = 1 ∧ p.vo = false then (yesV t (t.ps.set j { p with vo := true }) m.x.v.am (m.cx.map CelX.v), !((t.ps.set j { p with vo := true }).any (fun p => !p.vo))) else (t, false)
def akV (t : TraV) (j : Nat) (m : MesX) : TraV :=
  match t.ps[j]? with
    | none => t
    | some p => if t.st ≠ 1 ∧ p.ac = false then (if t.st = 2 then ackV t (t.ps.set j { p with ac := true }) m.x.v.num m.x.v.am m.x.v.fl else { t with ps := t.ps.set j { p with ac := true } }) else t
theorem vote_any {B b n c i k j : Nat} {w W0 : World} {ys : List TraX} (m : MesX) (h : TrsOwn B w (.slice (some ⟨b, 0, none⟩) n c) ys) (hi : i < ys.length) (hk : k = i * 21) (hj : j < ys[i].ps.length) (hm : MesAt W0 m) (hW : Below W0.heap.size W0 w) (h0 : W0.heap.size ≤ B) (hB : B ≤ w.heap.size) (hs : (ys[i].cx.length + m.cx.length) * 144 ≤ 140737488355328) : Calls Tryd.prog 26 #[.pointer (some ⟨b, k, none⟩), .int .i64 j, .agg (mesE m).toArray] w fun e w' => e = .returned (.bool (vtV ys[i].v j m).2) ∧ Turned B w (.slice (some ⟨b, 0, none⟩) n c) ys i (vtV ys[i].v j m).1 w' := by
  have hp : ys[i].v.ps[j]? = some ys[i].ps[j] := List.getElem?_eq_getElem hj
  cases hy : m.yes
  · have e : vtV ys[i].v j m = (abtV ys[i].v m.x.v.code, false) := by unfold vtV; rw [if_pos hy]
    rw [e]
    exact vote_no j m h hi hk hB hy
  · by_cases hc : ys[i].st = 1 ∧ ys[i].ps[j].vo = false
    · have e : vtV ys[i].v j m = (yesV ys[i].v (ys[i].ps.set j { ys[i].ps[j] with vo := true }) m.x.v.am (m.cx.map CelX.v), !((ys[i].ps.set j { ys[i].ps[j] with vo := true }).any (fun p => !p.vo))) := by
        unfold vtV
        rw [if_neg (by rw [hy]; decide), hp]
        exact if_pos hc
      rw [e]
      exact vote_yes m h hi hk hj hm hW h0 hB hs hy hc.1 hc.2
    · have e : vtV ys[i].v j m = (ys[i].v, false) := by
        unfold vtV
        rw [if_neg (by rw [hy]; decide), hp]
        exact if_neg hc
      rw [e]
      exact vote_idle m h hi hk hj hB hy hc
theorem ack_any {B b n c i k j : Nat} {w W0 : World} {ys : List TraX} (m : MesX) (h : TrsOwn B w (.slice (some ⟨b, 0, none⟩) n c) ys) (hi : i < ys.length) (hk : k = i * 21) (hj : j < ys[i].ps.length) (hm : MesAt W0 m) (hW : Below W0.heap.size W0 w) (h0 : W0.heap.size ≤ B) (hB : B ≤ w.heap.size) (hs : (ys[i].x.v.fl.length + m.x.v.fl.length) * 32 ≤ 140737488355328) : Calls Tryd.prog 28 #[.pointer (some ⟨b, k, none⟩), .int .i64 j, .agg #[.int .i64 m.x.v.code, .int .i64 m.x.v.num, .slice m.x.aa m.x.v.am.length m.x.ac, .slice m.x.fa m.x.v.fl.length m.x.fc]] w fun e w' => e = .returned (.tuple #[]) ∧ Turned B w (.slice (some ⟨b, 0, none⟩) n c) ys i (akV ys[i].v j m) w' := by
  have hp : ys[i].v.ps[j]? = some ys[i].ps[j] := List.getElem?_eq_getElem hj
  by_cases hc : ys[i].st ≠ 1 ∧ ys[i].ps[j].ac = false
  · by_cases h2 : ys[i].st = 2
    · have e : akV ys[i].v j m = ackV ys[i].v (ys[i].ps.set j { ys[i].ps[j] with ac := true }) m.x.v.num m.x.v.am m.x.v.fl := by
        unfold akV
        rw [hp]
        exact (if_pos hc).trans (if_pos h2)
      rw [e]
      exact ack_commit _ _ _ _ _ _ _ _ h hi hk hj hm.x.a hm.x.f hW h0 hB hs h2 hc.2
    · have e : akV ys[i].v j m = { ys[i].v with ps := ys[i].ps.set j { ys[i].ps[j] with ac := true } } := by
        unfold akV
        rw [hp]
        exact (if_pos hc).trans (if_neg h2)
      rw [e]
      exact ack_abort _ _ _ _ _ _ _ _ h hi hk hj hB hc.1 h2 hc.2
  · have e : akV ys[i].v j m = ys[i].v := by
      unfold akV
      rw [hp]
      exact if_neg hc
    rw [e]
    exact ack_idle _ _ _ _ _ _ _ _ h hi hk hj hB hc
/-- What find tells. -/
theorem fnd_ok (c q k n g : Int) : ∀ (l : List TraV) (i : Nat) (a0 : Int), (fndV c q k n g l i a0 = (a0, -1)) ∨ ∃ j, ∃ h : j < l.length, l[j].c = c ∧ l[j].q = q ∧ (fndV c q k n g l i a0).1 = ((i + j : Nat) : Int) ∧ ((fndV c q k n g l i a0).2 = -1 ∨ ∃ p, ∃ hp : p < l[j].ps.length, (fndV c q k n g l i a0).2 = (p : Int) ∧ l[j].ps[p].k = k ∧ l[j].ps[p].n = n ∧ l[j].ps[p].g = g)
  | [], i, a0 => .inl rfl
  | t :: l, i, a0 => by
    have pid : ∀ (ps : List PeeV) (o : Nat) (x : Nat), pidL k n g ps o = some x → ∃ p, ∃ hp : p < ps.length, x = o + p ∧ ps[p].k = k ∧ ps[p].n = n ∧ ps[p].g = g := by
      intro ps
      induction ps with
      | nil => intro o x h; cases h
      | cons p ps ih =>
        intro o x h
        unfold pidL at h
        by_cases hp : isP k n g p = true
        · rw [if_pos hp] at h
          cases h
          unfold isP at hp
          simp only [Bool.and_eq_true, beq_iff_eq] at hp
          exact ⟨0, by simp, rfl, hp.1.1, hp.1.2, hp.2⟩
        · rw [if_neg hp] at h
          obtain ⟨p', hp', e1, e2⟩ := ih (o + 1) x h
          exact ⟨p' + 1, by simpa using hp', by omega, e2⟩
    by_cases ht : (t.c == c && t.q == q) = true
    · have ht2 := ht
      simp only [Bool.and_eq_true, beq_iff_eq] at ht2
      cases hp : pidL k n g t.ps 0 with
      | some x =>
        have e : fndV c q k n g (t :: l) i a0 = ((i : Int), (x : Int)) := by
          conv => lhs; unfold fndV
          rw [if_pos ht, hp]
        obtain ⟨p, hpl, ex, e2⟩ := pid t.ps 0 x hp
        refine .inr ⟨0, by simp, ht2.1, ht2.2, by rw [e]; rfl, .inr ⟨p, hpl, by rw [e]; show (x : Int) = p; omega, e2⟩⟩
      | none =>
        have e : fndV c q k n g (t :: l) i a0 = fndV c q k n g l (i + 1) i := by
          conv => lhs; unfold fndV
          rw [if_pos ht, hp]
        rw [e]
        rcases fnd_ok c q k n g l (i + 1) i with h1 | ⟨j, hj, h1, h2, h3, h4⟩
        · exact .inr ⟨0, by simp, ht2.1, ht2.2, by rw [h1]; rfl, .inl (by rw [h1])⟩
        · exact .inr ⟨j + 1, by simpa using hj, h1, h2, by rw [h3]; congr 1; omega, h4⟩
    · have e : fndV c q k n g (t :: l) i a0 = fndV c q k n g l (i + 1) a0 := by
        conv => lhs; unfold fndV
        rw [if_neg ht]
      rw [e]
      rcases fnd_ok c q k n g l (i + 1) a0 with h1 | ⟨j, hj, h1, h2, h3, h4⟩
      · exact .inl h1
      · exact .inr ⟨j + 1, by simpa using hj, h1, h2, by rw [h3]; congr 1; omega, h4⟩
/-- A mark. -/
def marE (x : Int × Int) : List Value := [.int .i64 x.1, .int .i64 x.2, .bool true]
theorem marK (x : Int × Int) : (marE x).length = 3 := rfl
theorem mar1 (x : Int × Int) : ∀ u ∈ marE x, u.oneCell' = true := by
  intro u hu
  simp only [marE, List.mem_cons, List.not_mem_nil, or_false] at hu
  rcases hu with rfl | rfl | rfl <;> rfl
theorem infoMar : (Tryd.prog.info? 57).map (fun i => (i.zero, i.size, i.bytes)) = some (some (.agg #[.int .i64 0, .int .i64 0, .bool false]), 3, 24) := by kernel_rfl
def HeaBack (g : Int) (l : List TraV) (mk : List (Int × Int)) (n : Int) (w : World) (e : Ending) (w' : World) : Prop := ∃ a c ys ma mc, e = .returned (.tuple #[.agg #[.int .i64 g, .slice a l.length c], .slice ma mk.length mc, .int .i64 n]) ∧ ys.map TraX.v = l ∧ TrsOwn w.heap.size w' (.slice a l.length c) ys ∧ w'.ownsRow w.heap.size 57 3 (.slice ma mk.length mc) mk.length (celC marE mk) ∧ Below w.heap.size w w'
theorem hea_no {w W : World} {n : Int} (X : W.heap[w.heap.size + 2]? = some (.cells #[.int .i64 0, .slice none 0 0] 25 (0, 0))) (B : Below w.heap.size w W) : HeaBack 0 [] [] n w (.returned (.tuple #[.agg #[.int .i64 0, .slice none 0 0], .slice none 0 0, .int .i64 n])) ((W.setCell ⟨w.heap.size + 2, 0, none⟩ (.int .i64 0)).setCell ⟨w.heap.size + 2, 1, none⟩ (.slice none 0 0)) := by
  obtain ⟨hzz, hoo⟩ := puts2 W (w.heap.size + 2) 25 (.int .i64 0) (.slice none 0 0) X
  exact ⟨none, 0, [], none, 0, rfl, rfl, TrsOwn.nil _ _, own_nil _ _, below_out B hoo (fun k hk => by omega)⟩
end Go.Proofs.YtilinemcmgjiiaaDoor
