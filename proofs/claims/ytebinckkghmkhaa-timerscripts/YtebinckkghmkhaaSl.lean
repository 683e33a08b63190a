/- The library's calls that the wheel makes, at numbers: whether a number is in a list, a list without a number. -/
import Derived.Test.YtebinckkghmkhaaKit
import Derived.Lib.SliceRun
namespace Go.Proofs.Ytebinckkghmkhaa
open Go.RowKit

set_option maxHeartbeats 1000000 in
theorem index_any {w : World} {l : List Nat} {r : Option (Nat × Nat)} (h : SRow w l r) (k : Nat) (hl : l.length ≤ 1000000) :
    Calls Try.prog 31 #[sval l r, .int .i64 k] w fun e w' => (∃ i : Int, e = .returned (.int .i64 i) ∧ (0 ≤ i ↔ k ∈ l)) ∧ w' = w := by
  have hcell := hideIt (fun j hj => h.cell j hj)
  obtain ⟨a, cap, hs⟩ : ∃ a cap, sval l r = .slice a l.length cap := by
    cases r with
    | none => have : l = [] := h; subst this; exact ⟨none, 0, rfl⟩
    | some gc => exact ⟨_, _, rfl⟩
  have ha : ∀ g cap, r = some (g, cap) → a = some ⟨g, 0, none⟩ := by
    rintro g cap rfl
    simp [sval] at hs
    exact hs.1.symm
  rw [hs]
  clear hs h
  have HA := hideIt ha
  clear ha
  go_enter Try.func31, Try.ntmps31
  go_wp2
  go_loop [8] (fun i => ∃ t : Nat, t ≤ l.length ∧ i = .int .i64 t ∧ Hid (k ∉ l.take t)) (fun i => l.length - (intOf i).toNat)
  case atStart => exact ⟨0, Nat.zero_le _, rfl, hideIt (by simp)⟩
  case round =>
    obtain ⟨t, ht, rfl, hn⟩ := hrel
    by_cases hlt : t < l.length
    · obtain ⟨g, cap2, hr, hc⟩ := hcell.out t hlt
      obtain rfl := HA.out g cap2 hr
      have HT := hideIt (List.take_succ_eq_append_getElem hlt)
      have HM := hideIt (List.getElem_mem hlt)
      generalize l[t] = x at *
      clear hr
      by_cases he : k = x
      · subst he
        go_wp2
        go_ret
        exact ⟨⟨t, rfl, by have := HM.out; simp [this]⟩, rfl⟩
      · have he' : ((k : Int) == (x : Int)) = false := beq_eq_false_iff_ne.2 (by omega)
        go_wp2
        go_round
        case rel => exact ⟨t + 1, by omega, by go_num, hideIt (by rw [HT.out]; have := hn.out; simp [this, he])⟩
        case measure => simp [intOf]; omega
    · go_wp2
      go_ret
      have e : l.take t = l := List.take_of_length_le (by omega)
      have := hn.out
      rw [e] at this
      exact ⟨⟨-1, rfl, by simp [this]⟩, rfl⟩
set_option maxHeartbeats 1000000 in
theorem contains_any {w : World} {l : List Nat} {r : Option (Nat × Nat)} (h : SRow w l r) (k : Nat) (hl : l.length ≤ 1000000) :
    Calls Try.prog 25 #[sval l r, .int .i64 k] w fun e w' => e = .returned (.bool (decide (k ∈ l))) ∧ w' = w := by
  have H := hideIt (index_any h k hl)
  generalize sval l r = v at *
  clear h
  go_enter Try.func25, Try.ntmps25
  go_wp2_with fail
  refine H.out.mono ?_
  rintro e w1 ⟨⟨i, rfl, hi⟩, rfl⟩
  dsimp only
  have HI := hideIt hi
  clear hi
  go_wp2
  go_ret
  have : decide (0 ≤ i) = decide (k ∈ l) := by rw [decide_eq_decide]; exact HI.out
  exact ⟨by rw [← this]; rfl, rfl⟩
set_option maxHeartbeats 1000000 in
theorem eq_any (c x k : Nat) (w : World) (hc : w.cell? ⟨c, 0, none⟩ = some (.int .i64 k)) :
    Calls Try.prog 30 #[.int .i64 x, .pointer (some ⟨c, 0, none⟩)] w fun e w' => e = .returned (.bool ((x : Int) == (k : Int))) ∧ w' = w := by
  go_enter Try.func30, Try.ntmps30
  go_wp2
  go_ret
  exact ⟨rfl, rfl⟩
set_option maxHeartbeats 1000000 in
theorem indexFunc_any {w : World} {g cap : Nat} {l : List Nat} (h : IRow w g cap l) (c k : Nat) (hc : w.cell? ⟨c, 0, none⟩ = some (.int .i64 k)) (hl : l.length ≤ 1000000) :
    Calls Try.prog 32 #[.slice (some ⟨g, 0, none⟩) l.length cap, .func (.func 30) #[] #[.pointer (some ⟨c, 0, none⟩)]] w fun e w' => (∃ i : Int, e = .returned (.int .i64 i) ∧ ((i = -1 ∧ k ∉ l) ∨ ∃ t : Nat, i = (t : Int) ∧ t < l.length ∧ k ∉ l.take t ∧ l[t]? = some k)) ∧ w' = w := by
  have hcell := hideIt (fun j hj => h.cell j hj)
  clear h
  go_enter Try.func32, Try.ntmps32
  go_wp2
  go_loop [8] (fun i => ∃ t : Nat, t ≤ l.length ∧ i = .int .i64 t ∧ Hid (k ∉ l.take t)) (fun i => l.length - (intOf i).toNat)
  case atStart => exact ⟨0, Nat.zero_le _, rfl, hideIt (by simp)⟩
  case round =>
    obtain ⟨t, ht, rfl, hn⟩ := hrel
    by_cases hlt : t < l.length
    · have hcl := hcell.out t hlt
      have HT := hideIt (List.take_succ_eq_append_getElem hlt)
      have HM := hideIt (List.getElem?_eq_getElem hlt)
      generalize l[t] = x at *
      have HE := hideIt (eq_any c x k w hc)
      clear hc
      by_cases he : x = k
      · subst he
        go_wp2_with fail
        refine HE.out.mono ?_
        rintro e w1 ⟨rfl, rfl⟩
        dsimp only
        go_wp2
        go_ret
        exact ⟨⟨t, rfl, .inr ⟨t, rfl, hlt, hn.out, HM.out⟩⟩, rfl⟩
      · have he' : ((x : Int) == (k : Int)) = false := beq_eq_false_iff_ne.2 (by omega)
        rw [he'] at HE
        go_wp2_with fail
        refine HE.out.mono ?_
        rintro e w1 ⟨rfl, rfl⟩
        dsimp only
        go_wp2
        go_round
        case rel => exact ⟨t + 1, by omega, by go_num, hideIt (by rw [HT.out]; have := hn.out; simp [this, Ne.symm he])⟩
        case measure => simp [intOf]; omega
    · go_wp2
      go_ret
      have e : l.take t = l := List.take_of_length_le (by omega)
      have := hn.out
      rw [e] at this
      exact ⟨⟨-1, rfl, .inl ⟨rfl, this⟩⟩, rfl⟩
theorem setCells_row {g : Nat} {t : TypeId} : ∀ (vs : List Value) (o : Nat) (w : World) (cur : Array Value), w.heap[g]? = some (.cells cur t (0, 0)) →
    ∃ cur', (w.setCells g o vs).heap[g]? = some (.cells cur' t (0, 0)) ∧ cur'.size = cur.size ∧ (∀ j, j < o → cur'[j]? = cur[j]?) ∧ Out (fun i => i = g) w (w.setCells g o vs)
  | [], _, w, cur, h => ⟨cur, h, rfl, fun _ _ => rfl, Out.refl _ _⟩
  | v :: r, o, w, cur, h => by
    have e : (w.setCell ⟨g, o, none⟩ v).heap[g]? = some (.cells (cur.setIfInBounds o v) t (0, 0)) := by
      rw [setCell_eq_setRow _ g o cur t (0, 0) _ h]
      exact setRow_heap _ g cur _ t _ h
    obtain ⟨cur', h1, h2, h3, h4⟩ := setCells_row r (o + 1) _ _ e
    refine ⟨cur', h1, by simpa using h2, fun j hj => ?_, (Out.ofSet (F := fun i => i = g) w ⟨g, o, none⟩ v rfl).trans h4 (fun _ _ h => h)⟩
    rw [h3 j (by omega)]
    exact Array.getElem?_setIfInBounds_ne (by omega)
/-- The list without a number. -/
def dropN (l : List Nat) (k : Nat) : List Nat := l.filter (fun x => x ≠ k)
theorem mem_dropN (l : List Nat) (k x : Nat) : x ∈ dropN l k ↔ x ∈ l ∧ x ≠ k := by simp [dropN]
theorem dropN_len (l : List Nat) (k : Nat) : (dropN l k).length ≤ l.length := List.length_filter_le _ _
theorem dropN_none (l : List Nat) (k : Nat) (h : k ∉ l) : dropN l k = l := by
  unfold dropN
  rw [List.filter_eq_self]
  intro x hx
  simp
  rintro rfl
  exact h hx
theorem dropN_snoc (l : List Nat) (t k : Nat) (x : Nat) (h : l.take (t + 1) = l.take t ++ [x]) : dropN (l.take (t + 1)) k = dropN (l.take t) k ++ (if x = k then [] else [x]) := by
  rw [h]
  unfold dropN
  rw [List.filter_append]
  by_cases e : x = k <;> simp [e]
set_option maxHeartbeats 4000000 in
theorem deleteFunc_any {w : World} {g cap : Nat} {l : List Nat} (h : IRow w g cap l) (c k : Nat) (hc : w.cell? ⟨c, 0, none⟩ = some (.int .i64 k)) (hcg : c ≠ g) (hcs : c < w.heap.size) (hl : l.length ≤ 1000000) :
    Calls Try.prog 29 #[.slice (some ⟨g, 0, none⟩) l.length cap, .func (.func 30) #[] #[.pointer (some ⟨c, 0, none⟩)]] w fun e w' => e = .returned (.slice (some ⟨g, 0, none⟩) (dropN l k).length cap) ∧ IRow w' g cap (dropN l k) ∧ Out (fun i => i = g) w w' := by
  have HI := hideIt (indexFunc_any h c k hc hl)
  have hg := h.lt
  have hle := h.le.1
  have hmx := h.le.2
  unfold maxLen at hmx
  have HH := hideIt h
  have hcellw : ∀ w', Out (fun i => i = g) w w' → w'.cell? ⟨c, 0, none⟩ = some (.int .i64 k) := by
    intro w' ho
    rw [← hc]
    unfold World.cell?
    simp only
    rw [ho.block c hcs hcg]
  have HC := hideIt hcellw
  clear h hc hcellw
  go_enter Try.func29, Try.ntmps29
  go_wp2_with fail
  refine HI.out.mono ?_
  rintro e w1 ⟨⟨i, rfl, hi⟩, rfl⟩
  dsimp only
  rcases hi with ⟨rfl, hn⟩ | ⟨t, rfl, ht, hn, hx⟩
  · have e := dropN_none l k hn
    clear hn
    go_wp2
    go_ret
    rw [e]
    exact ⟨rfl, HH.out, Out.refl _ _⟩
  · have HN := hideIt hn
    have HX := hideIt hx
    clear hn hx HI
    have hne : ((t : Int) == -1) = false := beq_eq_false_iff_ne.2 (by omega)
    go_wp2
    go_loopw [5, 6] (fun s5 s6 wr => ∃ (i j : Nat), s5 = .int .i64 i ∧ s6 = .int .i64 j ∧ j ≤ l.length ∧ i < j ∧ Hid (Out (fun b => b = g) w1 wr ∧ i = (dropN (l.take j) k).length ∧ ∃ cur, wr.heap[g]? = some (.cells cur 3 (0, 0)) ∧ cur.size = cap ∧ cur.toList.take i = (dropN (l.take j) k).map iv ∧ ∀ m (hm : m < l.length), j ≤ m → cur[m]? = some (iv l[m]))) (fun _ s6 _ => l.length - (intOf s6).toNat)
    case atStart =>
      have e0 : dropN (l.take (t + 1)) k = l.take t := by
        have hx := HX.out
        obtain ⟨h1, h2⟩ := List.getElem?_eq_some_iff.1 hx
        rw [dropN_snoc l t k k (by rw [List.take_succ_eq_append_getElem h1, h2]), dropN_none _ _ HN.out]
        simp
      refine ⟨t, t + 1, rfl, by go_num, by omega, by omega, hideIt ⟨Out.refl _ _, ?_, ?_⟩⟩
      · rw [e0]; simp; omega
      · obtain ⟨cur, h1, h2, h3, h4, h5⟩ := HH.out
        refine ⟨cur, h1, h4, ?_, ?_⟩
        · rw [e0, List.map_take, ← h5, List.take_take]
          congr 1
          omega
        · intro m hm _
          have := HH.out.cell m hm
          rw [cell_at h1] at this
          exact this
    case round =>
      obtain ⟨i, j, rfl, rfl, hj, hij, HR⟩ := hrel
      by_cases hlt : j < l.length
      · obtain ⟨ho, hil, cur, hcur, hsz, htk, hrest⟩ := HR.out
        have HR2 := hideIt (And.intro ho (And.intro hil (And.intro hcur (And.intro hsz (And.intro htk hrest)))))
        have cj : wr.cell? ⟨g, j, none⟩ = some (.int .i64 (l[j] : Int)) := by rw [cell_at hcur]; exact hrest j hlt (Nat.le_refl _)
        have ci : ∃ v, wr.cell? ⟨g, i, none⟩ = some v := by
          rw [cell_at hcur]
          exact ⟨_, Array.getElem?_eq_getElem (by omega)⟩
        obtain ⟨old, ci⟩ := ci
        have fi := free_at hcur i
        have HT := hideIt (List.take_succ_eq_append_getElem hlt)
        have HE := hideIt (eq_any c l[j] k wr (HC.out wr ho))
        clear ho hil hcur hsz htk hrest HR
        generalize hxx : l[j] = x at *
        clear hxx
        by_cases he : x = k
        · subst he
          rw [beq_self_eq_true] at HE
          go_wp2_with fail
          refine HE.out.mono ?_
          rintro e w2 ⟨rfl, rfl⟩
          dsimp only
          go_wp2
          go_roundw
          case rel =>
            obtain ⟨ho, hil, hcur, hsz, htk, hrest⟩ := HR2.out
            have e2 : dropN (l.take (j + 1)) x = dropN (l.take j) x := by rw [dropN_snoc l j x x HT.out, if_pos rfl]; simp
            exact ⟨i, j + 1, rfl, by go_num, by omega, by omega, hideIt ⟨ho, by rw [e2]; exact hil, cur, hcur, hsz, by rw [e2]; exact htk, fun m hm hjm => hrest m hm (by omega)⟩⟩
          case measure => simp [intOf]; omega
        · have he' : ((x : Int) == (k : Int)) = false := beq_eq_false_iff_ne.2 (by omega)
          rw [he'] at HE
          go_wp2_with fail
          refine HE.out.mono ?_
          rintro e w2 ⟨rfl, rfl⟩
          dsimp only
          go_wp2
          go_roundw
          case rel =>
            obtain ⟨ho, hil, hcur, hsz, htk, hrest⟩ := HR2.out
            have e2 : dropN (l.take (j + 1)) k = dropN (l.take j) k ++ [x] := by rw [dropN_snoc l j k x HT.out, if_neg he]
            refine ⟨i + 1, j + 1, by go_num, by go_num, by omega, by omega, hideIt ⟨ho.trans (Out.ofSet (F := fun b => b = g) _ _ _ rfl) (fun _ _ h => h), ?_, cur.setIfInBounds i (iv x), ?_, by simpa using hsz, ?_, ?_⟩⟩
            · rw [e2]; simp [← hil]
            · rw [setCell_eq_setRow _ g i cur 3 (0, 0) _ hcur]
              exact setRow_heap _ g cur _ 3 _ hcur
            · rw [e2, List.map_append, ← htk]
              rw [List.take_succ_eq_append_getElem (by simp; omega)]
              simp
              apply List.ext_getElem?
              intro m
              rw [List.getElem?_take, List.getElem?_take]
              split
              · rw [List.getElem?_set_ne (by omega)]
              · rfl
            · intro m hm hjm
              rw [Array.getElem?_setIfInBounds_ne (by omega)]
              exact hrest m hm (by omega)
          case measure => simp [intOf]; omega
      · obtain ⟨ho, hil, cur, hcur, hsz, htk, hrest⟩ := HR.out
        have hjl : j = l.length := by omega
        subst hjl
        have hcl : ∀ ty, (Builtin.clear_ #[36] ty #[.slice (some ⟨g, i, none⟩) (l.length - i) (cap - i)]).run Try.prog wr = .ok (.tuple #[]) (wr.setCells g i (List.replicate (l.length - i) (.int .i64 0))) :=
          fun ty => Lib.run_clear_slice (P := Try.prog) wr 36 3 ty (.int .i64 0) Try.underlying36 Try.zeroValue3 rfl rfl g i _ _ (by omega) (fun t ht => by rw [cell_at hcur, Array.getElem?_eq_getElem (by omega)]; rfl) (fun t ht => free_at hcur _)
        have HR2 := hideIt (And.intro ho (And.intro hil (And.intro hcur (And.intro hsz htk))))
        clear ho hil hcur hsz htk hrest HR
        go_wp2
        go_ret
        obtain ⟨ho, hil, hcur, hsz, htk⟩ := HR2.out
        rw [List.take_length] at hil htk
        have := dropN_len l k
        obtain ⟨cur', h1, h2, h3, h4⟩ := setCells_row (List.replicate (l.length - i) (.int .i64 0)) i wr cur hcur
        refine ⟨by rw [← hil]; rfl, ⟨cur', h1, by omega, by unfold maxLen; omega, by omega, ?_⟩, ho.trans h4 (fun _ _ h => h)⟩
        rw [← htk, ← hil]
        apply List.ext_getElem?
        intro m
        rw [List.getElem?_take, List.getElem?_take]
        split
        · rename_i hm
          have := h3 m hm
          simpa using this
        · rfl
end Go.Proofs.Ytebinckkghmkhaa
