/- What a disk's own put leaves: the segment in the place of what it was, and what is used. -/
import Derived.Test.YtpgimffghaelhaaMiss
namespace Go.Proofs.Ytpgimffghaelhaa
open Go.RowKit Go.Maps

def upd (f : Nat → Nat) (k v : Nat) : Nat → Nat := fun i => if i = k then v else f i
theorem field72 (a : Option Addr) (n c : Nat) (s : Int) (w : World) : (Instr.field 72 (Value.agg #[Value.slice a n c, Value.int IntKind.i64 s]) 0).run Try.prog w = .ok (.slice a n c) w := by kernel_rfl
/-- Behind the first part of put: what is used is written, all else is as it was. -/
def Mid (w X : World) (p : Nat) (cs : Array Value) (u : Int) : Prop := Out (fun b => b = p) w X ∧ X.heap[p]? = some (.cells (cs.setIfInBounds 1 (.int .i64 u)) 64 (0, 0))
theorem mid_of (w : World) (p : Nat) (cs : Array Value) (u : Int) (o : Obj) (h : w.heap[p]? = some (.cells cs 64 (0, 0))) : Mid w ((w.alloc o).setCell ⟨p, 1, none⟩ (.int .i64 u)).drew p cs u := by
  have hp : p < w.heap.size := (Array.getElem?_eq_some_iff.1 h).1
  have h1 : (w.alloc o).heap[p]? = some (.cells cs 64 (0, 0)) := (Lib.alloc_old w o p hp).trans h
  refine ⟨((Out.ofAlloc w o).trans (Out.ofSet (F := fun b => b = p) _ ⟨p, 1, none⟩ _ rfl) (fun _ _ h => h)).trans (Out.ofDrew _) (fun _ _ h => h), ?_⟩
  show ((w.alloc o).setCell ⟨p, 1, none⟩ (.int .i64 u)).heap[p]? = _
  rw [setCell_eq_setRow _ p 1 cs 64 (0, 0) _ h1]
  exact setRow_heap _ p cs _ 64 _ h1
set_option maxHeartbeats 4000000 in
set_option maxRecDepth 100000 in
theorem put_walk (w : World) (p mb k len c sf g used len0 n : Nat) (a0 : Option Addr) (c0 : Nat) (s0 : Int) (cs : Array Value) (D : DataW Value) (hcs : w.heap[p]? = some (.cells cs 64 (0, 0))) (hpm : p ≠ mb)
    (k1 : cs[1]? = some (.int .i64 (used : Int))) (k2 : cs[2]? = some (.map (some mb))) (hown : w.ownsMap Try.prog 3 heldR mb n D) (hn : n ≤ 1000) (hk : k < 1000)
    (hl : ∀ W : World, W.heap[mb]? = w.heap[mb]? → (Instr.lookup 55 (.map (some mb)) (.int .i64 (k : Int)) false).run Try.prog W = .ok (.agg #[.slice a0 len0 c0, .int .i64 s0]) W)
    (hs1 : used + len < 9223372036854775807) (hs2 : len0 < 9223372036854775807) :
    Calls Try.prog 48 #[.pointer (some ⟨p, 0, none⟩), .int .i64 (k : Int), .agg #[.slice (some ⟨g, 0, none⟩) len c, .int .i64 (sf : Int)]] w fun e w' => e = .returned (.tuple #[]) ∧ ∃ X m, Mid w X p cs ((used : Int) + len - len0) ∧
      X.mapTurned w' mb ∧ (len = 0 → w'.ownsMap Try.prog 3 heldR mb m (D.del (keyL k))) ∧ (len ≠ 0 → w'.ownsMap Try.prog 3 heldR mb m (D.put (keyL k) (.held (.agg #[.slice (some ⟨g, 0, none⟩) len c, .int .i64 (sf : Int)])))) := by
  have hp : p < w.heap.size := (Array.getElem?_eq_some_iff.1 hcs).1
  have hm := hown.lt
  have c1 : w.cell? ⟨p, 1, none⟩ = some (.int .i64 (used : Int)) := by rw [cell_at hcs]; exact k1
  have c2 : w.cell? ⟨p, 2, none⟩ = some (.map (some mb)) := by rw [cell_at hcs]; exact k2
  have f1 := free_at hcs 1
  have e1 : ((used : Int) + ((len : Int) - (len0 : Int))) = ((used : Int) + len - len0) := by omega
  have hkey : keyOf Try.prog 3 (.int .i64 (k : Int)) = some (keyL k) := keyOf_int_mk Try.underlying3 (wf64 _ (by omega) (by omega))
  have hmid := mid_of w p cs ((used : Int) + len - len0) (Obj.cells #[Value.slice (some ⟨g, 0, none⟩) len c, .int .i64 (sf : Int)] 72) hcs
  have hcz : ∀ (z : World), (w.alloc (Obj.cells #[Value.slice (some ⟨g, 0, none⟩) len c, .int .i64 (sf : Int)] 72)).setCell ⟨p, 1, none⟩ (.int .i64 ((used : Int) + len - len0)) = z → z.cell? ⟨w.heap.size, 0, none⟩ = some (Value.slice (some ⟨g, 0, none⟩) len c) ∧ z.cell? ⟨w.heap.size, 1, none⟩ = some (.int .i64 (sf : Int)) := by
    intro z hz
    have hne : p ≠ w.heap.size := by omega
    subst hz
    constructor
    · rw [World.cell?_of_block (RowKit.Below.heap_setCell _ _ _ _ (by simpa using Ne.symm hne))]; simp
    · rw [World.cell?_of_block (RowKit.Below.heap_setCell _ _ _ _ (by simpa using Ne.symm hne))]; simp
  have hX2' : ((w.alloc (Obj.cells #[Value.slice (some ⟨g, 0, none⟩) len c, .int .i64 (sf : Int)] 72)).setCell ⟨p, 1, none⟩ (.int .i64 ((used : Int) + len - len0))).drew.cell? ⟨p, 2, none⟩ = some (.map (some mb)) := by
    rw [cell_at hmid.2]
    simpa using k2
  have hXm : ((w.alloc (Obj.cells #[Value.slice (some ⟨g, 0, none⟩) len c, .int .i64 (sf : Int)] 72)).setCell ⟨p, 1, none⟩ (.int .i64 ((used : Int) + len - len0))).drew.heap[mb]? = w.heap[mb]? := hmid.1.block mb hm (fun e => hpm e.symm)
  have hW := hl (w.alloc (Obj.cells #[Value.slice (some ⟨g, 0, none⟩) len c, .int .i64 (sf : Int)] 72)).drew (Lib.alloc_old w _ mb hm)
  have d1 : (w.alloc (Obj.cells #[Value.slice (some ⟨g, 0, none⟩) len c, .int .i64 (sf : Int)] 72)).cell? ⟨p, 1, none⟩ = some (.int .i64 (used : Int)) := Lib.cell?_alloc_some _ c1
  have d2 : (w.alloc (Obj.cells #[Value.slice (some ⟨g, 0, none⟩) len c, .int .i64 (sf : Int)] 72)).cell? ⟨p, 2, none⟩ = some (.map (some mb)) := Lib.cell?_alloc_some _ c2
  have d3 : (w.alloc (Obj.cells #[Value.slice (some ⟨g, 0, none⟩) len c, .int .i64 (sf : Int)] 72)).frozen? ⟨p, 1, none⟩ = false := by
    rw [World.frozen?_of_block (Lib.alloc_old w _ p hp)]; exact f1
  have d4 : (w.alloc (Obj.cells #[Value.slice (some ⟨g, 0, none⟩) len c, .int .i64 (sf : Int)] 72)).cell? ⟨w.heap.size, 0, none⟩ = some (Value.slice (some ⟨g, 0, none⟩) len c) := by simp
  have ho1 : ((w.alloc (Obj.cells #[Value.slice (some ⟨g, 0, none⟩) len c, .int .i64 (sf : Int)] 72)).setCell ⟨p, 1, none⟩ (.int .i64 ((used : Int) + len - len0))).drew.ownsMap Try.prog 3 heldR mb n D := ownsMap_block hown hXm
  obtain ⟨hz0', hz1'⟩ := hcz _ rfl
  have hz0 : ((w.alloc (Obj.cells #[Value.slice (some ⟨g, 0, none⟩) len c, .int .i64 (sf : Int)] 72)).setCell ⟨p, 1, none⟩ (.int .i64 ((used : Int) + len - len0))).drew.cell? ⟨w.heap.size, 0, none⟩ = some (Value.slice (some ⟨g, 0, none⟩) len c) := hz0'
  have hz1 : ((w.alloc (Obj.cells #[Value.slice (some ⟨g, 0, none⟩) len c, .int .i64 (sf : Int)] 72)).setCell ⟨p, 1, none⟩ (.int .i64 ((used : Int) + len - len0))).drew.cell? ⟨w.heap.size, 1, none⟩ = some (.int .i64 (sf : Int)) := hz1'
  clear hz0' hz1'
  have HM := hideIt hmid
  have HO := hideIt ho1
  clear hl c1 c2 f1 ho1 hXm hcz hmid k1 k2 hown hcs
  have hX2 := hX2'
  clear hX2'
  by_cases hz : len = 0
  · have hz' : ((len : Int) == 0) = true := beq_iff_eq.2 (by omega)
    have Hz := hideIt hz
    clear hz
    go_enter Try.func48, Try.ntmps48
    go_wp2
    generalize (w.alloc (Obj.cells #[Value.slice (some ⟨g, 0, none⟩) len c, .int .i64 (sf : Int)] 72)) = W at *
    generalize hsz : w.heap.size = z at *
    have hfd := field72 a0 len0 c0 s0 W.drew
    go_region
    clear hW d1 d2 d3 d4 hfd
    obtain ⟨w2, hrun, hown2, hturn⟩ := HO.out.drop (int_keyed Try.underlying3) Try.underlying55 hkey 0
    have HT := hideIt hturn
    have HO2 := hideIt hown2
    clear hturn hown2
    generalize (W.setCell ⟨p, 1, none⟩ (.int .i64 ((used : Int) + len - len0))).drew = X at *
    go_wp2
    (try simp only [Exit.inBlock, Exit.then])
    refine bodyPost_ret (results_none rfl _ _ _) rfl ?_
    exact ⟨rfl, X, n, HM.out, HT.out, fun _ => HO2.out, fun h => absurd Hz.out h⟩
  · have hz' : ((len : Int) == 0) = false := beq_eq_false_iff_ne.2 (by omega)
    have Hz := hideIt hz
    clear hz
    go_enter Try.func48, Try.ntmps48
    go_wp2
    generalize (w.alloc (Obj.cells #[Value.slice (some ⟨g, 0, none⟩) len c, .int .i64 (sf : Int)] 72)) = W at *
    generalize hsz : w.heap.size = z at *
    have hfd := field72 a0 len0 c0 s0 W.drew
    go_region
    clear hW d1 d2 d3 d4 hfd
    obtain ⟨w2, hrun, hown2, hturn⟩ := HO.out.drew.store (int_keyed Try.underlying3) Try.underlying55 (by unfold maxLen; omega) (val := .agg #[Value.slice (some ⟨g, 0, none⟩) len c, .int .i64 (sf : Int)]) hkey (d := .held (.agg #[Value.slice (some ⟨g, 0, none⟩) len c, .int .i64 (sf : Int)])) (ps := []) rfl
    have HT := hideIt hturn
    have HO2 := hideIt hown2
    clear hturn hown2
    generalize (W.setCell ⟨p, 1, none⟩ (.int .i64 ((used : Int) + len - len0))).drew = X at *
    go_wp2
    go_region
    go_wp2
    go_end0
    exact ⟨rfl, X.drew, n + 1, ⟨HM.out.1.trans (Out.ofDrew _) (fun _ _ h => h), HM.out.2⟩, HT.out, fun h => absurd h Hz.out, fun _ => HO2.out⟩

/-- What a map keeps, key by key, behind a store or a strike. -/
theorem core_put {w w' : World} {F : Nat → Prop} {p mb k : Nat} {cs cs' : Array Value} {f : Nat → Seg} {rb cp : Nat → Nat} {D D' : DataW Value} (h : Core w F p mb cs f rb cp D) (hk : k < 1000) (bs : List UInt8) (sf g c : Nat)
    (hcs : w'.heap[p]? = some (.cells cs' 64 (0, 0))) (hout : Out (fun b => b = p ∨ b = mb) w w') (hown : w'.ownsMap Try.prog 3 heldR mb (Maps.size D') D')
    (hR : Row w g c bs) (hF : F g) (hgp : g ≠ p) (hgm : g ≠ mb) (hap : ∀ j, j < 1000 → j ≠ k → (f j).bytes ≠ [] → rb j ≠ g)
    (hsame : bs ≠ [] → ∀ z, D'.atKey (keyL k) z = .held (.agg #[.slice (some ⟨g, 0, none⟩) bs.length c, .int .i64 (sf : Int)])) (hnone : bs = [] → ∀ z, D'.atKey (keyL k) z = z)
    (hother : ∀ x : Int, x ≠ k → ∀ z, D'.atKey (keyL x) z = D.atKey (keyL x) z) : Core w' F p mb cs' (put f k ⟨bs, sf⟩) (upd rb k g) (upd cp k c) D' := by
  have keepR : ∀ g' c' l, Row w g' c' l → g' ≠ p → g' ≠ mb → Row w' g' c' l := fun g' c' l hr h1 h2 => hr.keep (hout.block g' hr.lt (fun e => e.elim h1 h2))
  refine ⟨hcs, hown, fun j hj hne z => ?_, fun x hx z => ?_, fun j hj hne => ?_, fun i j hi hj hij hni hnj => ?_, h.inp, h.inm, h.pm⟩
  · by_cases e : j = k
    · subst e
      rw [put_same] at hne
      rw [hsame hne]
      simp [segV, put_same, upd]
    · rw [put_other f k j _ e] at hne
      rw [hother _ (by omega), h.hit j hj hne]
      simp [segV, put_other f k j _ e, upd, e]
  · by_cases e : x = (k : Int)
    · subst e
      have := hx k hk rfl
      rw [put_same] at this
      exact hnone this z
    · rw [hother x e]
      refine h.miss x (fun j hj ej => ?_) z
      have := hx j hj ej
      rwa [put_other f k j _ (by omega)] at this
  · by_cases e : j = k
    · subst e
      simp only [upd, if_true, put_same]
      exact ⟨keepR _ _ _ hR hgp hgm, hF, hgp, hgm⟩
    · rw [put_other f k j _ e] at hne ⊢
      obtain ⟨r1, r2, r3, r4⟩ := h.rows j hj hne
      simp only [upd, e, if_false]
      exact ⟨keepR _ _ _ r1 r3 r4, r2, r3, r4⟩
  · by_cases e : i = k
    · subst e
      rw [put_other f i j _ (Ne.symm hij)] at hnj
      simp only [upd, if_true, if_neg (Ne.symm hij)]
      exact fun e2 => hap j hj (Ne.symm hij) hnj e2.symm
    · rw [put_other f k i _ e] at hni
      by_cases e2 : j = k
      · subst e2
        simp only [upd, if_true, if_neg e]
        exact hap i hi e hni
      · rw [put_other f k j _ e2] at hnj
        simp only [upd, if_neg e, if_neg e2]
        exact h.apart i j hi hj hij hni hnj
theorem put_any {w : World} {F : Nat → Prop} {p mb k room used : Nat} {ch : Int} {fs : Bool} {ff fm : Int} {age : Nat} {f : Nat → Seg} {rb cp : Nat → Nat} {D : DataW Value} (h : Core w F p mb (fields room used mb ch fs ff fm age) f rb cp D) (hk : k < 1000) (bs : List UInt8) (sf g c : Nat)
    (hR : Row w g c bs) (hF : F g) (hgp : g ≠ p) (hgm : g ≠ mb) (hap : ∀ j, j < 1000 → j ≠ k → (f j).bytes ≠ [] → rb j ≠ g) (hu : used = tot f 1000) (hb : tot f 1000 + bs.length < 4611686018427387904) :
    Calls Try.prog 48 #[.pointer (some ⟨p, 0, none⟩), .int .i64 (k : Int), .agg #[.slice (some ⟨g, 0, none⟩) bs.length c, .int .i64 (sf : Int)]] w fun e w' => e = .returned (.tuple #[]) ∧
      ∃ D', Core w' F p mb (fields room (tot (put f k ⟨bs, sf⟩) 1000) mb ch fs ff fm age) (put f k ⟨bs, sf⟩) (upd rb k g) (upd cp k c) D' ∧ Out (fun b => b = p ∨ b = mb) w w' := by
  have ht := tot_put f k ⟨bs, sf⟩ 1000 hk
  have h1 := tot_one f k 1000 hk
  simp only at ht
  have hlook : ∃ (a0 : Option Addr) (len0 c0 : Nat) (s0 : Int), len0 = (f k).bytes.length ∧ ∀ W : World, W.heap[mb]? = w.heap[mb]? → (Instr.lookup 55 (.map (some mb)) (.int .i64 (k : Int)) false).run Try.prog W = .ok (.agg #[.slice a0 len0 c0, .int .i64 s0]) W := by
    by_cases hne : (f k).bytes = []
    · exact ⟨none, 0, 0, 0, by simp [hne], fun W hW => look_miss h k (wf64 _ (by omega) (by omega)) (fun j hj e => (show k = j by omega) ▸ hne) W hW⟩
    · exact ⟨_, _, _, _, rfl, fun W hW => look_hit h k hk hne W hW⟩
  obtain ⟨a0, len0, c0, s0, hl0, hl⟩ := hlook
  refine (put_walk w p mb k bs.length c sf g used len0 _ a0 c0 s0 _ D h.cells h.pm rfl rfl h.map h.size hk hl (by omega) (by omega)).mono ?_
  rintro e w' ⟨rfl, X, m, hmid, hturn, hdel, hput⟩
  have hpX := hmid.2
  have hgr := hturn.grown
  have hout : Out (fun b => b = p ∨ b = mb) w w' := (hmid.1.mono (fun _ => .inl)).trans (Out.ofGrown (F := fun b => b = mb) hgr (fun k e => by simpa using e.symm)) (fun i _ e => .inr e)
  have hp2 : w'.heap[p]? = some (.cells (fields room (tot (put f k ⟨bs, sf⟩) 1000) mb ch fs ff fm age) 64 (0, 0)) := by
    rw [hgr.block p (Array.getElem?_eq_some_iff.1 hpX).1 (by simpa using h.pm), hpX]
    have e : (used : Int) + bs.length - len0 = ((tot (put f k ⟨bs, sf⟩) 1000 : Nat) : Int) := by omega
    rw [e]
    rfl
  refine ⟨rfl, ?_⟩
  have hne : ∀ x : Int, x ≠ k → keyL x ≠ keyL k := fun x hx e => hx (by simpa [keyL] using e)
  by_cases hz : bs.length = 0
  · have hb0 : bs = [] := List.eq_nil_of_length_eq_zero hz
    exact ⟨_, core_put h hk bs sf g c hp2 hout (ownsMap_tight (hdel hz)) hR hF hgp hgm hap (fun hn => absurd hb0 hn) (fun _ z => atKey_del_same z) (fun x hx z => atKey_del_other (hne x hx) z), hout⟩
  · exact ⟨_, core_put h hk bs sf g c hp2 hout (ownsMap_tight (hput hz)) hR hF hgp hgm hap (fun _ z => atKey_put_same h.map.isMap (show WideAt.IsKeyLit (keyL (k : Int)) from trivial) _ z) (fun hn => absurd (by rw [hn]; rfl) hz) (fun x hx z => atKey_put_other (hne x hx) _ z), hout⟩
end Go.Proofs.Ytpgimffghaelhaa
