/- A peer of a transaction, and its lists, turned in place. -/
import Derived.Test.YtilinemcmgjiiaaDoorTu
import Derived.Test.YtilinemcmgjiiaaDoorAd
import Derived.Maps.AppendAt
namespace Go.Proofs.YtilinemcmgjiiaaDoor
open Go.RowKit
set_option linter.all false
theorem CelsOwn.ty {w : World} {B b j : Nat} {t : TypeId} {v u : Value} {cs : Array Value} {l : List CelX} (h : CelsOwn B w v l) (hb : w.heap[b]? = some (.cells cs t (0, 0))) (h1 : t ≠ 72) (h2 : t ≠ 121) (h3 : t ≠ 124) (h4 : t ≠ 81) : CelsOwn B (w.setCell ⟨b, j, none⟩ u) v l :=
  ⟨own_ty h.row hb h4, fun c hc => ⟨own_ty (h.own c hc).f hb h1, own_ty (h.own c hc).b hb h2, own_ty (h.own c hc).a hb h2, own_ty (h.own c hc).o hb h3, (h.own c hc).sf, (h.own c hc).sb, (h.own c hc).sa, (h.own c hc).so⟩, h.siz⟩
theorem TraOwn.peer {w : World} {B pb j : Nat} {u : Value} {cs : Array Value} {x : TraX} (h : TraOwn B w x) (hb : w.heap[pb]? = some (.cells cs 67 (0, 0))) (hne : (Value.slice x.pa x.ps.length x.pc).ownBlock ≠ some pb) : TraOwn B (w.setCell ⟨pb, j, none⟩ u) x :=
  ⟨own_setOther h.p hne, own_ty h.m hb (by decide), h.c.ty hb (by decide) (by decide) (by decide) (by decide), ⟨own_ty h.x.a hb (by decide), own_ty h.x.f hb (by decide), h.x.sa, h.x.sf⟩, h.sp, h.sm⟩
theorem TraOwn.peers {w : World} {B : Nat} {x : TraX} (h : TraOwn B w x) {j : Nat} (hj : j < x.ps.length) : ∃ pb cur, x.pa = some ⟨pb, 0, none⟩ ∧ B ≤ pb ∧ w.heap[pb]? = some (.cells cur 67 (0, 0)) ∧ ∀ f u, (peeE x.ps[j])[f]? = some u → w.cell? ⟨pb, j * 5 + f, none⟩ = some u := by
  have h0 := h.p
  obtain ⟨h1, ⟨e0, e1⟩ | ⟨g, cap, cur, hv, hb, hg, rest⟩⟩ := h.p
  · simp only [Value.slice.injEq] at e0; omega
  · simp only [Value.slice.injEq] at hv
    obtain ⟨e1, -, -⟩ := hv
    refine ⟨g, cur, e1, hb, hg, fun f u hu => ?_⟩
    have hf : f < 5 := (List.getElem?_eq_some_iff.1 hu).1
    have hc := h0.cells (g := g) (by rw [e1]; rfl) (j * 5 + f) u (by rw [celC_get peeK x.ps j hj f hf]; exact hu)
    rwa [addN, Nat.zero_add] at hc
theorem traE_same {x y : TraX} (h1 : y.c = x.c) (h2 : y.q = x.q) (h3 : y.r = x.r) (h4 : y.pa = x.pa) (h5 : y.ps.length = x.ps.length) (h6 : y.pc = x.pc) (h7 : y.st = x.st) (h8 : y.ma = x.ma) (h9 : y.am.length = x.am.length) (h10 : y.mc = x.mc) (h11 : y.ca = x.ca) (h12 : y.cx.length = x.cx.length) (h13 : y.cc = x.cc) (h14 : y.x = x.x) : traE y = traE x := by
  unfold traE
  rw [h1, h2, h3, h4, h5, h6, h7, h8, h9, h10, h11, h12, h13, h14]
theorem celC_id {α : Type} {enc : α → List Value} : ∀ (l : List α) (i : Nat) (y : α) (hi : i < l.length), enc y = enc l[i] → celC enc (l.set i y) = celC enc l
  | [], i, y, hi, _ => by simp at hi
  | x :: l, 0, y, hi, he => by
    have e1 : ∀ (z : α) (r : List α), celC enc (z :: r) = enc z ++ celC enc r := fun z r => by simp [celC]
    rw [List.set_cons_zero, e1, e1, he]; rfl
  | x :: l, i + 1, y, hi, he => by
    have e1 : ∀ (z : α) (r : List α), celC enc (z :: r) = enc z ++ celC enc r := fun z r => by simp [celC]
    rw [List.set_cons_succ, e1, e1, celC_id l i y (by simpa using hi) he]
/-- A peer is turned. -/
theorem TrsOwn.putPeer {B pb : Nat} {w : World} {v : Value} {ys : List TraX} (h : TrsOwn B w v ys) {i j f : Nat} (hi : i < ys.length) (hj : j < ys[i].ps.length) (hpa : ys[i].pa = some ⟨pb, 0, none⟩) {cs : Array Value} (hb : w.heap[pb]? = some (.cells cs 67 (0, 0))) (hf : f < 5) (u : Value) (p : PeeV) (he : peeE p = (peeE ys[i].ps[j]).set f u) : TrsOwn B (w.setCell ⟨pb, j * 5 + f, none⟩ u) v (ys.set i { ys[i] with ps := ys[i].ps.set j p }) := by
  have ho := h.own _ (List.getElem_mem hi)
  have hy : (Value.slice ys[i].pa ys[i].ps.length ys[i].pc).ownBlock = some pb := by rw [hpa]; rfl
  refine h.turn hi _ ?_ (fun k hk hne => ?_) ?_ (fun k hk hne => dj_same (h.djAt hi hk hne) rfl rfl rfl)
  · rw [celC_id ys i _ hi (traE_same (x := ys[i]) (y := { ys[i] with ps := ys[i].ps.set j p }) rfl rfl rfl rfl (List.length_set ..) rfl rfl rfl rfl rfl rfl rfl rfl rfl)]
    exact own_ty h.row hb (by decide)
  · exact (h.own _ (List.getElem_mem hk)).peer hb (fun e => (h.djAt hi hk hne).1 pb e hy)
  · have hp := ho.p
    rw [hpa] at hp
    refine ⟨?_, own_ty ho.m hb (by decide), ho.c.ty hb (by decide) (by decide) (by decide) (by decide), ⟨own_ty ho.x.a hb (by decide), own_ty ho.x.f hb (by decide), ho.x.sa, ho.x.sf⟩, by rw [List.length_set]; exact ho.sp, ho.sm⟩
    show (w.setCell ⟨pb, j * 5 + f, none⟩ u).ownsRow B 67 5 (.slice ys[i].pa (ys[i].ps.set j p).length ys[i].pc) (ys[i].ps.set j p).length (celC peeE (ys[i].ps.set j p))
    rw [List.length_set, hpa, ← celC_set peeK ys[i].ps j f u p hj hf he]
    exact own_put hp
/-- An append of a list that can be read, and where the row is then. -/
theorem appA {α : Type} {k bytes : Nat} {enc : α → List Value} {t e : TypeId} {z : Value} (hk : ∀ x, (enc x).length = k) (h1 : ∀ x, ∀ u ∈ enc x, u.oneCell' = true) (ht : Tryd.prog.underlying t = some (.slice e))
    (hi : (Tryd.prog.info? e).map (fun i => (i.zero, i.size, i.bytes)) = some (some z, k, bytes)) (hz : z.cells.size = k) (hk0 : 0 < k) (hb0 : 8 ≤ bytes) (w : World) (B : Nat) (v : Value) (xs l : List α) (a : Option Addr) (c : Nat) (hB : B ≤ w.heap.size)
    (ho : w.ownsRow B e k v xs.length (celC enc xs)) (hg : SGot k bytes enc w (.slice a l.length c) l) (hl : (xs.length + l.length) * bytes ≤ 140737488355328) :
    ∃ a' c' w', (Builtin.append_ #[t, t] t #[v, .slice a l.length c]).run Tryd.prog w = .ok (.slice a' (xs ++ l).length c') w' ∧ w'.ownsRow B e k (.slice a' (xs ++ l).length c') (xs ++ l).length (celC enc (xs ++ l)) ∧ w.grownBy w' v.ownBlock ∧ ((Value.slice a' (xs ++ l).length c').ownBlock = v.ownBlock ∨ (Value.slice a' (xs ++ l).length c').ownBlock = some w.heap.size) := by
  cases a with
  | none =>
    have h0 : l.length = 0 := by
      obtain ⟨_, a', c', e', _, hr⟩ := hg
      simp only [Value.slice.injEq] at e'
      rcases Nat.eq_zero_or_pos l.length with h0 | h0
      · exact h0
      · obtain ⟨b, off, hb, _⟩ := hr h0
        rw [← e'.1] at hb
        cases hb
    have hl0 : l = [] := List.length_eq_zero_iff.1 h0
    subst hl0
    obtain ⟨va, vc, rfl⟩ := own_len ho
    rw [List.append_nil]
    exact ⟨va, vc, w, app_none ht hi w B _ _ _ ho c, ho, World.grownBy.refl _ _, .inl rfl⟩
  | some b =>
    obtain ⟨i, hi, hz0, hz1, hz2⟩ := info_parts hi
    have hm : xs.length + l.length ≤ maxLen := by
      have : (xs.length + l.length) * 8 ≤ (xs.length + l.length) * bytes := Nat.mul_le_mul_left _ hb0
      unfold maxLen
      omega
    obtain ⟨h8, a', c', e', _, hr⟩ := hg
    simp only [Value.slice.injEq] at e'
    obtain ⟨v', w', r1, r2, r3, -, r4⟩ := run_append_own_at (P := Tryd.prog) w B t t e i _ k bytes ht hi hz0 hz1 hz2 hz hk0 v xs.length (celC enc xs) ho b l.length c (celC enc l) (celC_len hk l) (fun j u hu => by
      have hj := (List.getElem?_eq_some_iff.1 hu).1
      rw [celC_len hk] at hj
      have hp : 0 < l.length := by
        rcases Nat.eq_zero_or_pos l.length with h0 | h0
        · rw [h0] at hj
          omega
        · exact h0
      obtain ⟨b', off, hb, _, hc⟩ := hr hp
      have : b = ⟨b', off, none⟩ := by
        have := e'.1.trans hb
        simpa using this
      rw [this, addN, hc j hj, hu]) (celC_one h1 l) hm hl hB
    rw [← celC_app, ← List.length_append] at r2
    obtain ⟨va, vc, rfl⟩ := own_len r2
    exact ⟨va, vc, w', r1, r2, r3, r4⟩
theorem own_lt {w : World} {B n z k : Nat} {e : TypeId} {v : Value} {xs : List Value} (h : w.ownsRow B e z v n xs) (hk : v.ownBlock = some k) : k < w.heap.size := by
  obtain ⟨h1, ⟨rfl, _⟩ | ⟨g, cap, cur, rfl, hb, hg, rest⟩⟩ := h
  · cases hk
  · simp only [Value.ownBlock] at hk
    cases hk
    exact (Array.getElem?_eq_some_iff.1 hg).1
/-- Cells are appended to a transaction's, in place. -/
theorem TrsOwn.putCells {B b n c : Nat} {w w' : World} {ys : List TraX} (h : TrsOwn B w (.slice (some ⟨b, 0, none⟩) n c) ys) {i : Nat} (hi : i < ys.length) (zs : List CelX) (a' : Option Addr) (c' : Nat) (hz : ∀ x ∈ zs, CelOwn B w x)
    (how : w'.ownsRow B 81 10 (.slice a' (ys[i].cx ++ zs).length c') (ys[i].cx ++ zs).length (celC celE (ys[i].cx ++ zs))) (hgr : w.grownBy w' (Value.slice ys[i].ca ys[i].cx.length ys[i].cc).ownBlock)
    (hat : (Value.slice a' (ys[i].cx ++ zs).length c').ownBlock = (Value.slice ys[i].ca ys[i].cx.length ys[i].cc).ownBlock ∨ (Value.slice a' (ys[i].cx ++ zs).length c').ownBlock = some w.heap.size) (hs : (ys[i].cx.length + zs.length) * 144 ≤ 140737488355328) :
    TrsOwn B (w'.setCell ⟨b, i * 21 + 16, none⟩ (.slice a' (ys[i].cx ++ zs).length c')) (.slice (some ⟨b, 0, none⟩) n c) (ys.set i { ys[i] with cx := ys[i].cx ++ zs, ca := a', cc := c' }) := by
  have ho := h.own _ (List.getElem_mem hi)
  obtain ⟨cur, hg, hb, hn⟩ := h.blk
  have hg' : w'.heap[b]? = some (.cells cur 52 (0, 0)) := box_type hgr ho.c.row hg (by decide)
  refine h.turn hi _ ?_ (fun k hk hne => ?_) ?_ (fun k hk hne => ?_)
  · rw [← celC_set traK ys i 16 (.slice a' (ys[i].cx ++ zs).length c') _ hi (by omega) rfl]
    exact own_put (own_kept hgr ho.c.row h.row (by decide))
  · have hk1 := h.own _ (List.getElem_mem hk)
    refine TraOwn.ty (t := 52) ⟨own_kept hgr ho.c.row hk1.p (by decide), own_kept hgr ho.c.row hk1.m (by decide), ⟨own_apart hgr hk1.c.row (fun g e1 e2 => (h.djAt hi hk hne).2.1 g e1 e2), fun x hx => (hk1.c.own x hx).kept hgr ho.c.row (by decide) (by decide) (by decide), hk1.c.siz⟩, hk1.x.kept hgr ho.c.row (by decide) (by decide), hk1.sp, hk1.sm⟩ hg' (by unfold noT; decide)
  · refine TraOwn.ty (t := 52) ⟨own_kept hgr ho.c.row ho.p (by decide), own_kept hgr ho.c.row ho.m (by decide), ⟨how, fun x hx => ?_, by rw [List.length_append]; exact hs⟩, ho.x.kept hgr ho.c.row (by decide) (by decide), ho.sp, ho.sm⟩ hg' (by unfold noT; decide)
    rcases List.mem_append.1 hx with hx | hx
    · exact (ho.c.own x hx).kept hgr ho.c.row (by decide) (by decide) (by decide)
    · exact (hz x hx).kept hgr ho.c.row (by decide) (by decide) (by decide)
  · have hd := h.djAt hi hk hne
    refine ⟨hd.1, fun g e1 e2 => ?_, hd.2.2⟩
    rcases hat with e | e
    · exact hd.2.1 g e1 (e.symm.trans e2)
    · have := own_lt (h.own _ (List.getElem_mem hk)).c.row e1
      rw [e2] at e
      cases e
      omega
/-- Fills are appended to those of a transaction's answer, in place. -/
theorem TrsOwn.putFills {B b n c : Nat} {w w' : World} {ys : List TraX} (h : TrsOwn B w (.slice (some ⟨b, 0, none⟩) n c) ys) {i : Nat} (hi : i < ys.length) (zs : List FilV) (a' : Option Addr) (c' : Nat)
    (how : w'.ownsRow B 146 4 (.slice a' (ys[i].x.v.fl ++ zs).length c') (ys[i].x.v.fl ++ zs).length (celC filE (ys[i].x.v.fl ++ zs))) (hgr : w.grownBy w' ys[i].x.fl.ownBlock)
    (hat : (Value.slice a' (ys[i].x.v.fl ++ zs).length c').ownBlock = ys[i].x.fl.ownBlock ∨ (Value.slice a' (ys[i].x.v.fl ++ zs).length c').ownBlock = some w.heap.size) (hs : (ys[i].x.v.fl.length + zs.length) * 32 ≤ 140737488355328) :
    TrsOwn B (w'.setCell ⟨b, i * 21 + 20, none⟩ (.slice a' (ys[i].x.v.fl ++ zs).length c')) (.slice (some ⟨b, 0, none⟩) n c) (ys.set i { ys[i] with x := { ys[i].x with v := { ys[i].x.v with fl := ys[i].x.v.fl ++ zs }, fa := a', fc := c' } }) := by
  have ho := h.own _ (List.getElem_mem hi)
  obtain ⟨cur, hg, hb, hn⟩ := h.blk
  have hg' : w'.heap[b]? = some (.cells cur 52 (0, 0)) := box_type hgr ho.x.f hg (by decide)
  refine h.turn hi _ ?_ (fun k hk hne => ?_) ?_ (fun k hk hne => ?_)
  · rw [← celC_set traK ys i 20 (.slice a' (ys[i].x.v.fl ++ zs).length c') _ hi (by omega) rfl]
    exact own_put (own_kept hgr ho.x.f h.row (by decide))
  · have hk1 := h.own _ (List.getElem_mem hk)
    refine TraOwn.ty (t := 52) ⟨own_kept hgr ho.x.f hk1.p (by decide), own_kept hgr ho.x.f hk1.m (by decide), ⟨own_kept hgr ho.x.f hk1.c.row (by decide), fun x hx => (hk1.c.own x hx).kept hgr ho.x.f (by decide) (by decide) (by decide), hk1.c.siz⟩, ⟨own_kept hgr ho.x.f hk1.x.a (by decide), own_apart hgr hk1.x.f (fun g e1 e2 => (h.djAt hi hk hne).2.2 g e1 e2), hk1.x.sa, hk1.x.sf⟩, hk1.sp, hk1.sm⟩ hg' (by unfold noT; decide)
  · exact TraOwn.ty (t := 52) ⟨own_kept hgr ho.x.f ho.p (by decide), own_kept hgr ho.x.f ho.m (by decide), ⟨own_kept hgr ho.x.f ho.c.row (by decide), fun x hx => (ho.c.own x hx).kept hgr ho.x.f (by decide) (by decide) (by decide), ho.c.siz⟩, ⟨own_kept hgr ho.x.f ho.x.a (by decide), how, ho.x.sa, by rw [List.length_append]; exact hs⟩, ho.sp, ho.sm⟩ hg' (by unfold noT; decide)
  · have hd := h.djAt hi hk hne
    refine ⟨hd.1, hd.2.1, fun g e1 e2 => ?_⟩
    rcases hat with e | e
    · exact hd.2.2 g e1 (e.symm.trans e2)
    · have := own_lt (h.own _ (List.getElem_mem hk)).x.f e1
      have e3 := e.symm.trans e2
      cases e3
      omega
end Go.Proofs.YtilinemcmgjiiaaDoor
