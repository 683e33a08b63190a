/- What is written is read again: the plain mathematics of P5.1. -/
import Derived.Test.YtagfolckodpioaaEnc
import Derived.Test.YtagfolckodpioaaDec
namespace Go.Proofs.Ytagfolckodpioaa
open Go.RowKit

theorem endB_yes (i b : Nat) (h : i = 0 ∨ (b ≠ 0 ∧ (i < 9 ∨ b ≤ 1))) : endB i b = true := by
  rcases h with rfl | ⟨h1, h2⟩
  · rfl
  · have e : (b != 0) = true := by simp; omega
    unfold endB
    rw [e]
    rcases h2 with h2 | h2 <;> simp [h2]
theorem ofNat_toNat (n : Nat) (h : n < 256) : (UInt8.ofNat n).toNat = n := UInt8.toNat_ofNat_of_lt' (by simpa using h)
theorem room_top (m : Nat) (h : room 9 m) : m ≤ 1 := by
  unfold room at h
  have e : (128 : Nat) ^ 9 = 9223372036854775808 := by decide
  rw [e] at h
  omega
theorem rd_uform (f i acc m : Nat) (rest : List UInt8) (hf : f + i = 9) (hr : room i m) (h0 : i = 0 ∨ m ≠ 0) :
    rd (f + 1) i acc (uform f m ++ rest) = (acc + m * 128 ^ i, i + (uform f m).length, 0) := by
  induction f generalizing i acc m with
  | zero =>
    have e : i = 9 := by omega
    subst e
    have h1 := room_top m hr
    rw [uform_small 0 m (by omega)]
    rw [List.cons_append, rd_yes _ _ _ _ _ (by rw [ofNat_toNat _ (by omega)]; omega) (by rw [ofNat_toNat _ (by omega)]; exact endB_yes 9 m (.inr ⟨by omega, .inr h1⟩)), ofNat_toNat _ (by omega)]
    rfl
  | succ f ih =>
    by_cases hm : m < 128
    · rw [uform_small _ m hm]
      rw [List.cons_append, rd_yes _ _ _ _ _ (by rw [ofNat_toNat _ (by omega)]; omega) (by rw [ofNat_toNat _ (by omega)]; exact endB_yes i m (by omega)), ofNat_toNat _ (by omega)]
      rfl
    · rw [uform_big f m (by omega), List.cons_append, rd_more _ _ _ _ _ (by rw [ofNat_toNat _ (by omega)]; omega), ofNat_toNat _ (by omega)]
      rw [ih (i + 1) _ (m / 128) (by omega) (room_step i m hr) (.inr (by omega))]
      have e1 : (128 + m % 128) % 128 = m % 128 := by omega
      have e2 : acc + m % 128 * 128 ^ i + m / 128 * 128 ^ (i + 1) = acc + m * 128 ^ i := by
        rw [Nat.pow_succ, Nat.mul_comm (128 ^ i) 128, ← Nat.mul_assoc, Nat.add_assoc, ← Nat.add_mul]
        congr 2
        omega
      rw [e1, e2]
      simp
      omega
theorem rd_back (n : Nat) (rest : List UInt8) (h : n < 18446744073709551616) : rd 10 0 0 (uintL n ++ rest) = (n, (uintL n).length, 0) := by
  have := rd_uform 9 0 0 n rest (by omega) (room_zero n h) (.inl rfl)
  simpa [uintL] using this
theorem tkU_back (pre rest : List UInt8) (n : Nat) (h : n < 18446744073709551616) : tkU (pre ++ (uintL n ++ rest)) (pre.length : Int) = (n, pre.length + (uintL n).length, 0) := by
  rw [tkU_in _ _ (by simp), List.drop_left, rd_back n rest h]
  rfl
theorem tkT_back (pre rest t : List UInt8) (h : t.length ≤ 60000) : tkT (pre ++ (textL t ++ rest)) (pre.length : Int) = (t, pre.length + (textL t).length, 0) := by
  have e : textL t = uintL t.length ++ t := by unfold textL; rw [if_pos h]
  rw [e, List.append_assoc]
  have hu := tkU_back pre (t ++ rest) t.length (by omega)
  rw [tkT_yes _ _ hu (by omega) (by simp; omega)]
  have e1 : (pre ++ (uintL t.length ++ (t ++ rest))).drop (pre.length + (uintL t.length).length) = t ++ rest := by
    rw [← List.append_assoc, show pre.length + (uintL t.length).length = (pre ++ uintL t.length).length by simp, List.drop_left]
  rw [e1, List.take_left]
  simp
  omega
/-- A number that stands behind pre is read. -/
theorem rnum_at {l pre rest : List UInt8} {n : Nat} (h : l = pre ++ (uintL n ++ rest)) (hn : n ≤ 1000000) : rnum l (pre.length, true) = (n, ((pre ++ uintL n).length, true)) := by
  subst h
  unfold rnum
  rw [tkU_back pre rest n (by omega)]
  simp [hn]
theorem rnumI_at {l pre rest : List UInt8} {x : Int} (h : l = pre ++ (uI x ++ rest)) (h0 : 0 ≤ x) (hn : x ≤ 1000000) : rnum l (pre.length, true) = (x.toNat, ((pre ++ uI x).length, true)) := rnum_at h (by omega)
theorem rpiece_at {l pre rest t : List UInt8} (h : l = pre ++ (textL t ++ rest)) (ht : t.length ≤ 60000) : rpiece l (pre.length, true) = (t, ((pre ++ textL t).length, true)) := by
  subst h
  unfold rpiece
  rw [tkT_back pre rest t ht]
  simp
theorem rspot_at {l pre rest : List UInt8} {x y : Int} (h : l = pre ++ ((uI x ++ uI y) ++ rest)) (hx : wiB x 0 1000000 = true) (hy : wiB y 0 1000000 = true) : rspot l (pre.length, true) = ((x.toNat, y.toNat), ((pre ++ (uI x ++ uI y)).length, true)) := by
  rw [wiB_iff] at hx hy
  have h1 := rnumI_at (l := l) (pre := pre) (rest := uI y ++ rest) (x := x) (by rw [h]; simp) hx.1 hx.2
  have h2 := rnumI_at (l := l) (pre := pre ++ uI x) (rest := rest) (x := y) (by rw [h]; simp) hy.1 hy.2
  unfold rspot
  simp only [h1, h2]
  simp
theorem rflag_at {l pre rest : List UInt8} {b : Bool} (h : l = pre ++ (flagL b ++ rest)) : rflag l (pre.length, true) = (b, ((pre ++ flagL b).length, true)) := by
  cases b
  · have h1 := rnum_at (l := l) (pre := pre) (rest := rest) (n := 0) h (by decide)
    unfold rflag
    simp only [h1]
    simp [flagL]
  · have h1 := rnum_at (l := l) (pre := pre) (rest := rest) (n := 1) h (by decide)
    unfold rflag
    simp only [h1]
    simp [flagL]
theorem arr_text (x : ByteArray) : (⟨x.data.toList.toArray⟩ : ByteArray) = x := by cases x; simp
theorem rent_at {l pre rest : List UInt8} {e : EntV} (h : l = pre ++ (entL e ++ rest)) (he : entB e = true) : rent l (pre.length, true) = (e, ((pre ++ entL e).length, true)) := by
  obtain ⟨t, k, x⟩ := e
  simp only [entB, Bool.and_eq_true, decide_eq_true_eq] at he
  obtain ⟨⟨h1, h2⟩, h3⟩ := he
  rw [wiB_iff] at h1 h2
  unfold entL at h
  simp only at h
  have hx : x.data.toList.length ≤ 60000 := by
    have : x.data.toList.length = x.size := by simp
    omega
  have a1 := rnum_at (l := l) (pre := pre) (rest := uintL k.toNat ++ (textL x.data.toList ++ rest)) (n := t.toNat) (by rw [h]; simp) (by omega)
  have a2 := rnum_at (l := l) (pre := pre ++ uintL t.toNat) (rest := textL x.data.toList ++ rest) (n := k.toNat) (by rw [h]; simp) (by omega)
  have a3 := rpiece_at (l := l) (pre := pre ++ uintL t.toNat ++ uintL k.toNat) (rest := rest) (t := x.data.toList) (by rw [h]; simp) hx
  unfold rent
  simp only [a1, a2, a3, arr_text]
  have e1 : ((t.toNat : Nat) : Int) = t := by omega
  have e2 : ((k.toNat : Nat) : Int) = k := by omega
  rw [e1, e2]
  simp [entL]
theorem rents_at (l : List UInt8) (es : List EntV) (pre rest : List UInt8) (h : l = pre ++ ((es.map entL).flatten ++ rest)) (he : es.all entB = true) (n : Nat) (hn : n ≤ es.length) :
    rents l n (pre.length, true) = (es.take n, ((pre ++ ((es.take n).map entL).flatten).length, true)) := by
  induction n with
  | zero => simp [rents]
  | succ n ih =>
    have hlt : n < es.length := hn
    have i1 := ih (by omega)
    have hs : es = es.take n ++ (es[n] :: es.drop (n + 1)) := by
      rw [← List.drop_eq_getElem_cons hlt, List.take_append_drop]
    have hm : (es.map entL).flatten = ((es.take n).map entL).flatten ++ (entL es[n] ++ ((es.drop (n + 1)).map entL).flatten) := by
      conv => lhs; rw [hs]
      simp only [List.map_append, List.map_cons, List.flatten_append, List.flatten_cons]
    have ht : ((es.take (n + 1)).map entL).flatten = ((es.take n).map entL).flatten ++ entL es[n] := by
      rw [List.take_succ_eq_append_getElem hlt]
      simp only [List.map_append, List.map_cons, List.map_nil, List.flatten_append, List.flatten_cons, List.flatten_nil, List.append_nil]
    have a1 := rent_at (l := l) (pre := pre ++ ((es.take n).map entL).flatten) (rest := ((es.drop (n + 1)).map entL).flatten ++ rest) (e := es[n]) (by
      rw [h, hm]
      simp only [List.append_assoc]) (List.all_eq_true.1 he _ (List.getElem_mem hlt))
    unfold rents
    simp only [i1, a1]
    rw [ht, List.take_succ_eq_append_getElem hlt, List.append_assoc]
theorem rentries_at {l pre rest : List UInt8} {es : List EntV} (h : l = pre ++ (entsL es ++ rest)) (he : entsB es = true) : rentries l (pre.length, true) = (es, ((pre ++ entsL es).length, true)) := by
  simp only [entsB, Bool.and_eq_true, decide_eq_true_eq] at he
  have hE : entsL es = uintL es.length ++ (es.map entL).flatten := by
    unfold entsL gathE
    rw [List.take_of_length_le (Nat.le_refl _)]
  rw [hE] at h ⊢
  have a1 := rnum_at (l := l) (pre := pre) (rest := (es.map entL).flatten ++ rest) (n := es.length) (by rw [h]; simp) (by omega)
  have a2 := rents_at l es (pre ++ uintL es.length) rest (by rw [h]; simp) he.2 es.length (Nat.le_refl _)
  unfold rentries
  simp only [a1]
  rw [if_pos he.1, a2, List.take_of_length_le (Nat.le_refl _)]
  simp
theorem head_at {l rest : List UInt8} {m : MsgV} (h : l = headL m ++ rest) (h1 : 1 ≤ m.kind ∧ m.kind ≤ 5) (h2 : headB m = true) :
    rmsg l (0, true) = rbody l m.kind.toNat m.frm.toNat m.dst.toNat m.term.toNat ((headL m).length, true) := by
  simp only [headB, Bool.and_eq_true] at h2
  obtain ⟨⟨⟨f1, f2⟩, _⟩, f4⟩ := h2
  rw [wiB_iff] at f1 f2 f4
  have a1 := rnumI_at (l := l) (pre := []) (rest := uI m.frm ++ (uI m.dst ++ (uI m.term ++ rest))) (x := m.kind) (by rw [h]; simp [headL]) (by omega) (by omega)
  have a2 := rnumI_at (l := l) (pre := uI m.kind) (rest := uI m.dst ++ (uI m.term ++ rest)) (x := m.frm) (by rw [h]; simp [headL]) (by omega) (by omega)
  have a3 := rnumI_at (l := l) (pre := uI m.kind ++ uI m.frm) (rest := uI m.term ++ rest) (x := m.dst) (by rw [h]; simp [headL]) (by omega) (by omega)
  have a4 := rnumI_at (l := l) (pre := uI m.kind ++ uI m.frm ++ uI m.dst) (rest := rest) (x := m.term) (by rw [h]; simp [headL]) (by omega) (by omega)
  have e0 : (([] : List UInt8).length, true) = ((0 : Nat), true) := rfl
  rw [e0, List.nil_append] at a1
  unfold rmsg
  simp only [a1, a2, a3, a4]
  rfl
theorem nil_text {x : ByteArray} (h : x.toList = (⟨#[]⟩ : ByteArray).toList) : x = ⟨#[]⟩ := by
  have h1 := size_nil h
  obtain ⟨d⟩ := x
  have h2 : d.size = 0 := h1
  have h3 : d = #[] := Array.eq_empty_of_size_eq_zero h2
  rw [h3]
theorem mk_wi {i t : Int} (h : mkB i t = true) : wiB i 0 1000000 = true ∧ wiB t 0 1000000 = true := by
  simp only [mkB, Bool.and_eq_true] at h
  exact ⟨h.1.1, h.1.2⟩
theorem rbody1 (l pre : List UInt8) (f d t : Nat) (pi pt : Int) (h : l = pre ++ (uI pi ++ uI pt)) (g1 : wiB pi 0 1000000 = true) (g2 : wiB pt 0 1000000 = true) :
    rbody l 1 f d t (pre.length, true) = (⟨1, (f : Int), (d : Int), (t : Int), pi, pt, none, 0, 0, 0, false, 0, 0, 0, ⟨#[]⟩⟩, [], (l.length, true)) := by
  have a := rspot_at (l := l) (pre := pre) (rest := []) (by rw [h, List.append_nil]) g1 g2
  rw [wiB_iff] at g1 g2
  have ei : ((pi.toNat : Nat) : Int) = pi := by omega
  have ej : ((pt.toNat : Nat) : Int) = pt := by omega
  unfold rbody
  rw [if_pos rfl]
  simp only [a, ei, ej]
  rw [h]
  rfl
theorem rbody2 (l pre : List UInt8) (f d t : Nat) (ok : Bool) (h : l = pre ++ flagL ok) :
    rbody l 2 f d t (pre.length, true) = (⟨2, (f : Int), (d : Int), (t : Int), 0, 0, none, 0, 0, 0, ok, 0, 0, 0, ⟨#[]⟩⟩, [], (l.length, true)) := by
  have a := rflag_at (l := l) (pre := pre) (rest := []) (b := ok) (by rw [h, List.append_nil])
  unfold rbody
  rw [if_neg (by decide), if_pos rfl]
  simp only [a]
  rw [h]
  rfl
theorem rbody3 (l pre : List UInt8) (f d t : Nat) (pi pt c : Int) (es : List EntV) (h : l = pre ++ (uI pi ++ uI pt) ++ uI c ++ entsL es) (g1 : wiB pi 0 1000000 = true) (g2 : wiB pt 0 1000000 = true) (g3 : wiB c 0 1000000 = true) (he : entsB es = true) :
    rbody l 3 f d t (pre.length, true) = (⟨3, (f : Int), (d : Int), (t : Int), pi, pt, none, 0, 0, c, false, 0, 0, 0, ⟨#[]⟩⟩, es, (l.length, true)) := by
  have a := rspot_at (l := l) (pre := pre) (rest := uI c ++ entsL es) (by rw [h]; simp only [List.append_assoc]) g1 g2
  rw [wiB_iff] at g1 g2 g3
  have b := rnumI_at (l := l) (pre := pre ++ (uI pi ++ uI pt)) (rest := entsL es) (x := c) (by rw [h]; simp only [List.append_assoc]) g3.1 g3.2
  have e := rentries_at (l := l) (pre := pre ++ (uI pi ++ uI pt) ++ uI c) (rest := []) (es := es) (by rw [h, List.append_nil]) he
  have ei : ((pi.toNat : Nat) : Int) = pi := by omega
  have ej : ((pt.toNat : Nat) : Int) = pt := by omega
  have ec : ((c.toNat : Nat) : Int) = c := by omega
  unfold rbody
  rw [if_neg (by decide), if_neg (by decide), if_pos rfl]
  simp only [a, b, e, ei, ej, ec]
  rw [h]
  rfl
theorem rbody4 (l pre : List UInt8) (f d t : Nat) (ok : Bool) (c : Int) (h : l = pre ++ flagL ok ++ uI c) (g3 : wiB c 0 1000000 = true) :
    rbody l 4 f d t (pre.length, true) = (⟨4, (f : Int), (d : Int), (t : Int), 0, 0, none, 0, 0, 0, ok, c, 0, 0, ⟨#[]⟩⟩, [], (l.length, true)) := by
  have a := rflag_at (l := l) (pre := pre) (rest := uI c) (b := ok) (by rw [h]; simp only [List.append_assoc])
  rw [wiB_iff] at g3
  have b := rnumI_at (l := l) (pre := pre ++ flagL ok) (rest := []) (x := c) (by rw [h, List.append_nil]) g3.1 g3.2
  have ec : ((c.toNat : Nat) : Int) = c := by omega
  unfold rbody
  rw [if_neg (by decide), if_neg (by decide), if_neg (by decide), if_pos rfl]
  simp only [a, b, ec]
  rw [h]
  rfl
theorem rbody5 (l pre : List UInt8) (f d t : Nat) (pi pt : Int) (x : ByteArray) (h : l = pre ++ (uI pi ++ uI pt) ++ textL x.data.toList) (g1 : wiB pi 0 1000000 = true) (g2 : wiB pt 0 1000000 = true) (hx : x.size ≤ 60000) :
    rbody l 5 f d t (pre.length, true) = (⟨5, (f : Int), (d : Int), (t : Int), 0, 0, none, 0, 0, 0, false, 0, pi, pt, x⟩, [], (l.length, true)) := by
  have a := rspot_at (l := l) (pre := pre) (rest := textL x.data.toList) (by rw [h]; simp only [List.append_assoc]) g1 g2
  rw [wiB_iff] at g1 g2
  have b := rpiece_at (l := l) (pre := pre ++ (uI pi ++ uI pt)) (rest := []) (t := x.data.toList) (by rw [h, List.append_nil]) (by simpa using hx)
  have ei : ((pi.toNat : Nat) : Int) = pi := by omega
  have ej : ((pt.toNat : Nat) : Int) = pt := by omega
  unfold rbody
  rw [if_neg (by decide), if_neg (by decide), if_neg (by decide), if_neg (by decide), if_pos rfl]
  simp only [a, b, ei, ej, arr_text]
  rw [h]
  rfl
/-- What is written is read again. -/
theorem trip (m : MsgV) (l : List EntV) (hn : m.en = l.length) (h : mayB m l = true) : rmsg (bodyL m l) (0, true) = (withE m none 0 0, l, ((bodyL m l).length, true)) := by
  simp only [mayB, Bool.and_eq_true] at h
  obtain ⟨hh, hb⟩ := h
  have hh2 := hh
  simp only [headB, Bool.and_eq_true] at hh2
  obtain ⟨⟨⟨f1, f2⟩, _⟩, f4⟩ := hh2
  rw [wiB_iff] at f1 f2 f4
  have ef : ((m.frm.toNat : Nat) : Int) = m.frm := by omega
  have ed : ((m.dst.toNat : Nat) : Int) = m.dst := by omega
  have et : ((m.term.toNat : Nat) : Int) = m.term := by omega
  simp only [bodyB, fOf] at hb
  have none_of : (m.en : Int) = 0 → l = [] := fun h2 => List.eq_nil_of_length_eq_zero (by omega)
  obtain ⟨B, hB⟩ : ∃ B, bodyL m l = B := ⟨_, rfl⟩
  rw [hB]
  unfold bodyL at hB
  by_cases hk1 : m.kind = 1
  · rw [if_pos hk1] at hb hB
    rw [Bool.and_eq_true] at hb
    obtain ⟨e1, e2, e3, e4, e5, e6, e7, e8, e9⟩ := eqF_true hb.1
    obtain ⟨g1, g2⟩ := mk_wi hb.2
    simp only at e1 e2 e3 e4 e5 e6 e7 e8 e9
    have hl := none_of e3
    have hx := nil_text e9
    rw [head_at (l := B) (rest := uI m.pi ++ uI m.pt) (by exact hB.symm) (by omega) hh]
    have hkn : m.kind.toNat = 1 := by omega
    rw [hkn, rbody1 B _ _ _ _ m.pi m.pt hB.symm g1 g2, ef, ed, et]
    rw [hl]
    unfold withE
    rw [hk1, e4, e5, e6, e7, e8, hx]
  by_cases hk2 : m.kind = 2
  · rw [if_neg hk1, if_pos hk2] at hb hB
    obtain ⟨e1, e2, e3, e4, e5, e6, e7, e8, e9⟩ := eqF_true hb
    simp only at e1 e2 e3 e4 e5 e6 e7 e8 e9
    have hl := none_of e3
    have hx := nil_text e9
    rw [head_at (l := B) (rest := flagL m.ok) (by exact hB.symm) (by omega) hh]
    have hkn : m.kind.toNat = 2 := by omega
    rw [hkn, rbody2 B _ _ _ _ m.ok hB.symm, ef, ed, et]
    rw [hl]
    unfold withE
    rw [hk2, e1, e2, e4, e6, e7, e8, hx]
  by_cases hk3 : m.kind = 3
  · rw [if_neg hk1, if_neg hk2, if_pos hk3] at hb hB
    rw [Bool.and_eq_true, Bool.and_eq_true, Bool.and_eq_true] at hb
    obtain ⟨e1, e2, e3, e4, e5, e6, e7, e8, e9⟩ := eqF_true hb.1.1.1
    obtain ⟨g1, g2⟩ := mk_wi hb.1.1.2
    simp only at e1 e2 e3 e4 e5 e6 e7 e8 e9
    have hx := nil_text e9
    rw [head_at (l := B) (rest := (uI m.pi ++ uI m.pt) ++ uI m.commit ++ entsL l) (by rw [← hB]; simp only [List.append_assoc]) (by omega) hh]
    have hkn : m.kind.toNat = 3 := by omega
    rw [hkn, rbody3 B _ _ _ _ m.pi m.pt m.commit l hB.symm g1 g2 hb.2 hb.1.2, ef, ed, et]
    unfold withE
    rw [hk3, e5, e6, e7, e8, hx]
  by_cases hk4 : m.kind = 4
  · rw [if_neg hk1, if_neg hk2, if_neg hk3, if_pos hk4] at hb hB
    rw [Bool.and_eq_true] at hb
    obtain ⟨e1, e2, e3, e4, e5, e6, e7, e8, e9⟩ := eqF_true hb.1
    simp only at e1 e2 e3 e4 e5 e6 e7 e8 e9
    have hl := none_of e3
    have hx := nil_text e9
    rw [head_at (l := B) (rest := flagL m.ok ++ uI m.mtch) (by rw [← hB]; simp only [List.append_assoc]) (by omega) hh]
    have hkn : m.kind.toNat = 4 := by omega
    rw [hkn, rbody4 B _ _ _ _ m.ok m.mtch hB.symm hb.2, ef, ed, et]
    rw [hl]
    unfold withE
    rw [hk4, e1, e2, e4, e7, e8, hx]
  by_cases hk5 : m.kind = 5
  · rw [if_neg hk1, if_neg hk2, if_neg hk3, if_neg hk4, if_pos hk5] at hb hB
    rw [Bool.and_eq_true] at hb
    obtain ⟨e1, e2, e3, e4, e5, e6, e7, e8, e9⟩ := eqF_true hb.1
    have hsn := hb.2
    simp only [snB, Bool.and_eq_true, decide_eq_true_eq] at hsn
    obtain ⟨g1, g2⟩ := mk_wi hsn.1.1
    simp only at e1 e2 e3 e4 e5 e6 e7 e8 e9
    have hl := none_of e3
    rw [head_at (l := B) (rest := (uI m.si ++ uI m.st) ++ textL m.text.data.toList) (by rw [← hB]; simp only [List.append_assoc]) (by omega) hh]
    have hkn : m.kind.toNat = 5 := by omega
    rw [hkn, rbody5 B _ _ _ _ m.si m.st m.text hB.symm g1 g2 (by omega), ef, ed, et]
    rw [hl]
    unfold withE
    rw [hk5, e1, e2, e4, e5, e6]
  rw [if_neg hk1, if_neg hk2, if_neg hk3, if_neg hk4, if_neg hk5] at hb
  cases hb
end Go.Proofs.Ytagfolckodpioaa
