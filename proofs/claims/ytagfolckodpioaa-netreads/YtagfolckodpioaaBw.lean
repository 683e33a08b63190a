/- NetBack, walked. -/
import Derived.Test.YtagfolckodpioaaBk
namespace Go.Proofs.Ytagfolckodpioaa.K2
open Go.RowKit Go.Maps Go.Proofs.Ytagfolckodpioaa
set_option linter.all false
def bakC (m : MsgV) (at1 : Int) (by1 : UInt8) (more : ByteArray) : Array Value := #[.int .i64 m.kind, .int .i64 m.frm, .int .i64 m.dst, .int .i64 m.term, .int .i64 m.pi, .int .i64 m.pt, .slice m.ea m.en m.ec, .int .i64 m.commit, .bool m.ok, .int .i64 m.mtch, .int .i64 m.si, .int .i64 m.st, .string m.text, .int .i64 at1, .int .u8 (by1.toNat : Int), .string more]
theorem bak_at {w : World} {k : Nat} {m : MsgV} {at1 : Int} {by1 : UInt8} {more : ByteArray} (h : w.heap[k]? = some (.cells (bakC m at1 by1 more) 44 (0, 0))) : (w.cell? ⟨k, 0, none⟩ = some (.int .i64 m.kind) ∧ w.cell? ⟨k, 1, none⟩ = some (.int .i64 m.frm) ∧ w.cell? ⟨k, 2, none⟩ = some (.int .i64 m.dst) ∧ w.cell? ⟨k, 3, none⟩ = some (.int .i64 m.term) ∧ w.cell? ⟨k, 4, none⟩ = some (.int .i64 m.pi) ∧ w.cell? ⟨k, 5, none⟩ = some (.int .i64 m.pt) ∧ w.cell? ⟨k, 6, none⟩ = some (.slice m.ea m.en m.ec) ∧ w.cell? ⟨k, 7, none⟩ = some (.int .i64 m.commit) ∧ w.cell? ⟨k, 8, none⟩ = some (.bool m.ok) ∧ w.cell? ⟨k, 9, none⟩ = some (.int .i64 m.mtch) ∧ w.cell? ⟨k, 10, none⟩ = some (.int .i64 m.si) ∧ w.cell? ⟨k, 11, none⟩ = some (.int .i64 m.st) ∧ w.cell? ⟨k, 12, none⟩ = some (.string m.text)) ∧ (w.cell? ⟨k, 13, none⟩ = some (.int .i64 at1) ∧ w.cell? ⟨k, 14, none⟩ = some (.int .u8 (by1.toNat : Int)) ∧ w.cell? ⟨k, 15, none⟩ = some (.string more)) ∧ (∀ j, w.frozen? ⟨k, j, none⟩ = false) ∧ k < w.heap.size :=
  ⟨⟨by rw [cell_at h]; rfl, by rw [cell_at h]; rfl, by rw [cell_at h]; rfl, by rw [cell_at h]; rfl, by rw [cell_at h]; rfl, by rw [cell_at h]; rfl, by rw [cell_at h]; rfl, by rw [cell_at h]; rfl, by rw [cell_at h]; rfl, by rw [cell_at h]; rfl, by rw [cell_at h]; rfl, by rw [cell_at h]; rfl, by rw [cell_at h]; rfl⟩, ⟨by rw [cell_at h]; rfl, by rw [cell_at h]; rfl, by rw [cell_at h]; rfl⟩, fun j => free_at h j, (Array.getElem?_eq_some_iff.1 h).1⟩
theorem eqE_self (e : EntV) : eqE e e = true := by simp [eqE]
theorem sameE_self : ∀ (l : List EntV), sameE l l = true
  | [] => rfl
  | e :: l => by
    rw [sameE, eqE_self, sameE_self l]
    rfl
theorem sameF_with (m : MsgV) (n : Nat) (a : Option Addr) (c : Nat) (h : m.en = n) : sameF (withE (withE m none 0 0) a n c) m = true := by
  simp [sameF, withE, eqS, eqE, h]
set_option maxHeartbeats 16000000 in
set_option maxRecDepth 100000 in
theorem back_walk (m : MsgV) (l : List EntV) (at1 : Int) (by1 : UInt8) (ml : List UInt8) (w : World) (hl : EntsAt w m.ea l) (hn : m.en = l.length) (hlm : l.length ≤ 9223372036854775807) (hat : -9223372036854775808 ≤ at1 ∧ at1 ≤ 9223372036854775807) (hmore : ml.length ≤ 140737488355328) : Calls Try.prog 5 #[.agg (bakC m at1 by1 ⟨ml.toArray⟩)] w fun e w' => e = .returned (.bool true) ∧ Below w.heap.size w w' := by
  have HLV := hideIt (fun W => live_is W)
  have HEN := hideIt (fun W (hW : Below w.heap.size w W) => encode_is m l W (hl.below hW (Nat.le_refl _)) hn)
  have X0 := hideIt (heap_alloc_new w (.cells (bakC m at1 by1 ⟨ml.toArray⟩) 44))
  have B0 := hideIt (below1 w (.cells (bakC m at1 by1 ⟨ml.toArray⟩) 44))
  have HL := hideIt (fun W (hW : Below w.heap.size w W) => hl.below hW (Nat.le_refl _))
  have HN := hideIt hn
  clear hl hn
  have HAR := hideIt (show (#[.int .i64 m.kind, .int .i64 m.frm, .int .i64 m.dst, .int .i64 m.term, .int .i64 m.pi, .int .i64 m.pt, .slice m.ea m.en m.ec, .int .i64 m.commit, .bool m.ok, .int .i64 m.mtch, .int .i64 m.si, .int .i64 m.st, .string m.text, .int .i64 at1, .int .u8 (by1.toNat : Int), .string ⟨ml.toArray⟩] : Array Value) = bakC m at1 by1 ⟨ml.toArray⟩ from rfl)
  rw [← HAR.out]
  go_enter Try.func5, Try.ntmps5
  go_upto_region 1 with fail
  rw [HAR.out]
  generalize w.alloc (.cells (bakC m at1 by1 ⟨ml.toArray⟩) 44) = W0 at *
  clear HAR
  obtain ⟨⟨c0, c1, c2, c3, c4, c5, c6, c7, c8, c9, c10, c11, c12⟩, ⟨c13, c14, c15⟩, cf, cz⟩ := bak_at X0.out
  have HAR := hideIt (show (#[.int .i64 m.kind, .int .i64 m.frm, .int .i64 m.dst, .int .i64 m.term, .int .i64 m.pi, .int .i64 m.pt, .slice m.ea m.en m.ec, .int .i64 m.commit, .bool m.ok, .int .i64 m.mtch, .int .i64 m.si, .int .i64 m.st, .string m.text] : Array Value) = msgC m from rfl)
  have hkn : w.heap.size ≠ W0.heap.size := by omega
  go_cut [3, 4, 5, 6] from 18 to 25 (fun u3 u4 u5 u6 wx => u3 = .pointer (some ⟨W0.heap.size, 0, none⟩) ∧ u4 = .int .i64 at1 ∧ u5 = .int .u8 (by1.toNat : Int) ∧ u6 = .string ⟨ml.toArray⟩ ∧ (W0.alloc (.cells (msgC m) 28)).drew = wx)
  case first =>
    go_region
    all_goals go_wp2_with fail
    all_goals go_meet
    all_goals first | exact ⟨rfl, rfl, rfl, rfl, rfl⟩ | exact ⟨rfl, rfl, rfl, rfl, by rw [HAR.out]; rfl⟩
  case rest =>
  obtain ⟨rfl, rfl, rfl, rfl, rfl⟩ := hcut
  clear c0 c1 c2 c3 c4 c5 c6 c7 c8 c9 c10 c11 c12 c13 c14 c15 cf cz HAR hkn X0
  have B1 : Hid (Below w.heap.size w (W0.alloc (.cells (msgC m) 28)).drew) := below_via B0.out (below1 W0 _).drew
  have K1 : Hid ((W0.alloc (.cells (msgC m) 28)).drew.heap[W0.heap.size]? = some (.cells (msgC m) 28 (0, 0))) := heap_alloc_new W0 (.cells (msgC m) 28)
  clear B0
  generalize (W0.alloc (.cells (msgC m) 28)).drew = W1 at *
  generalize W0.heap.size = k1 at *
  have HEA := hideIt (HEN.out _ B1.out)
  clear HEN
  cases hmy : mayB m l with
  | false =>
    have e1 : encL m l = [] := by unfold encL; rw [hmy]; rfl
    have e2 : encE m l = 52 := by unfold encE; rw [hmy]; rfl
    rw [e1, e2] at HEA
    clear e1 e2 hmy HL HN
    obtain ⟨⟨ac0, ac1, ac2, ac3, ac4, ac5, ac6, ac7, ac8, ac9, ac10, ac11, ac12⟩, acf, acz⟩ := msg_at K1.out
    go_wp2_with fail
    refine HEA.out.mono ?_
    rintro e w2 ⟨rfl, hb⟩
    dsimp only
    have B2 := hideIt (below_via B1.out hb)
    clear ac0 ac1 ac2 ac3 ac4 ac5 ac6 ac7 ac8 ac9 ac10 ac11 ac12 acf acz
    clear hb B1 K1 HEA
    go_wp2_with fail
    refine (HLV.out _).mono ?_
    rintro e w3 ⟨rfl, hb⟩
    dsimp only
    have B3 := hideIt (below_via B2.out hb)
    clear hb B2
    go_wp2
    go_ret
    exact ⟨rfl, B3.out⟩
  | true =>
    have hok := mayB_ok m l HN.out hmy
    have e1 : encL m l = frameL (bodyL m l) := by unfold encL; rw [if_pos hmy]
    have e2 : encE m l = 0 := by unfold encE; rw [if_pos hmy]
    rw [e1, e2] at HEA
    have HD0 := hideIt (dec_enc m l HN.out hmy)
    have HD1 := hideIt (fun more hm => dec_more (bodyL m l) more hok.2 hm)
    have HD2 := hideIt (fun a ha => dec_cut (bodyL m l) a hok.2 ha)
    have HD3 := hideIt (fun a v ha hv => dec_turned (bodyL m l) a v hok.2 ha hv)
    have hSl : (frameL (bodyL m l)).length ≤ 70008 ∧ 8 ≤ (frameL (bodyL m l)).length := by rw [frameL_len]; omega
    generalize frameL (bodyL m l) = S at *
    clear e1 e2 hmy hok
    obtain ⟨⟨ac0, ac1, ac2, ac3, ac4, ac5, ac6, ac7, ac8, ac9, ac10, ac11, ac12⟩, acf, acz⟩ := msg_at K1.out
    go_wp2_with fail
    refine HEA.out.mono ?_
    rintro e w2 ⟨rfl, hb⟩
    dsimp only
    have B2 := hideIt (below_via B1.out hb)
    have K2 := hideIt (blkK K1.out hb)
    clear ac0 ac1 ac2 ac3 ac4 ac5 ac6 ac7 ac8 ac9 ac10 ac11 ac12 acf acz
    clear hb B1 K1 HEA
    have HDA := hideIt (decode_any ⟨S.toArray⟩ w2 (by show S.toArray.size ≤ maxLen; rw [List.size_toArray]; unfold maxLen; omega))
    rw [show (⟨S.toArray⟩ : ByteArray).data.toList = S from rfl, HD0.out] at HDA
    unfold DecBack at HDA
    dsimp only at HDA
    go_wp2_with fail
    refine HDA.out.mono ?_
    rintro e w3 ⟨⟨da, dc, rfl, hro⟩, hb⟩
    dsimp only
    simp only [msgC, withE]
    have HAR := hideIt (show (#[.int .i64 m.kind, .int .i64 m.frm, .int .i64 m.dst, .int .i64 m.term, .int .i64 m.pi, .int .i64 m.pt, .slice da l.length dc, .int .i64 m.commit, .bool m.ok, .int .i64 m.mtch, .int .i64 m.si, .int .i64 m.st, .string m.text] : Array Value) = msgC (withE (withE m none 0 0) da l.length dc) from rfl)
    have hb5 := below1 w3 (.cells (msgC (withE (withE m none 0 0) da l.length dc)) 28)
    have K5 := hideIt (blkK K2.out (below_via hb hb5))
    have J5 := hideIt (heap_alloc_new w3 (.cells (msgC (withE (withE m none 0 0) da l.length dc)) 28))
    have B5 := hideIt (below_via B2.out (below_via hb hb5))
    have E5 := hideIt ((own_ents hro).below hb5 (Nat.le_refl _))
    clear hro hb hb5 K2 B2 HDA
    go_upto_region 6 with fail
    rw [HAR.out]
    generalize w3.alloc (.cells (msgC (withE (withE m none 0 0) da l.length dc)) 28) = W5 at *
    generalize w3.heap.size = k5 at *
    clear HAR
    have HSA := hideIt (same_any (withE (withE m none 0 0) da l.length dc) m l l W5 E5.out (HL.out _ B5.out) rfl HN.out hlm)
    rw [sameF_with m l.length da dc HN.out, sameE_self] at HSA
    obtain ⟨⟨ac0, ac1, ac2, ac3, ac4, ac5, ac6, ac7, ac8, ac9, ac10, ac11, ac12⟩, acf, acz⟩ := msg_at K5.out
    obtain ⟨⟨bc0, bc1, bc2, bc3, bc4, bc5, bc6, bc7, bc8, bc9, bc10, bc11, bc12⟩, bcf, bcz⟩ := msg_at J5.out
    dsimp only [withE] at bc0 bc1 bc2 bc3 bc4 bc5 bc6 bc7 bc8 bc9 bc10 bc11 bc12
    go_wp2_with fail
    refine HSA.out.mono ?_
    rintro e w6 ⟨rfl, hb⟩
    dsimp only
    have K6 := hideIt (blkK K5.out hb)
    have B6 := hideIt (below_via B5.out hb)
    clear ac0 ac1 ac2 ac3 ac4 ac5 ac6 ac7 ac8 ac9 ac10 ac11 ac12 acf acz
    clear bc0 bc1 bc2 bc3 bc4 bc5 bc6 bc7 bc8 bc9 bc10 bc11 bc12 bcf bcz
    clear hb K5 J5 E5 B5 HSA
    have hS0 : ¬ S = [] := by
      intro e
      rw [e] at hSl
      simp at hSl
    have hse : S.isEmpty = false := by
      cases S with
      | nil => exact absurd rfl hS0
      | cons x t => rfl
    go_wp2_with fail
    refine (HLV.out _).mono ?_
    rintro e w7 ⟨rfl, hb⟩
    dsimp only
    have K7 := hideIt (blkK K6.out hb)
    have B7 := hideIt (below_via B6.out hb)
    clear hb K6 B6
    have HPK := hideIt (pick_is at1 (S.length : Int) w7 hat (by omega))
    have hsz : (⟨S.toArray⟩ : ByteArray).size = S.length := by show S.toArray.size = _; rw [List.size_toArray]
    go_wp2_with fail
    refine HPK.out.mono ?_
    rintro e w8 ⟨⟨r, rfl, hr⟩, rfl⟩
    dsimp only
    clear HPK
    have hrI : (r : Int) ≤ (S.length : Int) := by omega
    have hr0 : (0 : Int) ≤ (r : Int) := by omega
    have hrN : r < S.length := by omega
    have hext : (⟨S.toArray⟩ : ByteArray).extract 0 r = ⟨(S.take r).toArray⟩ := by
      have := extract_eq ⟨S.toArray⟩ 0 r
      rw [Nat.zero_add] at this
      rw [this]
      rfl
    have HDB := hideIt (decode_any ⟨(S.take r).toArray⟩ w8 (by show (S.take r).toArray.size ≤ maxLen; rw [List.size_toArray, List.length_take]; unfold maxLen; omega))
    rw [show (⟨(S.take r).toArray⟩ : ByteArray).data.toList = S.take r from rfl, HD2.out r hrN] at HDB
    unfold DecBack at HDB
    dsimp only at HDB
    go_wp2_with fail
    refine HDB.out.mono ?_
    rintro e w9 ⟨rfl, hb⟩
    dsimp only
    simp only [msgC, zeroM]
    have K9 := hideIt (blkK K7.out (below_via hb (below1 w9 (.cells #[.int .i64 0, .int .i64 0, .int .i64 0, .int .i64 0, .int .i64 0, .int .i64 0, .slice none 0 0, .int .i64 0, .bool false, .int .i64 0, .int .i64 0, .int .i64 0, .string ⟨#[]⟩] 28))))
    have B9 := hideIt (below_via B7.out (below_via hb (below1 w9 (.cells #[.int .i64 0, .int .i64 0, .int .i64 0, .int .i64 0, .int .i64 0, .int .i64 0, .slice none 0 0, .int .i64 0, .bool false, .int .i64 0, .int .i64 0, .int .i64 0, .string ⟨#[]⟩] 28))))
    clear hb K7 B7 HDB hext
    go_upto_region 10 with fail
    generalize w9.alloc (.cells #[.int .i64 0, .int .i64 0, .int .i64 0, .int .i64 0, .int .i64 0, .int .i64 0, .slice none 0 0, .int .i64 0, .bool false, .int .i64 0, .int .i64 0, .int .i64 0, .string ⟨#[]⟩] 28) = W9 at *
    by_cases hml : ml = []
    · subst hml
      have hcat : (⟨S.toArray⟩ : ByteArray) ++ ⟨([] : List UInt8).toArray⟩ = ⟨S.toArray⟩ := by rw [cat_two, List.append_nil]
      have HDC := hideIt (decode_any ⟨S.toArray⟩ W9 (by show S.toArray.size ≤ maxLen; rw [List.size_toArray]; unfold maxLen; omega))
      rw [show (⟨S.toArray⟩ : ByteArray).data.toList = S from rfl, HD0.out] at HDC
      unfold DecBack at HDC
      dsimp only at HDC
      go_wp2_with fail
      refine HDC.out.mono ?_
      rintro e w10 ⟨⟨ea, ec, rfl, -⟩, hb⟩
      dsimp only
      simp only [msgC, withE]
      have K10 := hideIt (blkK K9.out (below_via hb (below1 w10 (.cells #[.int .i64 m.kind, .int .i64 m.frm, .int .i64 m.dst, .int .i64 m.term, .int .i64 m.pi, .int .i64 m.pt, .slice ea l.length ec, .int .i64 m.commit, .bool m.ok, .int .i64 m.mtch, .int .i64 m.si, .int .i64 m.st, .string m.text] 28))))
      have B10 := hideIt (below_via B9.out (below_via hb (below1 w10 (.cells #[.int .i64 m.kind, .int .i64 m.frm, .int .i64 m.dst, .int .i64 m.term, .int .i64 m.pi, .int .i64 m.pt, .slice ea l.length ec, .int .i64 m.commit, .bool m.ok, .int .i64 m.mtch, .int .i64 m.si, .int .i64 m.st, .string m.text] 28))))
      clear hb K9 B9 HDC hcat
      go_upto_region 13 with fail
      generalize w10.alloc (.cells #[.int .i64 m.kind, .int .i64 m.frm, .int .i64 m.dst, .int .i64 m.term, .int .i64 m.pi, .int .i64 m.pt, .slice ea l.length ec, .int .i64 m.commit, .bool m.ok, .int .i64 m.mtch, .int .i64 m.si, .int .i64 m.st, .string m.text] 28) = W10 at *
      have hsz10 : (⟨S.toArray⟩ : ByteArray).size ≤ 140737488355328 := by rw [hsz]; omega
      obtain ⟨cap, w11, hconv, hOM, hb⟩ := toBytes_M W10 ⟨S.toArray⟩ hsz10
      rw [hsz] at hconv
      have hOM2 : OwnM w11 W10.heap.size (.slice (some ⟨W10.heap.size, 0, none⟩) S.length cap) S := hOM
      clear hOM
      have hq : w11.cell? ⟨W10.heap.size, r, none⟩ = some (.int .u8 ((S[r]).toNat : Int)) := hOM2.cells r _ (by rw [List.getElem?_map, List.getElem?_eq_getElem hrN]; rfl)
      obtain ⟨hql, -, hqf⟩ := hOM2.free
      have hqf2 := hqf r hrN
      have K11 := hideIt (blkK K10.out hb)
      have B11 := hideIt (below_via B10.out hb)
      have B12 : Hid (Below w.heap.size w (w11.setCell ⟨W10.heap.size, r, none⟩ (.int .u8 ((S[r] ^^^ by1).toNat : Int)))) := belowSet _ B11.out B10.out.size
      have O12 : Hid (OwnM (w11.setCell ⟨W10.heap.size, r, none⟩ (.int .u8 ((S[r] ^^^ by1).toNat : Int))) W10.heap.size (.slice (some ⟨W10.heap.size, 0, none⟩) (S.set r (S[r] ^^^ by1)).length cap) (S.set r (S[r] ^^^ by1))) := hOM2.set r hrN (S[r] ^^^ by1)
      have K12 : Hid ((w11.setCell ⟨W10.heap.size, r, none⟩ (.int .u8 ((S[r] ^^^ by1).toNat : Int))).heap[k1]? = some (.cells (msgC m) 28 (0, 0))) := setOther _ K11.out (by have := (Array.getElem?_eq_some_iff.1 K10.out).1; omega)
      have hx := xor_u8 (S[r]) by1
      have hrL : (r : Int) < (S.length : Int) := by omega
      have HV1 := hideIt (HD3.out r (S[r] ^^^ by1) hrN)
      have HV2 : Hid (by1 = 0 → S.set r (S[r] ^^^ by1) = S) := fun e => by rw [e, UInt8.xor_zero, List.set_getElem_self]
      have HV3 : Hid (by1 ≠ 0 → S[r] ^^^ by1 ≠ S[r]) := fun e c => e (xor_zero_u8.1 c)
      have HVL : Hid ((S.set r (S[r] ^^^ by1)).length = S.length) := List.length_set
      clear hOM2 hqf hb K10 B10 K11 B11
      generalize S[r] = sb at *
      generalize S.set r (sb ^^^ by1) = S2 at *
      generalize ((sb ^^^ by1).toNat : Int) = nv at *
      generalize W10.heap.size = g at *
      go_upto_region 15 with fail
      clear hconv hq hql hqf2 hx
      generalize w11.setCell ⟨g, r, none⟩ (.int .u8 nv) = W12 at *
      have hback := conv_M W12 g _ S2 O12.out
      rw [HVL.out] at hback
      have HDD := hideIt (decode_any ⟨S2.toArray⟩ W12 (by show S2.toArray.size ≤ maxLen; rw [List.size_toArray, HVL.out]; unfold maxLen; omega))
      rw [show (⟨S2.toArray⟩ : ByteArray).data.toList = S2 from rfl] at HDD
      unfold DecBack at HDD
      by_cases hby : by1 = 0
      · have hS2 := HV2.out hby
        have hb0 : (by1.toNat : Int) = 0 := by rw [hby]; rfl
        rw [hS2, HD0.out] at HDD
        rw [hS2] at hback
        dsimp only at HDD
        clear hS2 hby
        go_wp2_with fail
        refine HDD.out.mono ?_
        rintro e w13 ⟨⟨fa, fc, rfl, hro⟩, hb⟩
        dsimp only
        simp only [msgC, withE]
        have HAR := hideIt (show (#[.int .i64 m.kind, .int .i64 m.frm, .int .i64 m.dst, .int .i64 m.term, .int .i64 m.pi, .int .i64 m.pt, .slice fa l.length fc, .int .i64 m.commit, .bool m.ok, .int .i64 m.mtch, .int .i64 m.si, .int .i64 m.st, .string m.text] : Array Value) = msgC (withE (withE m none 0 0) fa l.length fc) from rfl)
        have hb5 := below1 w13 (.cells (msgC (withE (withE m none 0 0) fa l.length fc)) 28)
        have K14 := hideIt (blkK K12.out (below_via hb hb5))
        have J14 := hideIt (heap_alloc_new w13 (.cells (msgC (withE (withE m none 0 0) fa l.length fc)) 28))
        have B14 := hideIt (below_via B12.out (below_via hb hb5))
        have E14 := hideIt ((own_ents hro).below hb5 (Nat.le_refl _))
        clear hro hb hb5 K12 B12 HDD hback O12
        go_upto_region 16 with fail
        rw [HAR.out]
        generalize w13.alloc (.cells (msgC (withE (withE m none 0 0) fa l.length fc)) 28) = W14 at *
        generalize w13.heap.size = k14 at *
        clear HAR
        have HSA := hideIt (same_any (withE (withE m none 0 0) fa l.length fc) m l l W14 E14.out (HL.out _ B14.out) rfl HN.out hlm)
        rw [sameF_with m l.length fa fc HN.out, sameE_self] at HSA
        obtain ⟨⟨ac0, ac1, ac2, ac3, ac4, ac5, ac6, ac7, ac8, ac9, ac10, ac11, ac12⟩, acf, acz⟩ := msg_at K14.out
        obtain ⟨⟨bc0, bc1, bc2, bc3, bc4, bc5, bc6, bc7, bc8, bc9, bc10, bc11, bc12⟩, bcf, bcz⟩ := msg_at J14.out
        dsimp only [withE] at bc0 bc1 bc2 bc3 bc4 bc5 bc6 bc7 bc8 bc9 bc10 bc11 bc12
        go_wp2_with fail
        refine HSA.out.mono ?_
        rintro e w15 ⟨rfl, hb⟩
        dsimp only
        have B15 := hideIt (below_via B14.out hb)
        clear ac0 ac1 ac2 ac3 ac4 ac5 ac6 ac7 ac8 ac9 ac10 ac11 ac12 acf acz
        clear bc0 bc1 bc2 bc3 bc4 bc5 bc6 bc7 bc8 bc9 bc10 bc11 bc12 bcf bcz
        clear hb K14 J14 E14 B14 HSA
        go_wp2
        go_ret
        exact ⟨rfl, B15.out⟩
      · have hS2 := HV1.out (HV3.out hby)
        have hbn : ¬ (by1.toNat : Int) = 0 := by
          intro c
          apply hby
          have : by1.toNat = 0 := by omega
          exact UInt8.toNat_inj.1 this
        have hbq : ((by1.toNat : Int) == 0) = false := by simpa using hbn
        rw [hS2] at HDD
        dsimp only at HDD
        clear hS2 hby
        go_wp2_with fail
        refine HDD.out.mono ?_
        rintro e w13 ⟨rfl, hb⟩
        dsimp only
        simp only [msgC, zeroM]
        have B14 := hideIt (below_via B12.out (below_via hb (below1 w13 (.cells #[.int .i64 0, .int .i64 0, .int .i64 0, .int .i64 0, .int .i64 0, .int .i64 0, .slice none 0 0, .int .i64 0, .bool false, .int .i64 0, .int .i64 0, .int .i64 0, .string ⟨#[]⟩] 28))))
        clear hb K12 B12 HDD hback O12
        go_wp2
        go_ret
        exact ⟨rfl, B14.out⟩
    · have hme : ml.isEmpty = false := by
        cases ml with
        | nil => exact absurd rfl hml
        | cons x t => rfl
      have hcat : (⟨S.toArray⟩ : ByteArray) ++ ⟨ml.toArray⟩ = ⟨(S ++ ml).toArray⟩ := cat_two S ml
      have HDC := hideIt (decode_any ⟨(S ++ ml).toArray⟩ W9 (by show (S ++ ml).toArray.size ≤ maxLen; rw [List.size_toArray, List.length_append]; unfold maxLen; omega))
      rw [show (⟨(S ++ ml).toArray⟩ : ByteArray).data.toList = S ++ ml from rfl, HD1.out ml hml] at HDC
      unfold DecBack at HDC
      dsimp only at HDC
      clear hml
      go_wp2_with fail
      refine HDC.out.mono ?_
      rintro e w10 ⟨rfl, hb⟩
      dsimp only
      simp only [msgC, zeroM]
      have K10 := hideIt (blkK K9.out (below_via hb (below1 w10 (.cells #[.int .i64 0, .int .i64 0, .int .i64 0, .int .i64 0, .int .i64 0, .int .i64 0, .slice none 0 0, .int .i64 0, .bool false, .int .i64 0, .int .i64 0, .int .i64 0, .string ⟨#[]⟩] 28))))
      have B10 := hideIt (below_via B9.out (below_via hb (below1 w10 (.cells #[.int .i64 0, .int .i64 0, .int .i64 0, .int .i64 0, .int .i64 0, .int .i64 0, .slice none 0 0, .int .i64 0, .bool false, .int .i64 0, .int .i64 0, .int .i64 0, .string ⟨#[]⟩] 28))))
      clear hb K9 B9 HDC hcat
      go_upto_region 13 with fail
      generalize w10.alloc (.cells #[.int .i64 0, .int .i64 0, .int .i64 0, .int .i64 0, .int .i64 0, .int .i64 0, .slice none 0 0, .int .i64 0, .bool false, .int .i64 0, .int .i64 0, .int .i64 0, .string ⟨#[]⟩] 28) = W10 at *
      have hsz10 : (⟨S.toArray⟩ : ByteArray).size ≤ 140737488355328 := by rw [hsz]; omega
      obtain ⟨cap, w11, hconv, hOM, hb⟩ := toBytes_M W10 ⟨S.toArray⟩ hsz10
      rw [hsz] at hconv
      have hOM2 : OwnM w11 W10.heap.size (.slice (some ⟨W10.heap.size, 0, none⟩) S.length cap) S := hOM
      clear hOM
      have hq : w11.cell? ⟨W10.heap.size, r, none⟩ = some (.int .u8 ((S[r]).toNat : Int)) := hOM2.cells r _ (by rw [List.getElem?_map, List.getElem?_eq_getElem hrN]; rfl)
      obtain ⟨hql, -, hqf⟩ := hOM2.free
      have hqf2 := hqf r hrN
      have K11 := hideIt (blkK K10.out hb)
      have B11 := hideIt (below_via B10.out hb)
      have B12 : Hid (Below w.heap.size w (w11.setCell ⟨W10.heap.size, r, none⟩ (.int .u8 ((S[r] ^^^ by1).toNat : Int)))) := belowSet _ B11.out B10.out.size
      have O12 : Hid (OwnM (w11.setCell ⟨W10.heap.size, r, none⟩ (.int .u8 ((S[r] ^^^ by1).toNat : Int))) W10.heap.size (.slice (some ⟨W10.heap.size, 0, none⟩) (S.set r (S[r] ^^^ by1)).length cap) (S.set r (S[r] ^^^ by1))) := hOM2.set r hrN (S[r] ^^^ by1)
      have K12 : Hid ((w11.setCell ⟨W10.heap.size, r, none⟩ (.int .u8 ((S[r] ^^^ by1).toNat : Int))).heap[k1]? = some (.cells (msgC m) 28 (0, 0))) := setOther _ K11.out (by have := (Array.getElem?_eq_some_iff.1 K10.out).1; omega)
      have hx := xor_u8 (S[r]) by1
      have hrL : (r : Int) < (S.length : Int) := by omega
      have HV1 := hideIt (HD3.out r (S[r] ^^^ by1) hrN)
      have HV2 : Hid (by1 = 0 → S.set r (S[r] ^^^ by1) = S) := fun e => by rw [e, UInt8.xor_zero, List.set_getElem_self]
      have HV3 : Hid (by1 ≠ 0 → S[r] ^^^ by1 ≠ S[r]) := fun e c => e (xor_zero_u8.1 c)
      have HVL : Hid ((S.set r (S[r] ^^^ by1)).length = S.length) := List.length_set
      clear hOM2 hqf hb K10 B10 K11 B11
      generalize S[r] = sb at *
      generalize S.set r (sb ^^^ by1) = S2 at *
      generalize ((sb ^^^ by1).toNat : Int) = nv at *
      generalize W10.heap.size = g at *
      go_upto_region 15 with fail
      clear hconv hq hql hqf2 hx
      generalize w11.setCell ⟨g, r, none⟩ (.int .u8 nv) = W12 at *
      have hback := conv_M W12 g _ S2 O12.out
      rw [HVL.out] at hback
      have HDD := hideIt (decode_any ⟨S2.toArray⟩ W12 (by show S2.toArray.size ≤ maxLen; rw [List.size_toArray, HVL.out]; unfold maxLen; omega))
      rw [show (⟨S2.toArray⟩ : ByteArray).data.toList = S2 from rfl] at HDD
      unfold DecBack at HDD
      by_cases hby : by1 = 0
      · have hS2 := HV2.out hby
        have hb0 : (by1.toNat : Int) = 0 := by rw [hby]; rfl
        rw [hS2, HD0.out] at HDD
        rw [hS2] at hback
        dsimp only at HDD
        clear hS2 hby
        go_wp2_with fail
        refine HDD.out.mono ?_
        rintro e w13 ⟨⟨fa, fc, rfl, hro⟩, hb⟩
        dsimp only
        simp only [msgC, withE]
        have HAR := hideIt (show (#[.int .i64 m.kind, .int .i64 m.frm, .int .i64 m.dst, .int .i64 m.term, .int .i64 m.pi, .int .i64 m.pt, .slice fa l.length fc, .int .i64 m.commit, .bool m.ok, .int .i64 m.mtch, .int .i64 m.si, .int .i64 m.st, .string m.text] : Array Value) = msgC (withE (withE m none 0 0) fa l.length fc) from rfl)
        have hb5 := below1 w13 (.cells (msgC (withE (withE m none 0 0) fa l.length fc)) 28)
        have K14 := hideIt (blkK K12.out (below_via hb hb5))
        have J14 := hideIt (heap_alloc_new w13 (.cells (msgC (withE (withE m none 0 0) fa l.length fc)) 28))
        have B14 := hideIt (below_via B12.out (below_via hb hb5))
        have E14 := hideIt ((own_ents hro).below hb5 (Nat.le_refl _))
        clear hro hb hb5 K12 B12 HDD hback O12
        go_upto_region 16 with fail
        rw [HAR.out]
        generalize w13.alloc (.cells (msgC (withE (withE m none 0 0) fa l.length fc)) 28) = W14 at *
        generalize w13.heap.size = k14 at *
        clear HAR
        have HSA := hideIt (same_any (withE (withE m none 0 0) fa l.length fc) m l l W14 E14.out (HL.out _ B14.out) rfl HN.out hlm)
        rw [sameF_with m l.length fa fc HN.out, sameE_self] at HSA
        obtain ⟨⟨ac0, ac1, ac2, ac3, ac4, ac5, ac6, ac7, ac8, ac9, ac10, ac11, ac12⟩, acf, acz⟩ := msg_at K14.out
        obtain ⟨⟨bc0, bc1, bc2, bc3, bc4, bc5, bc6, bc7, bc8, bc9, bc10, bc11, bc12⟩, bcf, bcz⟩ := msg_at J14.out
        dsimp only [withE] at bc0 bc1 bc2 bc3 bc4 bc5 bc6 bc7 bc8 bc9 bc10 bc11 bc12
        go_wp2_with fail
        refine HSA.out.mono ?_
        rintro e w15 ⟨rfl, hb⟩
        dsimp only
        have B15 := hideIt (below_via B14.out hb)
        clear ac0 ac1 ac2 ac3 ac4 ac5 ac6 ac7 ac8 ac9 ac10 ac11 ac12 acf acz
        clear bc0 bc1 bc2 bc3 bc4 bc5 bc6 bc7 bc8 bc9 bc10 bc11 bc12 bcf bcz
        clear hb K14 J14 E14 B14 HSA
        go_wp2
        go_ret
        exact ⟨rfl, B15.out⟩
      · have hS2 := HV1.out (HV3.out hby)
        have hbn : ¬ (by1.toNat : Int) = 0 := by
          intro c
          apply hby
          have : by1.toNat = 0 := by omega
          exact UInt8.toNat_inj.1 this
        have hbq : ((by1.toNat : Int) == 0) = false := by simpa using hbn
        rw [hS2] at HDD
        dsimp only at HDD
        clear hS2 hby
        go_wp2_with fail
        refine HDD.out.mono ?_
        rintro e w13 ⟨rfl, hb⟩
        dsimp only
        simp only [msgC, zeroM]
        have B14 := hideIt (below_via B12.out (below_via hb (below1 w13 (.cells #[.int .i64 0, .int .i64 0, .int .i64 0, .int .i64 0, .int .i64 0, .int .i64 0, .slice none 0 0, .int .i64 0, .bool false, .int .i64 0, .int .i64 0, .int .i64 0, .string ⟨#[]⟩] 28))))
        clear hb K12 B12 HDD hback O12
        go_wp2
        go_ret
        exact ⟨rfl, B14.out⟩
end Go.Proofs.Ytagfolckodpioaa.K2
