/- Requests: Fits. -/
import Derived.Test.YtilinemcmgjiiaaDoorReq
namespace Go.Proofs.YtilinemcmgjiiaaDoor
open Go.RowKit
set_option linter.all false
/-- A request. -/
structure ReqV where
  kind : Int
  acct : Int
  lane : Int
  asset : Int
  side : Int
  price : Int
  n : Int
  now : Bool
  key : KeyV
  dst : Int
def reqC (r : ReqV) : Array Value := #[.int .i64 r.kind, .int .i64 r.acct, .int .i64 r.lane, .int .i64 r.asset, .int .i64 r.side, .int .i64 r.price, .int .i64 r.n, .bool r.now, .int .i64 r.key.1, .int .i64 r.key.2, .int .i64 r.dst]
def formT : List (Int × Int) := [(0, 0), (37, 1), (37, 1), (123, 3), (35, 2), (2, 2), (2, 2), (1, 5), (1, 1), (384, 8)]
def formF (k : Int) : Int := (formT.getD k.toNat (0, 0)).1
def formK (k : Int) : Int := (formT.getD k.toNat (0, 0)).2
/-- The table as the program's text lays it. -/
def Forms (w : World) : Prop := 0 < w.heap.size ∧ ∀ k : Int, 1 ≤ k → k ≤ 9 → w.cell? ⟨0, k.toNat * 2, none⟩ = some (.int .i64 (formF k)) ∧ w.cell? ⟨0, k.toNat * 2 + 1, none⟩ = some (.int .i64 (formK k))
theorem Forms.keep {w w' : World} (h : Forms w) (hb : Below w.heap.size w w') : Forms w' :=
  ⟨Nat.lt_of_lt_of_le h.1 hb.size, fun k h1 h2 => ⟨(hb.cell (p := ⟨0, k.toNat * 2, none⟩) h.1).trans (h.2 k h1 h2).1, (hb.cell (p := ⟨0, k.toNat * 2 + 1, none⟩) h.1).trans (h.2 k h1 h2).2⟩⟩
def fitsB (r : ReqV) : Bool :=
  wiB r.kind 1 9 && (fitB (bits .and .i64 (formF r.kind) 1) r.acct 1 8 && (fitB (bits .and .i64 (formF r.kind) 2) r.lane 1 3 && (fitB (bits .and .i64 (formF r.kind) 4) r.asset 0 3 && (fitB (bits .and .i64 (formF r.kind) 8) r.side 1 2 && (fitB (bits .and .i64 (formF r.kind) 16) r.price 1 1000000 && (fitB (bits .and .i64 (formF r.kind) 32) r.n 1 1000000 && ((bits .and .i64 (formF r.kind) 64 != 0 || !r.now) && (fitK (bits .and .i64 (formF r.kind) 128) r.key && fitB (bits .and .i64 (formF r.kind) 256) r.dst 0 3))))))))
set_option maxHeartbeats 8000000 in
set_option maxRecDepth 100000 in
theorem fits_is (r : ReqV) (w : World) (hF : Forms w) : Calls Tryd.prog 32 #[.agg (reqC r)] w fun e w' => e = .returned (.bool (fitsB r)) ∧ Below w.heap.size w w' := by
  obtain ⟨k, a, l, s, d, p, n, o, ⟨kk, kn⟩, t⟩ := r
  unfold reqC
  dsimp only
  have X0 := hideIt (below1 w (.cells #[.int .i64 k, .int .i64 a, .int .i64 l, .int .i64 s, .int .i64 d, .int .i64 p, .int .i64 n, .bool o, .int .i64 kk, .int .i64 kn, .int .i64 t] 39))
  have H0 := hideIt (fun W => withinS_is k 1 9 W)
  unfold fitsB
  dsimp only
  by_cases hk : 1 ≤ k ∧ k ≤ 9
  · have hk1 := hk.1
    have hk2 := hk.2
    have hw : wiB k 1 9 = true := decide_eq_true hk
    rw [hw] at H0 ⊢
    rw [Bool.true_and]
    have c0 := (X0.out.cell (p := ⟨0, k.toNat * 2, none⟩) hF.1).trans (hF.2 k hk1 hk2).1
    clear hF hk hw
    generalize formF k = has at *
    have F1 := hideIt (fun W => fitsN_is (bits .and .i64 has 1) a 1 8 W)
    have F2 := hideIt (fun W => fitsN_is (bits .and .i64 has 2) l 1 3 W)
    have F4 := hideIt (fun W => fitsN_is (bits .and .i64 has 4) s 0 3 W)
    have F8 := hideIt (fun W => fitsN_is (bits .and .i64 has 8) d 1 2 W)
    have F16 := hideIt (fun W => fitsN_is (bits .and .i64 has 16) p 1 1000000 W)
    have F32 := hideIt (fun W => fitsN_is (bits .and .i64 has 32) n 1 1000000 W)
    have F128 := hideIt (fun W => fitsKey_is (bits .and .i64 has 128) kk kn W)
    have F256 := hideIt (fun W => fitsN_is (bits .and .i64 has 256) t 0 3 W)
    have XC : Hid (∀ W, Below (w.alloc (.cells #[.int .i64 k, .int .i64 a, .int .i64 l, .int .i64 s, .int .i64 d, .int .i64 p, .int .i64 n, .bool o, .int .i64 kk, .int .i64 kn, .int .i64 t] 39)).heap.size (w.alloc (.cells #[.int .i64 k, .int .i64 a, .int .i64 l, .int .i64 s, .int .i64 d, .int .i64 p, .int .i64 n, .bool o, .int .i64 kk, .int .i64 kn, .int .i64 t] 39)) W → W.cell? ⟨w.heap.size, 10, none⟩ = some (.int .i64 t)) := fun W hb => box_cell hb 10
    generalize fitB (bits .and .i64 has 1) a 1 8 = b1 at *
    generalize fitB (bits .and .i64 has 2) l 1 3 = b2 at *
    generalize fitB (bits .and .i64 has 4) s 0 3 = b4 at *
    generalize fitB (bits .and .i64 has 8) d 1 2 = b8 at *
    generalize fitB (bits .and .i64 has 16) p 1 1000000 = b16 at *
    generalize fitB (bits .and .i64 has 32) n 1 1000000 = b32 at *
    generalize fitK (bits .and .i64 has 128) (kk, kn) = b128 at *
    generalize fitB (bits .and .i64 has 256) t 0 3 = b256 at *
    go_enter Tryd.func32, Tryd.ntmps32
    go_wp2_with fail
    refine (H0.out _).mono ?_
    rintro e w1 ⟨rfl, rfl⟩
    dsimp only
    go_wp2_with fail
    refine (F1.out _).mono ?_
    rintro e w1 ⟨rfl, rfl⟩
    dsimp only
    cases b1
    · go_wp2
      all_goals go_ret
      all_goals exact ⟨by simp, X0.out⟩
    go_wp2_with fail
    refine (F2.out _).mono ?_
    rintro e w1 ⟨rfl, rfl⟩
    dsimp only
    cases b2
    · go_wp2
      all_goals go_ret
      all_goals exact ⟨by simp, X0.out⟩
    go_wp2_with fail
    refine (F4.out _).mono ?_
    rintro e w1 ⟨rfl, rfl⟩
    dsimp only
    cases b4
    · go_wp2
      all_goals go_ret
      all_goals exact ⟨by simp, X0.out⟩
    go_wp2_with fail
    refine (F8.out _).mono ?_
    rintro e w1 ⟨rfl, rfl⟩
    dsimp only
    cases b8
    · go_wp2
      all_goals go_ret
      all_goals exact ⟨by simp, X0.out⟩
    go_wp2_with fail
    refine (F16.out _).mono ?_
    rintro e w1 ⟨rfl, rfl⟩
    dsimp only
    cases b16
    · go_wp2
      all_goals go_ret
      all_goals exact ⟨by simp, X0.out⟩
    go_wp2_with fail
    refine (F32.out _).mono ?_
    rintro e w1 ⟨rfl, rfl⟩
    dsimp only
    cases b32
    · go_wp2
      all_goals go_ret
      all_goals exact ⟨by simp, X0.out⟩
    cases hb : (bits .and .i64 has 64 != 0)
    · cases o
      · go_wp2_with fail
        refine (F128.out _).mono ?_
        rintro e w1 ⟨rfl, hb1⟩
        dsimp only
        have x10 := XC.out _ hb1
        have HB := hideIt (below_via X0.out hb1)
        clear hb1
        cases b128
        · go_wp2
          go_ret
          exact ⟨by rw [hb]; simp, HB.out⟩
        · go_wp2_with fail
          refine (F256.out _).mono ?_
          rintro e w1 ⟨rfl, rfl⟩
          dsimp only
          go_wp2
          go_ret
          exact ⟨by rw [hb]; simp, HB.out⟩
      · go_wp2
        go_ret
        exact ⟨by rw [hb]; simp, X0.out⟩
    · go_wp2_with fail
      refine (F128.out _).mono ?_
      rintro e w1 ⟨rfl, hb1⟩
      dsimp only
      have x10 := XC.out _ hb1
      have HB := hideIt (below_via X0.out hb1)
      clear hb1
      cases b128
      · go_wp2
        go_ret
        exact ⟨by rw [hb]; simp, HB.out⟩
      · go_wp2_with fail
        refine (F256.out _).mono ?_
        rintro e w1 ⟨rfl, rfl⟩
        dsimp only
        go_wp2
        go_ret
        exact ⟨by rw [hb]; simp, HB.out⟩
  · have hw : wiB k 1 9 = false := decide_eq_false hk
    rw [hw] at H0 ⊢
    rw [Bool.false_and]
    go_enter Tryd.func32, Tryd.ntmps32
    go_wp2_with fail
    refine (H0.out _).mono ?_
    rintro e w1 ⟨rfl, rfl⟩
    dsimp only
    go_wp2
    go_ret
    exact ⟨rfl, X0.out⟩
end Go.Proofs.YtilinemcmgjiiaaDoor
