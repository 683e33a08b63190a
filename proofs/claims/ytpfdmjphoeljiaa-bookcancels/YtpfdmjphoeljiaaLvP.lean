/- The document's example, in plain data. -/
import Derived.Test.YtpfdmjphoeljiaaPlT
namespace Go.Proofs.Ytpfdmjphoeljiaa
open Go.RowKit
set_option linter.all false
theorem sort_nil : sortL [] = [] := by simp [sortL]
theorem sort_one (x : Int) : sortL [x] = [x] := by simp [sortL]
def lane0 : LaneV := ⟨false, 1, [], [], []⟩
def lane1 : LaneV := ⟨false, 2, [], [⟨1, 1, 10, 5⟩], []⟩
def lane2 : LaneV := ⟨false, 3, [], [⟨1, 1, 10, 2⟩], [⟨1, 0, 30⟩, ⟨2, 0, 6⟩, ⟨2, 1, 3⟩]⟩
theorem chk0 : chkB lane0 = true := by
  unfold chkB unlB
  rw [show idsL lane0.bids ++ idsL lane0.asks = [] from rfl, sort_nil]
  rfl
theorem chk1 : chkB lane1 = true := by
  unfold chkB unlB
  rw [show idsL lane1.bids ++ idsL lane1.asks = [1] from rfl, sort_one]
  rfl
theorem place0 : placeL lane0 1 2 10 5 false = (lane1, [], 1, 0) := by
  unfold placeL refE
  rw [chk0]
  rfl
theorem place1 : placeL lane1 2 1 12 3 false = (lane2, [⟨2, 1, 10, 3⟩], 2, 0) := by
  unfold placeL refE
  rw [chk1]
  rfl
end Go.Proofs.Ytpfdmjphoeljiaa
