/- The document's new ring, as XAt. -/
import Derived.Test.YtbenpnecjmpcbaaRefv
namespace Go.Proofs.Ytbenpnecjmpcbaa
open Go.RowKit
set_option linter.unusedVariables false
theorem NewAt.ring {w : World} {q n : Nat} {v1 v2 : Value} (h : NewAt w q n v1 v2) (h0 : 0 < n) (h1 : n ≤ 64) :
    ∃ b d cb cd, q < b ∧ q < d ∧ XAt w q b d n cb cd ⟨0, 0, fun i => i, fun _ => 0⟩ := by
  obtain ⟨hd, r1, r2, ne⟩ := h
  rcases r1.2 with ⟨_, e⟩ | ⟨b, cb, cs, rfl, hb, hB, hcb, _, hsz, ht⟩
  · omega
  rcases r2.2 with ⟨_, e⟩ | ⟨d, cd, ds, rfl, hd', hD, hcd, _, hszd, htd⟩
  · omega
  refine ⟨b, d, cb, cd, by omega, by omega, h0, h1, ?_, hcb, hcd, hd, ⟨cs, hB, by omega, fun i hi => ?_⟩, ⟨ds, hD, by omega, fun i hi => ?_⟩⟩
  · rcases ne with e | e
    · simp [Value.ownBlock] at e
    · exact fun c => e (by simp [Value.ownBlock, c])
  · have h3 : (cs.toList.take (n * 1))[i]? = (nums n)[i]? := by rw [ht]
    rw [List.getElem?_take_of_lt (by omega)] at h3
    simp [nums, hi] at h3
    simpa using h3
  · have h3 : (ds.toList.take (n * 1))[i]? = (zeros n)[i]? := by rw [htd]
    rw [List.getElem?_take_of_lt (by omega)] at h3
    simp [zeros, hi] at h3
    simpa using h3
/-- A new ring of the document. -/
theorem xnew (n : Nat) (w : World) (h0 : 0 < n) (hn : n ≤ 64) :
    Calls Try.prog 17 #[.int .i64 (n : Int)] w fun e w' => ∃ q b d cb cd, e = .returned (.pointer (some ⟨q, 0, none⟩)) ∧ w.heap.size ≤ q ∧ w.heap.size ≤ b ∧ w.heap.size ≤ d ∧ XAt w' q b d n cb cd ⟨0, 0, fun i => i, fun _ => 0⟩ ∧ Below w.heap.size w w' := by
  refine (ynew n w hn).mono ?_
  rintro e w' ⟨q, v1, v2, rfl, hq, hs, hb⟩
  obtain ⟨b, d, cb, cd, h1, h2, hx⟩ := hs.ring h0 hn
  exact ⟨q, b, d, cb, cd, rfl, hq, by omega, by omega, hx, hb⟩
end Go.Proofs.Ytbenpnecjmpcbaa
