/- Layer 4: contract of the document's find. -/
import Derived.Test.YtnkcbmlobikjkaaGreatDoorRqL
import Derived.Test.YtnkcbmlobikjkaaGreatDoorRqE
namespace Go.Proofs.YtnkcbmlobikjkaaGreatDoor
open Go.RowKit Suf Val Go.Maps

/-- What find answers: the first place of the key, or -1. -/
def foundAt (st : List VKS) (key : Txt) (z : Int) : Prop :=
  (∃ (k : Nat) (h : k < st.length), z = k ∧ st[k].2.1 = key ∧ ∀ x ∈ st.take k, ¬ x.2.1 = key) ∨ (z = -1 ∧ ∀ x ∈ st, ¬ x.2.1 = key)

set_option maxRecDepth 100000 in
set_option maxHeartbeats 8000000 in
theorem rfind_any (xa : Option Addr) (n xc base : Nat) (st : List VKS) (key : Txt) (w : World) (hO : OwnK 45 w base (.slice xa n xc) st) (hn : n = st.length) (h16 : n ≤ 16) :
    Calls Tryz.prog 33 #[.slice xa n xc, .string (bytesT key)] w fun e w' => (∃ z : Int, e = .returned (.int .i64 z) ∧ foundAt st key z) ∧ Below w.heap.size w w' := by
  have HO := hide hO
  have HN := hide hn
  clear hO hn
  obtain ⟨R, hR⟩ : ∃ R, R = foundAt st key := ⟨_, rfl⟩
  rw [← hR]
  have HR := hide hR
  clear hR
  obtain ⟨Y, hY⟩ : ∃ Y, Y = bytesT key := ⟨_, rfl⟩
  rw [← hY]
  have GY := hide hY
  clear hY
  go_enter Tryz.func33, Tryz.ntmps33
  go_wp2_with fail
  go_loopw [5] (fun i W => ∃ k : Nat, k ≤ n ∧ i = .int .i64 k ∧ Hid (∀ x ∈ st.take k, ¬ x.2.1 = key) ∧ Hid (Below w.heap.size w W)) (fun i _ => n - (intOf i).toNat)
  case atStart => exact ⟨0, Nat.zero_le _, rfl, fun x hx => (by cases hx), Below.refl _ _⟩
  case round =>
    obtain ⟨k, hk, rfl, hnone, hbel⟩ := hrel
    by_cases hlt : k < n
    · have hxk : k < st.length := by rw [← unhide HN]; exact hlt
      obtain ⟨g, rfl, hsev⟩ := ((unhide HO).below (unhide hbel)).at hxk
      have htk := hide (take_nextG st k hxk)
      have hfd : Hid (st[k].2.1 = key → R k) := fun h => by rw [unhide HR]; exact Or.inl ⟨k, hxk, rfl, h, unhide hnone⟩
      obtain ⟨y, hy⟩ : ∃ y, y = st[k] := ⟨_, rfl⟩
      rw [← hy] at hsev htk hfd
      obtain ⟨s0, _⟩ := hsev
      have hq := eq_txts y.2.1 key
      obtain ⟨q, hqq⟩ : ∃ q, q = (y.2.1 == key) := ⟨_, rfl⟩
      rw [← hqq] at hq
      obtain ⟨X, hX⟩ : ∃ X, X = bytesT y.2.1 := ⟨_, rfl⟩
      rw [← hX] at s0 hq
      rw [← unhide GY] at hq
      have GQ := hide hqq
      clear hX hqq hy hxk
      cases q
      · have hn2 : Hid (∀ x ∈ st.take (k + 1), ¬ x.2.1 = key) := fun x hx => by
          rw [unhide htk] at hx
          rcases List.mem_append.1 hx with h | h
          · exact unhide hnone x h
          · rw [List.mem_singleton] at h; rw [h]; exact fun he => by have := unhide GQ; rw [he] at this; simp at this
        go_wp2_with fail
        go_roundw
        case rel => exact ⟨k + 1, by omega, by go_num, hn2, hbel⟩
        case measure => simp [intOf]; omega
      · have hfin : Hid (R k) := unhide hfd (eq_of_beq (unhide GQ).symm)
        go_wp2_with fail
        go_ret
        exact ⟨⟨(k : Int), rfl, unhide hfin⟩, unhide hbel⟩
    · obtain rfl : k = n := by omega
      have hfin : Hid (R (-1)) := by
        show R (-1)
        have := unhide hnone
        rw [List.take_of_length_le (by rw [← unhide HN]; exact Nat.le_refl _)] at this
        rw [unhide HR]; exact Or.inr ⟨rfl, this⟩
      go_wp2_with fail
      go_ret
      exact ⟨⟨-1, rfl, unhide hfin⟩, unhide hbel⟩
end Go.Proofs.YtnkcbmlobikjkaaGreatDoor
