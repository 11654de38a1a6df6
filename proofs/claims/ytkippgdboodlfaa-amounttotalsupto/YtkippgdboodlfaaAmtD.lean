/- Layer 1: contracts of Total and Sum. -/
import Derived.Test.YtkippgdboodlfaaAmtC
namespace Go.Proofs.Ytkippgdboodlfaa
open Go.RowKit

/-- The error of the first number of a list that has one; the sum; the error of the sum. -/
def chkL : List Int → Int
  | [] => 0
  | z :: zs => fst2 (chk z) (chkL zs)
def zsum : List Int → Int
  | [] => 0
  | z :: zs => z + zsum zs
def eTot (zs : List Int) : Int := fst2 (chkL zs) (if zsum zs ≤ 1125899906842624 then 0 else 10)

theorem chkL_snoc : ∀ (zs : List Int) (z : Int), chkL (zs ++ [z]) = fst2 (chkL zs) (chk z)
  | [], z => by show fst2 (chk z) 0 = fst2 0 (chk z); rw [fst2_zero]; unfold fst2; split <;> omega
  | y :: zs, z => by
    show fst2 (chk y) (chkL (zs ++ [z])) = fst2 (fst2 (chk y) (chkL zs)) (chk z)
    rw [chkL_snoc zs z]
    unfold fst2
    by_cases h : chk y = 0
    · simp [h]
    · simp [h]
theorem zsum_snoc : ∀ (zs : List Int) (z : Int), zsum (zs ++ [z]) = zsum zs + z
  | [], z => by show z + 0 = 0 + z; omega
  | y :: zs, z => by show y + zsum (zs ++ [z]) = y + zsum zs + z; rw [zsum_snoc zs z]; omega
theorem chkL_append : ∀ (xs ys : List Int), chkL (xs ++ ys) = fst2 (chkL xs) (chkL ys)
  | [], ys => by rw [List.nil_append]; exact (fst2_zero _).symm
  | y :: zs, ys => by
    show fst2 (chk y) (chkL (zs ++ ys)) = fst2 (fst2 (chk y) (chkL zs)) (chkL ys)
    rw [chkL_append zs ys]
    unfold fst2
    by_cases h : chk y = 0
    · simp [h]
    · simp [h]
theorem zsum_append : ∀ (xs ys : List Int), zsum (xs ++ ys) = zsum xs + zsum ys
  | [], ys => by show zsum ys = 0 + zsum ys; omega
  | y :: zs, ys => by show y + zsum (zs ++ ys) = y + zsum zs + zsum ys; rw [zsum_append zs ys]; omega
theorem zsum_nonneg : ∀ (zs : List Int), chkL zs = 0 → 0 ≤ zsum zs
  | [], _ => Int.le_refl _
  | y :: zs, h => by
    have h' := fst2_eq (show fst2 (chk y) (chkL zs) = 0 from h)
    have := chk_eq h'.1
    have := zsum_nonneg zs h'.2
    show 0 ≤ y + zsum zs
    omega
theorem take_snoc (zs : List Int) (k : Nat) (h : k < zs.length) : zs.take (k + 1) = zs.take k ++ [zs.getD k 0] := by
  rw [List.take_succ_eq_append_getElem h]; simp [List.getD, List.getElem?_eq_getElem h]
theorem take_drop_chk (zs : List Int) (k : Nat) : chkL zs = fst2 (chkL (zs.take k)) (chkL (zs.drop k)) := by
  rw [← chkL_append, List.take_append_drop]
theorem take_drop_sum (zs : List Int) (k : Nat) : zsum zs = zsum (zs.take k) + zsum (zs.drop k) := by
  rw [← zsum_append, List.take_append_drop]
theorem chkL_at (zs : List Int) (k : Nat) (h : k < zs.length) (h0 : chkL (zs.take k) = 0) (h1 : ¬ chk (zs.getD k 0) = 0) : chkL zs = chk (zs.getD k 0) := by
  rw [take_drop_chk zs (k + 1), take_snoc zs k h, chkL_snoc, h0, fst2_zero, fst2_ne _ h1]
theorem chkL_next (zs : List Int) (k : Nat) (h : k < zs.length) (h0 : chkL (zs.take k) = 0) (h1 : chk (zs.getD k 0) = 0) : chkL (zs.take (k + 1)) = 0 := by
  rw [take_snoc zs k h, chkL_snoc, h0, fst2_zero, h1]
theorem chkL_el (zs : List Int) (k : Nat) (h : k < zs.length) (h0 : chkL zs = 0) : chk (zs.getD k 0) = 0 := by
  rw [take_drop_chk zs (k + 1), take_snoc zs k h, chkL_snoc] at h0
  exact (fst2_eq (fst2_eq h0).1).2
theorem chkL_take (zs : List Int) (k : Nat) (h0 : chkL zs = 0) : chkL (zs.take k) = 0 := by
  rw [take_drop_chk zs k] at h0; exact (fst2_eq h0).1
theorem chkL_drop (zs : List Int) (k : Nat) (h0 : chkL zs = 0) : chkL (zs.drop k) = 0 := by
  rw [take_drop_chk zs k] at h0; exact (fst2_eq h0).2
theorem zsum_next (zs : List Int) (k : Nat) (h : k < zs.length) : zsum (zs.take (k + 1)) = zsum (zs.take k) + zs.getD k 0 := by
  rw [take_snoc zs k h, zsum_snoc]
theorem zsum_over (zs : List Int) (k : Nat) (h : k < zs.length) (h0 : chkL zs = 0) (h1 : 1125899906842624 < zsum (zs.take k) + zs.getD k 0) : eTot zs = 10 := by
  have hs := take_drop_sum zs (k + 1)
  have hn := zsum_nonneg _ (chkL_drop zs (k + 1) h0)
  rw [zsum_next zs k h] at hs
  unfold eTot; rw [h0, fst2_zero, if_neg (by omega)]
theorem eTot_ok (zs : List Int) (h0 : chkL zs = 0) (h1 : zsum zs ≤ 1125899906842624) : eTot zs = 0 := by
  unfold eTot; rw [h0, fst2_zero, if_pos h1]
theorem eTot_bad (zs : List Int) (h0 : ¬ chkL zs = 0) : eTot zs = chkL zs := fst2_ne _ h0

theorem ret_pair {a b a' b' : Int} (h : a = a') (h1 : b = b') : Ending.returned (.tuple #[.int .i64 a, .int .i64 b]) = .returned (.tuple #[.int .i64 a', .int .i64 b']) := by
  subst h h1; rfl

set_option maxHeartbeats 1000000 in
theorem total_any (zs : List Int) (a : Option Addr) (b off len cap : Nat) (w : World) (hl : len = zs.length) (hm : zs.length ≤ maxLen) (ha : 0 < zs.length → a = some ⟨b, off, none⟩)
    (hc : ∀ i, i < zs.length → w.cell? ⟨b, off + i, none⟩ = some (.int .i64 (zs.getD i 0))) :
    Calls Try.prog 22 #[.slice a len cap] w fun e w' => e = .returned (.tuple #[.int .i64 (keep (eTot zs) (zsum zs)), .int .i64 (eTot zs)]) ∧ w' = w := by
  subst hl
  unfold maxLen at hm
  have HC := hide hc
  have HA := hide ha
  clear hc ha
  go_enter Try.func22, Try.ntmps22
  go_wp2_with fail
  go_loop [13] (fun i => ∃ k : Nat, k ≤ zs.length ∧ i = .int .i64 k ∧ Hid (chkL (zs.take k) = 0)) (fun i => zs.length - (intOf i).toNat)
  case atStart => exact ⟨0, Nat.zero_le _, rfl, rfl⟩
  case round =>
    obtain ⟨k, hk, rfl, hchk⟩ := hrel
    by_cases hlt : k < zs.length
    · have hcell := unhide HC k hlt
      obtain rfl := unhide HA (by omega)
      by_cases hz : chk (zs.getD k 0) = 0
      · have hn := hide (chkL_next zs k hlt (unhide hchk) hz)
        have ht : (chk (zs.getD k 0) != 0) = false := by rw [hz]; rfl
        clear hz hchk
        generalize zs.getD k 0 = z at *
        go_wp2_with (go_at_call 10; refine (check_any _ _).mono ?_; rintro e w' ⟨rfl, rfl⟩)
        go_round
        case rel => exact ⟨k + 1, by omega, by go_num, hn⟩
        case measure => simp [intOf]; omega
      · have he := chkL_at zs k hlt (unhide hchk) hz
        have hx := hide ((eTot_bad zs (by rw [he]; exact hz)).trans he)
        have hy := hide (keep_no (chk (zs.getD k 0)) (zsum zs) hz)
        have ht : (chk (zs.getD k 0) != 0) = true := bne_iff_ne.2 hz
        clear hz hchk he
        generalize zs.getD k 0 = z at *
        go_wp2_with (go_at_call 10; refine (check_any _ _).mono ?_; rintro e w' ⟨rfl, rfl⟩)
        go_ret2
        exact ⟨ret_pair (by rw [unhide hx]; exact (unhide hy).symm) (unhide hx).symm, rfl⟩
    · have h0 : Hid (chkL zs = 0) := by
        have := unhide hchk; rw [List.take_of_length_le (by omega)] at this; exact this
      clear hchk
      go_wp2_with fail
      go_loop [7, 25] (fun t i => ∃ k : Nat, k ≤ zs.length ∧ i = .int .i64 k ∧ t = .int .i64 (zsum (zs.take k)) ∧ zsum (zs.take k) ≤ 1125899906842624) (fun _ i => zs.length - (intOf i).toNat)
      case atStart => exact ⟨0, Nat.zero_le _, rfl, rfl, show (0 : Int) ≤ 1125899906842624 by omega⟩
      case round =>
        obtain ⟨j, hj, rfl, rfl, hsum⟩ := hrel
        have hpos := zsum_nonneg _ (chkL_take zs j (unhide h0))
        by_cases hlt : j < zs.length
        · have hcell := unhide HC j hlt
          obtain rfl := unhide HA (by omega)
          have hel := chk_eq (chkL_el zs j hlt (unhide h0))
          have hnx := hide (zsum_next zs j hlt)
          by_cases hz : zsum (zs.take j) + zs.getD j 0 ≤ 1125899906842624
          · have ht : (chk (zsum (zs.take j) + zs.getD j 0) != 0) = false := by rw [chk_ok (by omega) hz]; rfl
            generalize zs.getD j 0 = z at *
            generalize zsum (zs.take j) = s at *
            obtain ⟨el0, el1⟩ := hel
            go_wp2_with (go_at_call 10; refine (check_any _ _).mono ?_; rintro e w' ⟨rfl, rfl⟩)
            go_round
            case rel => exact ⟨j + 1, by omega, by go_num, by rw [unhide hnx], by rw [unhide hnx]; exact hz⟩
            case measure => simp [intOf]; omega
          · have hx := hide (zsum_over zs j hlt (unhide h0) (by omega))
            have hy := hide (keep_no 10 (zsum zs) (by omega))
            have hh : Hid (chk (zsum (zs.take j) + zs.getD j 0) = 10) := chk_high (by omega)
            have ht : (chk (zsum (zs.take j) + zs.getD j 0) != 0) = true := by rw [unhide hh]; rfl
            generalize zs.getD j 0 = z at *
            generalize zsum (zs.take j) = s at *
            obtain ⟨el0, el1⟩ := hel
            go_wp2_with (go_at_call 10; refine (check_any _ _).mono ?_; rintro e w' ⟨rfl, rfl⟩)
            go_ret2
            exact ⟨ret_pair (by rw [unhide hx]; exact (unhide hy).symm) (by rw [unhide hx]; exact unhide hh), rfl⟩
        · have hfull : zs.take j = zs := List.take_of_length_le (by omega)
          have hx := hide (eTot_ok zs (unhide h0) (by rw [hfull] at hsum; exact hsum))
          have HF := hide hfull
          clear hfull
          go_wp2_with fail
          go_ret2
          exact ⟨ret_pair (by rw [unhide hx, unhide HF]; exact (keep_yes 0 _ rfl).symm) (unhide hx).symm, rfl⟩

end Go.Proofs.Ytkippgdboodlfaa
