/- Layer 1: the contract of the document's Total. -/
import Derived.Test.YtkippgdboodlfaaAmtT
namespace Go.Proofs.Ytkippgdboodlfaa
open Go.ChangeShapes Go.WideShapes Go.ChangeAt Go.RowKit

/-- Numbers as pairs with 0. -/
def prs (zs : List Int) : List (Int × Int) := zs.map fun z => (z, 0)
theorem prs_length (zs : List Int) : (prs zs).length = zs.length := by simp [prs]
theorem chkA_zero (z : Int) : chkA z 0 = chk z := by
  unfold chkA fst2; split
  · next h => rw [h]; rfl
  · rfl
theorem chkP_prs : ∀ zs : List Int, chkP (prs zs) = chkL zs
  | [] => rfl
  | z :: zs => by show fst2 (chkA z 0) (chkP (prs zs)) = fst2 (chk z) (chkL zs); rw [chkP_prs zs, chkA_zero]
theorem sumA_prs (zs : List Int) : sumA (prs zs) = zsum zs := by
  unfold sumA prs; rw [List.map_map]; congr 1; induction zs with
  | nil => rfl
  | cons z zs ih => simp; exact ih
theorem sumB_prs : ∀ zs : List Int, sumB (prs zs) = 0
  | [] => rfl
  | z :: zs => by show 0 + sumB (prs zs) = 0; rw [sumB_prs zs]; rfl
theorem eSum_prs (zs : List Int) : eSum (prs zs) = eTot zs := by
  unfold eSum eTot; rw [chkP_prs, sumA_prs, sumB_prs, chkA_zero]
  by_cases h : chkL zs = 0
  · rw [h, fst2_zero, fst2_zero]
    have := zsum_nonneg zs h
    by_cases g : zsum zs ≤ 1125899906842624
    · rw [if_pos g, chk_ok this g]
    · rw [if_neg g, chk_high (by omega)]
  · rw [fst2_ne _ h, fst2_ne _ h]
theorem flat_prs_snoc (zs : List Int) (k : Nat) (h : k < zs.length) : flat (prs (zs.take (k + 1))) = flat (prs (zs.take k)) ++ [.int .i64 (zs.getD k 0), .int .i64 0] := by
  rw [take_snoc zs k h]; unfold prs; rw [List.map_append, flat_append]; rfl

set_option maxHeartbeats 1000000 in
theorem rtotal_any (zs : List Int) (a : Option Addr) (b off len cap : Nat) (w : World) (hl : len = zs.length) (hm : zs.length ≤ 1048576) (ha : 0 < zs.length → a = some ⟨b, off, none⟩)
    (hc : ∀ i, i < zs.length → w.cell? ⟨b, off + i, none⟩ = some (.int .i64 (zs.getD i 0))) :
    Calls Try.prog 23 #[.slice a len cap] w fun e w' => e = .returned (.tuple #[.int .i64 (keep (eTot zs) (zsum zs)), .int .i64 (eTot zs)]) ∧ Below w.heap.size w w' := by
  subst hl
  have HC := hide hc
  have HA := hide ha
  clear hc ha
  obtain ⟨i0, hi, hz0, hz1, hz2⟩ := info_parts Try.infoPair
  have HI := hide hi
  have HZ := hide hz0
  have HS := hide hz1
  have HY := hide hz2
  clear hi hz0 hz1 hz2
  go_enter Try.func23, Try.ntmps23
  go_wp2_with fail
  go_loopw [4, 5] (fun v i W => ∃ k : Nat, k ≤ zs.length ∧ i = .int .i64 k ∧ Hid (W.ownsRow w.heap.size 26 2 v k (flat (prs (zs.take k)))) ∧ Hid (Below w.heap.size w W)) (fun _ i _ => zs.length - (intOf i).toNat)
  case atStart => exact ⟨0, Nat.zero_le _, rfl, ⟨rfl, Or.inl ⟨rfl, rfl⟩⟩, Below.refl _ _⟩
  case round =>
    obtain ⟨k, hk, rfl, hown, hbel⟩ := hrel
    have hsz := (unhide hbel).size
    by_cases hlt : k < zs.length
    · obtain rfl := unhide HA (by omega)
      have d0 := cell_kept (unhide hbel) (unhide HC k hlt)
      have hkl : (k : Int) < zs.length := by omega
      have hnx := hide (flat_prs_snoc zs k hlt)
      generalize zs.getD k 0 = z at *
      go_wp2_with (first | (at_builtin; refine wpList_append_lies _ rfl _ _ 31 rfl w.heap.size 26 i0 (.agg #[.int .i64 0, .int .i64 0]) 2 16 Try.underlying31 (unhide HI) (unhide HZ) (unhide HS) (unhide HY) rfl (by omega) _ _ _ rfl ((unhide hown).alloc _) ⟨wr.heap.size, 0, none⟩ 1 1 [.int .i64 z, .int .i64 0] rfl rfl new_cells2 one_cells2 (by omega) (by unfold maxLen; omega) (by omega) (by simp; omega) _ rfl ?_; intro g cap2 w2 hown2 hgrow hat hlt2))
      have O2 := hide hown2
      have B2 : Hid (Below w.heap.size w w2) := ((unhide hbel).alloc hsz _).grown hgrow (by simp; omega) (own_ge (unhide hown))
      clear hown2 hgrow hat hlt2
      go_wp2_with fail
      go_roundw
      case rel => exact ⟨k + 1, by omega, by go_num, by rw [unhide hnx]; exact unhide O2, B2⟩
      case measure => simp [intOf]; omega
    · have hkn : k = zs.length := by omega
      subst hkn
      have hown2 := unhide hown
      rw [List.take_length] at hown2
      have hown3 : wr.ownsRow w.heap.size 26 2 u4 (prs zs).length (flat (prs zs)) := by rw [prs_length]; exact hown2
      obtain ⟨a2, cap2, g, rfl, hp2⟩ := own_pairs hown3
      rw [prs_length] at *
      have HP2 := hide hp2
      clear hown hown2 hown3 hp2
      go_wp2_with fail
      refine (rsum_any (prs zs) a2 g 0 zs.length cap2 _ (prs_length zs).symm (by rw [prs_length]; unfold maxLen; omega) (unhide HP2).1 (unhide HP2).2).mono ?_
      rintro e w2 ⟨he, hw2⟩
      rw [eSum_prs, sumA_prs] at he
      subst he
      have HB := hide (below_call (unhide hbel) hsz hw2)
      have hsz2 := (unhide HB).size
      clear hw2
      go_wp2_with fail
      go_ret2
      exact ⟨rfl, (unhide HB).alloc hsz2 _⟩

end Go.Proofs.Ytkippgdboodlfaa
