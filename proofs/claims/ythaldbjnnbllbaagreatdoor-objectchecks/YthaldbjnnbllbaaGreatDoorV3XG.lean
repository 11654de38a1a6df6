/- Layer 3: contracts of the document's in, ordered, Check. -/
import Derived.Test.YthaldbjnnbllbaaGreatDoorV3VG
import Derived.Test.YthaldbjnnbllbaaGreatDoorV3EG
namespace Go.Proofs.YthaldbjnnbllbaaGreatDoor
open Go.RowKit Suf Val

theorem contains_next (l : List Txt) (x : Txt) (k : Nat) (h : k < l.length) : (l.take (k + 1)).contains x = ((l.take k).contains x || (l[k] == x)) := by
  rw [List.take_add_one, List.getElem?_eq_getElem h, Bool.eq_iff_iff, Bool.or_eq_true, List.contains_iff_mem, List.contains_iff_mem, List.mem_append, beq_iff_eq]
  simp
  exact or_congr_right ⟨fun h => h.symm, fun h => h.symm⟩
theorem contains_yes (l : List Txt) (x : Txt) (k : Nat) (h : k < l.length) (e : l[k] = x) : l.contains x = true := by
  rw [List.contains_iff_mem, ← e]; exact List.getElem_mem h
theorem eq_list (t x : Txt) : ((bytesT t).toList == (bytesT x).toList) = (t == x) := by rw [Lib.toList_data, Lib.toList_data]; rfl

set_option maxHeartbeats 1000000 in
theorem rin_any (v : Value) (l : List Txt) (x : Txt) (w : World) (hv : Strs w v l) :
    Calls Tryz.prog 105 #[v, .string (bytesT x)] w fun e w' => e = .returned (.bool (l.contains x)) ∧ Below w.heap.size w w' := by
  obtain ⟨r, hr⟩ : ∃ r, r = l.contains x := ⟨_, rfl⟩
  rw [← hr]
  have HR := hide hr
  have hlen := hv.len
  clear hr
  obtain ⟨X, hX⟩ : ∃ X, X = bytesT x := ⟨_, rfl⟩
  rw [← hX]
  have GX := hide hX
  clear hX
  rcases hv.open with ⟨a, c, rfl, rfl⟩ | ⟨b, o, c, hpos, rfl, hcell⟩
  · have hf : Hid (r = false) := unhide HR
    clear hv
    go_enter Tryz.func105, Tryz.ntmps105
    go_wp2_with fail
    go_loop [5] (fun i => i = .int .i64 0) (fun _ => 0)
    case atStart => rfl
    case round =>
      subst hrel
      go_wp2_with fail
      go_ret
      exact ⟨ret_bool (unhide hf).symm, Below.refl _ _⟩
  · have HC := hide hcell
    clear hv hcell
    obtain ⟨n, hn⟩ : ∃ n, n = l.length := ⟨_, rfl⟩
    rw [← hn] at hlen hpos ⊢
    have HN := hide hn
    clear hn
    go_enter Tryz.func105, Tryz.ntmps105
    go_wp2_with fail
    go_loopw [5] (fun i W => ∃ k : Nat, k ≤ n ∧ i = .int .i64 k ∧ Hid (Below w.heap.size w W) ∧ Hid ((l.take k).contains x = false)) (fun i _ => n - (intOf i).toNat)
    case atStart => exact ⟨0, Nat.zero_le _, rfl, Below.refl _ _, rfl⟩
    case round =>
      obtain ⟨k, hk, rfl, hbel, hall⟩ := hrel
      by_cases hlt : k < n
      · have hlk : k < l.length := by rw [← unhide HN]; exact hlt
        have hc := cell_kept (unhide hbel) (unhide HC k hlk)
        obtain ⟨t, ht⟩ : ∃ t, t = l[k] := ⟨_, rfl⟩
        rw [← ht] at hc
        obtain ⟨q, hq⟩ : ∃ q, q = (t == x) := ⟨_, rfl⟩
        have hg : ((bytesT t).toList == X.toList) = q := by rw [hq, unhide GX]; exact eq_list t x
        cases q
        · have hn2 : Hid ((l.take (k + 1)).contains x = false) := by
            show _ = _
            rw [contains_next l x k hlk, unhide hall, ← ht, ← hq]; rfl
          clear ht hq hlk
          go_wp2_with fail
          go_roundw
          case rel => exact ⟨k + 1, by omega, by go_num, hbel, hn2⟩
          case measure => simp [intOf]; omega
        · have hn2 : Hid (r = true) := (unhide HR).trans (contains_yes l x k hlk (by rw [← ht]; exact beq_iff_eq.1 hq.symm))
          clear ht hq hlk
          go_wp2_with fail
          go_ret
          exact ⟨ret_bool (unhide hn2).symm, unhide hbel⟩
      · obtain rfl : k = n := by omega
        have hn2 : Hid (r = false) := (unhide HR).trans (by rw [← unhide hall, List.take_of_length_le (by rw [← unhide HN]; exact Nat.le_refl _)])
        go_wp2_with fail
        go_ret
        exact ⟨ret_bool (unhide hn2).symm, unhide hbel⟩

theorem ordered_long (l : List Txt) (h : 64 < l.length) : orderedB l = false := by unfold orderedB; rw [decide_eq_false (by omega)]; rfl
theorem ordered_short (l : List Txt) (h : l.length ≤ 64) : orderedB l = (l.all valueB && rises l) := by unfold orderedB; rw [decide_eq_true h, Bool.true_and]
theorem ord_value (l : List Txt) (h64 : l.length ≤ 64) (k : Nat) (h : k < l.length) (hv : valueB l[k] = false) : orderedB l = false := by
  rw [ordered_short l h64, all_no l k h hv]; rfl
theorem ord_falls (l : List Txt) (h64 : l.length ≤ 64) (k : Nat) (h : k + 1 < l.length) (hlt : lt l[k] l[k + 1] = false) : orderedB l = false := by
  rw [ordered_short l h64, rises_no l k h hlt, Bool.and_false]
/-- What holds ahead of the place k: values that rise. -/
def ordTo (l : List Txt) (k : Nat) : Prop := (l.take k).all valueB = true ∧ rises (l.take k) = true
theorem ordTo_zero (l : List Txt) : ordTo l 0 := ⟨rfl, rfl⟩
theorem rises_one (l : List Txt) : rises (l.take 1) = true := by cases l <;> rfl
theorem ordTo_first {l : List Txt} (h : 0 < l.length) (hv : valueB l[0] = true) : ordTo l 1 := ⟨by rw [all_next l 0 h, hv]; rfl, rises_one l⟩
theorem ordTo_next {l : List Txt} {k : Nat} (ho : ordTo l (k + 1)) (h : k + 1 < l.length) (hv : valueB l[k + 1] = true) (hlt : lt l[k] l[k + 1] = true) : ordTo l (k + 2) :=
  ⟨by rw [all_next l (k + 1) h, ho.1, hv]; rfl, rises_next l k h ho.2 hlt⟩
theorem ordTo_all {l : List Txt} (h64 : l.length ≤ 64) (h : ordTo l l.length) : orderedB l = true := by
  rw [ordered_short l h64]
  obtain ⟨h1, h2⟩ := h
  rw [List.take_length] at h1 h2
  rw [h1, h2]; rfl

end Go.Proofs.YthaldbjnnbllbaaGreatDoor
