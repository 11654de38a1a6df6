/- Layer 2: what the listed variables hold; contracts of decimal, partsOf and shifted. -/
import Derived.Test.YtfpbmclahihlkaaDoorSufD
import Derived.Test.YtfpbmclahihlkaaDoorShelf
import Derived.WalkSmall
import Derived.Lib.ItoaMem
namespace Go.Proofs.YtfpbmclahihlkaaDoor
open Go.RowKit Suf

/-- The table of suffixes, cell by cell. -/
def unitRow : Array Value := #[.string ⟨#[84, 105]⟩, .int .u64 40, .string ⟨#[71, 105]⟩, .int .u64 30, .string ⟨#[77, 105]⟩, .int .u64 20, .string ⟨#[75, 105]⟩, .int .u64 10, .string ⟨#[]⟩, .int .u64 0]
/-- What the walks ask of the listed variables. -/
def Laid (w : World) : Prop :=
  (∃ t fr, w.heap[0]? = some (.cells unitRow t fr)) ∧ Lib.TabIs Tryd.prog w "internal/strconv.uint64pow10" .u64 Lib.pow10Tab
theorem gPow : Tryd.prog.globalNamed "internal/strconv.uint64pow10" = some 1 := by kernel_rfl
theorem Laid.at {w : World} (h : Laid w) : 0 < w.heap.size ∧ 1 < w.heap.size := by
  obtain ⟨⟨t, fr, h1⟩, h2⟩ := h
  refine ⟨?_, ?_⟩
  · rcases Nat.lt_or_ge 0 w.heap.size with hl | hl
    · exact hl
    · rw [Array.getElem?_eq_none hl] at h1; cases h1
  · unfold Lib.TabIs World.var? at h2
    simp only [gPow, Option.bind_some] at h2
    rcases Nat.lt_or_ge 1 w.heap.size with hl | hl
    · exact hl
    · rw [Array.getElem?_eq_none hl] at h2; cases h2
theorem Laid.below {w w' : World} (h : Laid w) (hb : Below w.heap.size w w') : Laid w' := by
  have ha := h.at
  obtain ⟨⟨t, fr, h1⟩, h2⟩ := h
  exact ⟨⟨t, fr, by rw [hb.block _ ha.1]; exact h1⟩, var?_below hb gPow ha.2 h2⟩
theorem Laid.alloc {w : World} (h : Laid w) (o : Obj) : Laid (w.alloc o) := h.below ((Below.refl _ _).alloc (Nat.le_refl _) _)
theorem Laid.drew {w : World} (h : Laid w) : Laid w.drew := h.below (Below.refl _ _).drew

theorem decDigits_fuel : ∀ (f n : Nat), n < 10 ^ (f + 1) → Lib.decDigits n = decFuel (f + 1) n
  | 0, n, h => by
    have : n < 10 := by simpa using h
    rw [Lib.decDigits, dif_pos this]
    show _ = (if n < 10 then [] else decFuel 0 (n / 10)) ++ [UInt8.ofNat (48 + n % 10)]
    rw [if_pos this, Nat.mod_eq_of_lt this]; rfl
  | f + 1, n, h => by
    rw [Lib.decDigits]
    show _ = (if n < 10 then [] else decFuel (f + 1) (n / 10)) ++ [UInt8.ofNat (48 + n % 10)]
    by_cases hn : n < 10
    · rw [dif_pos hn, if_pos hn, Nat.mod_eq_of_lt hn]; rfl
    · rw [dif_neg hn, if_neg hn, decDigits_fuel f (n / 10) (by rw [Nat.pow_succ] at h; omega)]
theorem itoa_dec (n : Nat) (h : n < 1000000000000000000) : Lib.itoa (n : Int) = dec n := by
  rw [Lib.itoa_nonneg]; exact decDigits_fuel 19 n (Nat.lt_of_lt_of_le h (by decide))
theorem below_grow {w : World} (k : Nat) (os : Array Obj) : Below w.heap.size w (Sort.grow (w.drewN k) os) :=
  (below_drewN (Below.refl _ _) k).trans ⟨rfl, rfl, rfl, by simp [Sort.grow], fun i hi => by
    show (w.heap ++ os)[i]? = w.heap[i]?
    exact Array.getElem?_append_left hi⟩

set_option maxHeartbeats 400000 in
theorem decimal_any (n : Nat) (w : World) (hn : n < 1000000000000000000) (hL : Laid w) :
    Calls Tryd.prog 28 #[.int .i64 n] w fun e w' => e = .returned (.string ⟨(dec n).toArray⟩) ∧ Below w.heap.size w w' := by
  have HD := hide (itoa_dec n hn)
  have HT := hide hL.2
  clear hL
  go_enter Tryd.func28, Tryd.ntmps28
  go_wp2_with fail
  refine (Tryd.strconv_FormatInt_10 _ (by omega) (by omega) _ (unhide HT)).mono ?_
  rintro e w' ⟨he, k, os, hw⟩
  rw [unhide HD] at he
  subst he
  have hb := hide (hw ▸ below_grow k os : Below w.heap.size w w')
  clear hw
  go_wp2_with fail
  go_ret
  exact ⟨rfl, unhide hb⟩

theorem repeat_zero (k : Nat) : Lib.repeatL [48] k = List.replicate k 48 := by
  have := Lib.repeatL_replicate 48 1 k
  simpa using this
theorem cut_yes (r : List UInt8) (s : ByteArray) (h : s.data.toList = 46 :: r) (w : World) :
    Calls Tryd.prog 40 #[.string s, .string ⟨#[46]⟩] w fun e w' => e = .returned (.tuple #[.string ⟨r.toArray⟩, .bool true]) ∧ w' = w := by
  refine (Tryd.strings_CutPrefix s ⟨#[46]⟩ w).mono ?_
  rintro e w' ⟨rfl, rfl⟩
  refine ⟨?_, rfl⟩
  have e1 : Lib.hasPrefix s.data.toList (ByteArray.mk #[46]).data.toList = true := by rw [h]; simp [Lib.hasPrefix]
  have e2 : Lib.trimPrefix s.data.toList (ByteArray.mk #[46]).data.toList = r := by unfold Lib.trimPrefix; rw [e1, if_pos rfl, h]; rfl
  rw [e1, e2]
theorem cut_no (s : ByteArray) (h : ¬ s.data.toList.head? = some 46) (w : World) :
    Calls Tryd.prog 40 #[.string s, .string ⟨#[46]⟩] w fun e w' => e = .returned (.tuple #[.string s, .bool false]) ∧ w' = w := by
  refine (Tryd.strings_CutPrefix s ⟨#[46]⟩ w).mono ?_
  rintro e w' ⟨rfl, rfl⟩
  refine ⟨?_, rfl⟩
  have e1 : Lib.hasPrefix s.data.toList (ByteArray.mk #[46]).data.toList = false := by
    cases hp : Lib.hasPrefix s.data.toList (ByteArray.mk #[46]).data.toList with
    | false => rfl
    | true =>
      exfalso
      unfold Lib.hasPrefix at hp
      obtain ⟨t, ht⟩ := List.isPrefixOf_iff_prefix.1 hp
      exact h (by rw [← ht]; rfl)
  have e2 : Lib.trimPrefix s.data.toList (ByteArray.mk #[46]).data.toList = s.data.toList := by unfold Lib.trimPrefix; rw [e1]; rfl
  rw [e1, e2]

theorem bytes_nil (s : ByteArray) (h : s.data.toList = []) : s = ⟨#[]⟩ := by
  obtain ⟨⟨l⟩⟩ := s
  simp at h; subst h; rfl
theorem size_list (s : ByteArray) : s.size = s.data.toList.length := by simp
theorem all_false {r : List UInt8} (h : r.all dig = false) : ∃ k, ∃ hk : k < r.length, (r.take k).all dig = true ∧ dig r[k] = false := by
  induction r with
  | nil => cases h
  | cons c r ih =>
    rw [List.all_cons] at h
    cases hc : dig c with
    | false => exact ⟨0, by simp, rfl, hc⟩
    | true =>
      rw [hc, Bool.true_and] at h
      obtain ⟨k, hk, h1, h2⟩ := ih h
      exact ⟨k + 1, by simpa using hk, by rw [List.take_succ_cons, List.all_cons, hc, h1]; rfl, by simpa using h2⟩

end Go.Proofs.YtfpbmclahihlkaaDoor
