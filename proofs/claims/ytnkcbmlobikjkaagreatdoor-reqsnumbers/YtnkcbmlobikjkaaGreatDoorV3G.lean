/- Layer 3: sets of texts as maps; contracts of gathered, has of a map, rising, take. -/
import Derived.Test.YtnkcbmlobikjkaaGreatDoorV3F
import Derived.Maps.OwnSet
import Derived.Maps.RangeWalk
import Derived.Sort.OwnSorted
import Derived.Sort.KeysCollected
namespace Go.Proofs.YtnkcbmlobikjkaaGreatDoor
open Go.RowKit Suf Val Go.Maps

theorem law : Keyed Tryz.prog 9 := string_keyed Tryz.underlying9
theorem zeroU (w : World) : (zeroValue 122).run Tryz.prog w = .ok (.agg #[]) w := by kernel_rfl
/-- A map whose keys are just the texts of a list. -/
def Keys (w : World) (b : Nat) (l : List Txt) : Prop :=
  ∃ (n : Nat) (D : DataW Unit), w.ownsMap Tryz.prog 9 (unitElem (H := Unit)) b n D ∧ (∀ x, Maps.has D (.string x) = true ↔ x ∈ l) ∧ l.length ≤ 70368744177664 ∧ ∀ t ∈ l, short t
theorem own_size {w : World} {b n : Nat} {D : DataW Unit} (h : w.ownsMap Tryz.prog 9 (unitElem (H := Unit)) b n D) : w.ownsMap Tryz.prog 9 (unitElem (H := Unit)) b (Maps.size D) D := by
  obtain ⟨es, clock, hb, hf, hn, hD⟩ := h
  refine ⟨es, clock, hb, hf, ?_, hD⟩
  rw [hD, size_eq, length_read]; exact Nat.le_refl _
theorem keys_perm {w : World} {b n : Nat} {D : DataW Unit} {l : List Txt} (h : w.ownsMap Tryz.prog 9 (unitElem (H := Unit)) b n D) (hm : ∀ x, Maps.has D (.string x) = true ↔ x ∈ l) : (rising l).Perm (strKeys D) := by
  obtain ⟨es, hD, hpw, _⟩ := h.entries law
  obtain ⟨es', hD', hko⟩ := h.keysOf
  obtain rfl : es = es' := by rw [hD] at hD'; simpa using hD'
  subst hD
  exact perm_strKeys hpw (fun p hp => by obtain ⟨v, hv⟩ := hko p hp; obtain ⟨x, _, hx, _⟩ := Maps.keyOf_str Tryz.underlying9 hv; exact ⟨x, hx⟩) (up_nodup (up_rising l)) (fun x => by rw [mem_rising]; exact (hm x).symm)
theorem keys_size {w : World} {b n : Nat} {D : DataW Unit} {l : List Txt} (h : w.ownsMap Tryz.prog 9 (unitElem (H := Unit)) b n D) (hm : ∀ x, Maps.has D (.string x) = true ↔ x ∈ l) : Maps.size D = (rising l).length := by
  rw [(keys_perm h hm).length_eq]
  obtain ⟨es, hD, _⟩ := h.entries law
  subst hD
  rw [size_eq]; unfold strKeys; rw [List.length_map]
theorem rising_le (l : List Txt) : (rising l).length ≤ l.length := nodup_len (up_nodup (up_rising l)) fun x hx => (mem_rising l x).1 hx
theorem key_of {x : Txt} (h : short x) : keyOf Tryz.prog 9 (.string (bytesT x)) = some (.string x) := Go.WideMaps.keyOf_string_mk Tryz.underlying9 (short_max h)
theorem Keys.congr {w : World} {b : Nat} {l m : List Txt} (h : Keys w b l) (he : ∀ x, x ∈ l ↔ x ∈ m) (hm : m.length ≤ 70368744177664) : Keys w b m := by
  obtain ⟨n, D, ho, hD, hl, hs⟩ := h
  exact ⟨n, D, ho, fun x => (hD x).trans (he x), hm, fun t ht => hs t ((he t).2 ht)⟩
theorem Keys.norm {w : World} {b : Nat} {l : List Txt} (h : Keys w b l) : Keys w b (rising l) := h.congr (fun x => (mem_rising l x).symm) (Nat.le_trans (rising_le l) (by obtain ⟨_, _, _, _, hl, _⟩ := h; exact hl))
theorem Keys.lt {w : World} {b : Nat} {l : List Txt} (h : Keys w b l) : b < w.heap.size := by obtain ⟨n, D, ho, _⟩ := h; exact ho.lt
theorem Keys.kept {w w' : World} {b : Nat} {row : Option Nat} {l : List Txt} (h : Keys w b l) (hg : w.grownBy w' row) (hne : some b ≠ row) : Keys w' b l := by
  obtain ⟨n, D, ho, h2⟩ := h; exact ⟨n, D, ho.kept hg hne, h2⟩
theorem below_grownBy {w w' : World} (h : Below w.heap.size w w') : w.grownBy w' none := ⟨h.os, h.tape, h.output, h.size, fun i hi _ => h.block i hi⟩
theorem Keys.below {w w' : World} {b : Nat} {l : List Txt} (h : Keys w b l) (hb : Below w.heap.size w w') : Keys w' b l := h.kept (below_grownBy hb) (by simp)
theorem Keys.short {w : World} {b : Nat} {l : List Txt} (h : Keys w b l) : ∀ t ∈ l, short t := by obtain ⟨n, D, ho, _, _, hs⟩ := h; exact hs
theorem keys_new (w : World) : Keys (w.alloc (.map #[] 0)) w.heap.size [] := ⟨0, _, World.ownsMap_made _ _ _ _, fun x => by simp [has_eq], by simp, by simp⟩
theorem put_has {D : DataW Unit} {l : List Txt} (hD : IsMap D) (h : ∀ x, Maps.has D (.string x) = true ↔ x ∈ l) (t : Txt) (d : DataW Unit) (x : Txt) : Maps.has (D.put (.string t) d) (.string x) = true ↔ x ∈ l ++ [t] := by
  by_cases e : x = t
  · subst e; rw [has_put_same hD (show WideAt.IsKeyLit (.string x) from trivial)]; simp
  · rw [has_put_other (fun c => e (by injection c)), h x]; simp [e]
theorem del_has {D : DataW Unit} {l : List Txt} (h : ∀ x, Maps.has D (.string x) = true ↔ x ∈ l) (t : Txt) (x : Txt) : Maps.has (D.del (.string t)) (.string x) = true ↔ x ∈ l.filter (fun y => !(y == t)) := by
  by_cases e : x = t
  · subst e; rw [has_del_same]; simp
  · rw [has_del_other (fun c => e (by injection c)), h x]; simp [e]

set_option maxHeartbeats 1000000 in
theorem mapHas_any (b : Nat) (l : List Txt) (x : Txt) (w : World) (hk : Keys w b l) (hx : short x) :
    Calls Tryz.prog 117 #[.map (some b), .string (bytesT x)] w fun e w' => e = .returned (.bool (l.contains x)) ∧ Below w.heap.size w w' := by
  obtain ⟨n, D, ho, hD, _⟩ := hk
  have hq : Hid (Maps.has D (.string x) = l.contains x) := by
    show _ = _; rw [Bool.eq_iff_iff, hD x]; simp
  obtain ⟨q, hqq⟩ : ∃ q, q = l.contains x := ⟨_, rfl⟩
  rw [← hqq] at hq ⊢
  have hkey := hide (key_of hx)
  have HO := hide ho
  obtain ⟨X, hX⟩ : ∃ X, X = bytesT x := ⟨_, rfl⟩
  rw [← hX] at hkey ⊢
  clear hqq hx hX hD ho
  have hzu := zeroU
  go_enter Tryz.func117, Tryz.ntmps117
  go_wp2_with (at_lookup; refine wpList_lookup_own_unit _ rfl _ _ 97 rfl 9 122 law Tryz.underlying97 (zeroU _) b n D rfl (unhide HO) _ _ rfl (unhide hkey) ?_; rw [unhide hq])
  go_ret
  exact ⟨rfl, box_below _⟩

end Go.Proofs.YtnkcbmlobikjkaaGreatDoor
