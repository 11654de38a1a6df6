/- Layer 3: contract of fault. -/
import Derived.Test.YtnkcbmlobikjkaaGreatDoorV3N
namespace Go.Proofs.YtnkcbmlobikjkaaGreatDoor
open Go.RowKit Suf Val Go.Maps

theorem nodupB_no : ∀ (l seen : List Txt), nodupB seen l = false → ∃ p v q, l = p ++ v :: q ∧ (v ∈ seen ∨ v ∈ p)
  | [], seen, h => by cases h
  | a :: l, seen, h => by
    unfold nodupB at h
    cases hc : seen.contains a with
    | true => exact ⟨[], a, l, rfl, Or.inl (List.contains_iff_mem.1 hc)⟩
    | false =>
      rw [hc] at h
      obtain ⟨p, v, q, e, hv⟩ := nodupB_no l (seen ++ [a]) h
      refine ⟨a :: p, v, q, by rw [e]; rfl, ?_⟩
      rcases hv with hv | hv
      · rcases List.mem_append.1 hv with hv | hv
        · exact Or.inl hv
        · exact Or.inr (by simp at hv; subst hv; simp)
      · exact Or.inr (by simp [hv])
theorem nodupB_yes : ∀ (l seen : List Txt), nodupB seen l = true → l.Nodup ∧ ∀ v ∈ l, v ∉ seen
  | [], seen, _ => ⟨List.nodup_nil, fun v hv => by cases hv⟩
  | a :: l, seen, h => by
    unfold nodupB at h
    rw [Bool.and_eq_true] at h
    obtain ⟨h1, h2⟩ := nodupB_yes l (seen ++ [a]) h.2
    have ha : a ∉ seen := by have := h.1; simpa using this
    refine ⟨List.nodup_cons.2 ⟨fun c => h2 a c (by simp), h1⟩, fun v hv => ?_⟩
    rcases List.mem_cons.1 hv with rfl | hv
    · exact ha
    · exact fun c => h2 v hv (by simp [c])
theorem twice_len (l : List Txt) : nodupB [] l = !decide ((rising l).length < l.length) := by
  cases h : nodupB [] l with
  | true => rw [len_rising (nodupB_yes l [] h).1]; simp
  | false =>
    obtain ⟨p, v, q, rfl, hv⟩ := nodupB_no l [] h
    have hv : v ∈ p := by rcases hv with hv | hv; cases hv; exact hv
    have e : rising (p ++ v :: q) = rising (p ++ q) := rising_congr fun x => by
      simp only [List.mem_append, List.mem_cons]
      constructor
      · rintro (h | rfl | h)
        · exact Or.inl h
        · exact Or.inl hv
        · exact Or.inr h
      · rintro (h | h)
        · exact Or.inl h
        · exact Or.inr (Or.inr h)
    have := rising_le (p ++ q)
    rw [e, decide_eq_true (by simp at this ⊢; omega)]; rfl
theorem oper_wrong (r : VReq) : (r.op < 1 ∨ 6 < r.op ∨ (decide (r.op = 1 ∨ r.op = 2) != decide (0 < r.vals.length)) = true ∨ (¬ (r.op = 5 ∨ r.op = 6) ∧ ¬ r.n = 0) ∨ r.n < -2147483648 ∨ 2147483648 < r.n) ↔ operB r.op r.vals.length r.n = false := by
  obtain ⟨key, op, vals, n⟩ := r
  show (op < 1 ∨ 6 < op ∨ (decide (op = 1 ∨ op = 2) != decide (0 < vals.length)) = true ∨ (¬ (op = 5 ∨ op = 6) ∧ ¬ n = 0) ∨ n < -2147483648 ∨ 2147483648 < n) ↔ operB op vals.length n = false
  have e : (decide (op = 1 ∨ op = 2)) = ((op == 1) || (op == 2)) := by rw [Bool.eq_iff_iff]; simp
  unfold operB farB
  rw [e]
  cases hq : (((op == 1) || (op == 2)) != decide (0 < vals.length))
  · simp only [Bool.false_eq_true, false_or, Bool.or_false]
    rw [Bool.eq_false_iff]
    simp only [ne_eq, Bool.and_eq_true, Bool.not_eq_true', Bool.or_eq_false_iff, decide_eq_false_iff_not, Bool.or_eq_true, beq_iff_eq]
    omega
  · simp
theorem wrong_cases (r : VReq) : wrongR r = if nameB r.key = false then 7 else if operB r.op r.vals.length r.n = false then 30 else if 8 < r.vals.length then 3 else if r.vals.all valueB = false then 20 else if (rising r.vals).length < r.vals.length then 6 else 0 := by
  unfold wrongR
  by_cases h1 : nameB r.key = false
  · rw [if_pos h1, if_pos h1]
  rw [if_neg h1, if_neg h1]
  by_cases h2 : operB r.op r.vals.length r.n = false
  · rw [if_pos ((oper_wrong r).2 h2), if_pos h2]
  rw [if_neg (fun c => h2 ((oper_wrong r).1 c)), if_neg h2]
  by_cases h3 : 8 < r.vals.length
  · rw [if_pos h3, if_pos h3]
  rw [if_neg h3, if_neg h3]
  by_cases h4 : r.vals.all valueB = false
  · rw [if_pos h4, if_pos h4]
  rw [if_neg h4, if_neg h4, twice_len]
  by_cases h5 : (rising r.vals).length < r.vals.length
  · rw [if_pos h5, decide_eq_true h5]; rfl
  · rw [if_neg h5, decide_eq_false h5]; rfl
/-- A requirement's four fields in memory. -/
def Four (w : World) (B : Nat) (a b c d : Value) : Prop := w.cell? ⟨B, 0, none⟩ = some a ∧ w.cell? ⟨B, 1, none⟩ = some b ∧ w.cell? ⟨B, 2, none⟩ = some c ∧ w.cell? ⟨B, 3, none⟩ = some d
theorem Four.below {w w' : World} {B : Nat} {a b c d : Value} (h : Four w B a b c d) (hb : Below w.heap.size w w') : Four w' B a b c d := ⟨cell_kept hb h.1, cell_kept hb h.2.1, cell_kept hb h.2.2.1, cell_kept hb h.2.2.2⟩
theorem four_new (w : World) (a b c d : Value) (t : TypeId) : Four (w.alloc (.cells #[a, b, c, d] t)) w.heap.size a b c d := by refine ⟨?_, ?_, ?_, ?_⟩ <;> simp [go_sem]
theorem one_drew {W : World} {p : Addr} {u : Value} (h : W.cell? p = some u) : W.drew.cell? p = some u := h
theorem one_new {W : World} {p : Addr} {u : Value} {o : Obj} (h : W.cell? p = some u) : (W.alloc o).cell? p = some u := cell_kept (box_below _) h
theorem len_run {W : World} {b k : Nat} {v : Value} {l : List Txt} (hk : Keys W b (joined [(v, l)])) (h : k = (rising l).length) : ∀ ty, (Builtin.len_ #[97] ty #[.map (some b)]).run Tryz.prog W = .ok (.int .i64 k) W := fun ty => by
  rw [joined_one] at hk
  obtain ⟨n, D, ho, hD, _⟩ := hk
  rw [ho.len Tryz.underlying97 ty, keys_size ho hD, h]

set_option maxHeartbeats 2000000 in
theorem fault_any (key : ByteArray) (op : Int) (v : Value) (l : List Txt) (z : Int) (w : World) (hL : Laid w) (hv : Strs w v l) (hkey : key.size ≤ maxLen) :
    Calls Tryz.prog 68 #[.agg #[.string key, .int .i64 op, v, .int .i64 z]] w fun e w' => e = .returned (.int .i64 (wrongR ⟨key.data.toList, op, l, z⟩)) ∧ Below w.heap.size w w' := by
  obtain ⟨r, hr⟩ : ∃ r, r = wrongR ⟨key.data.toList, op, l, z⟩ := ⟨_, rfl⟩
  rw [← hr]
  rw [wrong_cases] at hr
  have HR := hide hr
  have HL := hide hL
  have HV := hide hv
  have HK := hide hkey
  have hlen := hv.len
  clear hr hL hkey
  obtain ⟨a, c, rfl⟩ := hv.val
  clear hv
  obtain ⟨len, hn⟩ : ∃ n, n = l.length := ⟨_, rfl⟩
  rw [← hn] at hlen HV ⊢
  have HN := hide hn
  clear hn
  have hfour := hide (four_new w (.string key) (.int .i64 op) (.slice a len c) (.int .i64 z) 25)
  obtain ⟨q0, hq0⟩ : ∃ q, q = nameB key.data.toList := ⟨_, rfl⟩
  have c0 : ∀ W, Calls Tryz.prog 51 #[.string key] W fun e w' => e = .returned (.bool q0) ∧ w' = W := fun W => hq0 ▸ name_any key W (unhide HK)
  have Q0 := hide hq0
  clear hq0
  cases q0
  · have hf : Hid (r = 7) := (unhide HR).trans (by rw [if_pos (unhide Q0).symm])
    go_enter Tryz.func68, Tryz.ntmps68
    go_wp2_with (go_at_call 51; refine (c0 _).mono ?_; rintro e w' ⟨rfl, rfl⟩)
    go_ret
    exact ⟨ret_int (unhide hf).symm, box_below _⟩
  have hf1 : Hid (r = if operB op l.length z = false then 30 else if 8 < l.length then 3 else if l.all valueB = false then 20 else if (rising l).length < l.length then 6 else 0) := (unhide HR).trans (by rw [if_neg (by rw [← unhide Q0]; decide)])
  clear HR Q0
  obtain ⟨q1, hq1⟩ : ∃ q, q = operB op len z := ⟨_, rfl⟩
  have c1 : ∀ W, Calls Tryz.prog 93 #[.agg #[.string key, .int .i64 op, .slice a len c, .int .i64 z]] W fun e w' => e = .returned (.bool q1) ∧ Below W.heap.size W w' := fun W => hq1 ▸ operates_any key op a len c z W hlen
  have Q1 : Hid (q1 = operB op l.length z) := by rw [← unhide HN]; exact hq1
  clear hq1
  cases q1
  · have hf : Hid (r = 30) := (unhide hf1).trans (by rw [if_pos (unhide Q1).symm])
    go_enter Tryz.func68, Tryz.ntmps68
    go_wp2_with (first | (go_at_call 51; refine (c0 _).mono ?_; rintro e w' ⟨rfl, rfl⟩) | (go_at_call 93; refine (c1 _).mono ?_; rintro e w1 ⟨rfl, hw1⟩; have HB := hide (chain (box_below _) hw1); clear hw1))
    go_ret
    exact ⟨ret_int (unhide hf).symm, unhide HB⟩
  have hf2 : Hid (r = if 8 < l.length then 3 else if l.all valueB = false then 20 else if (rising l).length < l.length then 6 else 0) := (unhide hf1).trans (by rw [if_neg (by rw [← unhide Q1]; decide)])
  clear hf1 Q1
  by_cases h8 : 8 < len
  · have hf : Hid (r = 3) := (unhide hf2).trans (by rw [if_pos (by rw [← unhide HN]; exact h8)])
    go_enter Tryz.func68, Tryz.ntmps68
    go_wp2_with (first | (go_at_call 51; refine (c0 _).mono ?_; rintro e w' ⟨rfl, rfl⟩) | (go_at_call 93; refine (c1 _).mono ?_; rintro e w1 ⟨rfl, hw1⟩; obtain ⟨k0, k1, k2, k3⟩ := (unhide hfour).below hw1; have HB := hide (chain (box_below _) hw1); clear hw1))
    go_ret
    exact ⟨ret_int (unhide hf).symm, unhide HB⟩
  have hf3 : Hid (r = if l.all valueB = false then 20 else if (rising l).length < l.length then 6 else 0) := (unhide hf2).trans (by rw [if_neg (by rw [← unhide HN]; exact h8)])
  clear hf2
  have h8' : ¬ 8 < (len : Int) := by omega
  obtain ⟨q2, hq2⟩ : ∃ q, q = l.all valueB := ⟨_, rfl⟩
  have Q2 := hide hq2
  clear hq2
  go_enter Tryz.func68, Tryz.ntmps68
  go_wp2_with (first | (go_at_call 51; refine (c0 _).mono ?_; rintro e w' ⟨rfl, rfl⟩) | (go_at_call 93; refine (c1 _).mono ?_; rintro e w1 ⟨rfl, hw1⟩; have F1 := hide ((unhide hfour).below hw1); obtain ⟨k0, k1, k2, k3⟩ := (unhide hfour).below hw1; have HB := hide (chain (box_below _) hw1); clear hw1))
  refine (every_any 44 #[] valueB Laid enters_value value_pred _ l _ ((unhide HL).below (unhide HB)) (fun _ _ h hb => h.below hb) ((unhide HV).below (unhide HB))).mono ?_
  rintro e w2 ⟨he, hw2⟩
  rw [← unhide Q2] at he
  subst he
  clear k0 k1 k2 k3
  obtain ⟨k0, k1, k2, k3⟩ := (unhide F1).below hw2
  have HB2 := hide (chain (unhide HB) hw2)
  clear hw2 HB F1 hfour
  cases q2
  · have hf : Hid (r = 20) := (unhide hf3).trans (by rw [if_pos (unhide Q2).symm])
    go_wp2_with fail
    go_ret
    exact ⟨ret_int (unhide hf).symm, unhide HB2⟩
  have hf4 : Hid (r = if (rising l).length < l.length then 6 else 0) := (unhide hf3).trans (by rw [if_neg (by rw [← unhide Q2]; decide)])
  clear hf3 Q2
  have hls := hide ((lists_one ((unhide HV).below (unhide HB2)) 23).below (Below.refl _ _).drew)
  have hll : Hid ((joined [(Value.slice a len c, l)]).length ≤ 70368744177664) := by show _ ≤ _; rw [joined_one, ← unhide HN]; omega
  obtain ⟨kr, hkr⟩ : ∃ k, k = (rising l).length := ⟨_, rfl⟩
  have hf5 : Hid (r = if kr < len then 6 else 0) := (unhide hf4).trans (by rw [← hkr, ← unhide HN])
  have HKR := hide hkr
  clear hf4 hkr
  clear HL HV HK c0 c1 HN
  go_wp2_with fail
  have kA := one_new (o := .cells #[.slice a len c] 23) k2
  have kB := one_drew kA
  have kC := one_drew k2
  go_region_with (first | (go_at_call 70; refine (gathered_any _ [(.slice a len c, l)] _ (unhide hls) (unhide hll) (by simp)).mono ?_; rintro e w5 ⟨b, rfl, hk5, hb5, hw5⟩; have hle := (len_run hk5 (unhide HKR)); have k5 := cell_kept hw5 (one_drew (one_new k2)); have HB5 := hide (chain (chain (unhide HB2) ((box_below _).drew)) hw5); clear hk5 hb5 hw5))
  all_goals
    clear hle k5 kA kB kC k0 k1 k2 k3 HB2
    by_cases hlt : kr < len
    · have hi : (kr : Int) < (len : Int) := by omega
      go_wp2_with fail
      go_ret
      exact ⟨ret_int (by rw [unhide hf5, if_pos hlt]), unhide HB5⟩
    · have hi : ¬ (kr : Int) < (len : Int) := by omega
      go_wp2_with fail
      go_ret
      exact ⟨ret_int (by rw [unhide hf5, if_neg hlt]), unhide HB5⟩

end Go.Proofs.YtnkcbmlobikjkaaGreatDoor
