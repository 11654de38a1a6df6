/- Layer 6: slices.IndexFunc and slices.ContainsFunc. -/
import Derived.Test.YtepcnfnmphgccaaGreatDoorCtAG
namespace Go.Proofs.YtepcnfnmphgccaaGreatDoor
open Go.RowKit Suf Val

set_option maxRecDepth 100000 in
set_option maxHeartbeats 8000000 in
theorem index_lab (g B : Nat) (p : Txt × Txt → Bool) (v : Value) (l : List (Txt × Txt)) (w : World) (hv : Lst labK w v l) (eg : ∀ args w, (callFunc g args).run Tryz.prog w = .ok (.enter g args) w)
    (hcl : ∀ (W : World) (x : Txt × Txt), x ∈ l → Below w.heap.size w W → Calls Tryz.prog g #[labA x, .pointer (some ⟨B, 0, none⟩)] W fun e w' => e = .returned (.bool (p x)) ∧ Below W.heap.size W w') :
    Calls Tryz.prog 135 #[v, .func (.func g) #[] #[.pointer (some ⟨B, 0, none⟩)]] w fun e w' => e = .returned (.int .i64 (idxI p l)) ∧ Below w.heap.size w w' := by
  have HV := hide hv
  have HC := hide hcl
  have hlen := hv.len
  obtain ⟨a, c, rfl⟩ := hv.val
  obtain ⟨n, hn⟩ : ∃ n, n = l.length := ⟨_, rfl⟩
  rw [← hn] at HV hlen ⊢
  have HN := hide hn
  clear hv hcl hn
  obtain ⟨R, hR⟩ : ∃ R, R = idxI p l := ⟨_, rfl⟩
  rw [← hR]
  have HR := hide hR
  clear hR
  go_enter Tryz.func135, Tryz.ntmps135
  go_wp2_with fail
  go_loopw [8] (fun i W => ∃ k : Nat, k ≤ n ∧ i = .int .i64 k ∧ Hid ((l.take k).any p = false) ∧ Hid (Below w.heap.size w W)) (fun i _ => n - (intOf i).toNat)
  case atStart => exact ⟨0, Nat.zero_le _, rfl, rfl, Below.refl _ _⟩
  case round =>
    obtain ⟨k, hk, rfl, hany, hbel⟩ := hrel
    by_cases hlt : k < n
    · have hlk : k < l.length := by rw [← unhide HN]; exact hlt
      obtain ⟨b, o, rfl, hat⟩ := ((unhide HV).below (unhide hbel)).at hlk
      have hnx := hide (any_next6 (p := p) l k hlk)
      have hys := hide (fun hp => idx_at (p := p) hlk (unhide hany) hp)
      have hmem := hide (List.getElem_mem hlk)
      obtain ⟨x, hx⟩ : ∃ x, x = l[k] := ⟨_, rfl⟩
      rw [← hx] at hat hnx hys hmem
      obtain ⟨q, hq⟩ : ∃ q, q = p x := ⟨_, rfl⟩
      rw [← hq] at hnx hys
      obtain ⟨⟨s0, _⟩, s1, _⟩ := lab_at.1 hat
      have hcl := hide (unhide HC wr x (unhide hmem) (unhide hbel))
      rw [← hq] at hcl
      clear hq hx hlk hat hmem
      unfold labA at hcl
      rw [show labK.size = 2 from rfl] at s0 s1
      cases q
      · have hn2 : Hid ((l.take (k + 1)).any p = false) := by show _ = _; rw [unhide hnx, unhide hany]; rfl
        go_wp2_with (go_at_fn g; refine (unhide hcl).mono ?_; rintro e w2 ⟨rfl, hw2⟩; have B2 := hide (chain (unhide hbel) hw2); clear hw2 s0 s1)
        exact ⟨⟨k + 1, by omega, by go_num, hn2, B2⟩, by simp [intOf]; omega⟩
      · have hfin : Hid (R = (k : Int)) := by show _ = _; rw [unhide HR]; exact unhide hys rfl
        go_wp2_with (go_at_fn g; refine (unhide hcl).mono ?_; rintro e w2 ⟨rfl, hw2⟩; have B2 := hide (chain (unhide hbel) hw2); clear hw2 s0 s1)
        go_ret
        exact ⟨ret_int (unhide hfin).symm, unhide B2⟩
    · obtain rfl : k = n := by omega
      have hfin : Hid (R = -1) := by
        show _ = _
        have := unhide hany
        rw [List.take_of_length_le (by rw [← unhide HN]; exact Nat.le_refl _)] at this
        rw [unhide HR, idx_none this]
      go_wp2_with fail
      go_ret
      exact ⟨ret_int (unhide hfin).symm, unhide hbel⟩
set_option maxHeartbeats 4000000 in
theorem contains_lab (g B : Nat) (p : Txt × Txt → Bool) (v : Value) (l : List (Txt × Txt)) (w : World) (hv : Lst labK w v l) (eg : ∀ args w, (callFunc g args).run Tryz.prog w = .ok (.enter g args) w)
    (hcl : ∀ (W : World) (x : Txt × Txt), x ∈ l → Below w.heap.size w W → Calls Tryz.prog g #[labA x, .pointer (some ⟨B, 0, none⟩)] W fun e w' => e = .returned (.bool (p x)) ∧ Below W.heap.size W w') :
    Calls Tryz.prog 96 #[v, .func (.func g) #[] #[.pointer (some ⟨B, 0, none⟩)]] w fun e w' => e = .returned (.bool (l.any p)) ∧ Below w.heap.size w w' := by
  have hcon := hide (index_lab g B p v l w hv eg hcl)
  have hid := hide (idx_any p l)
  obtain ⟨a, c, rfl⟩ := hv.val
  obtain ⟨n, hn⟩ : ∃ n, n = l.length := ⟨_, rfl⟩
  rw [← hn] at hcon ⊢
  clear hv hcl hn eg
  obtain ⟨R, hR⟩ : ∃ R, R = l.any p := ⟨_, rfl⟩
  obtain ⟨z, hz⟩ : ∃ z, z = idxI p l := ⟨_, rfl⟩
  rw [← hR] at hid ⊢
  rw [← hz] at hid hcon
  clear hR hz
  go_enter Tryz.func96, Tryz.ntmps96
  go_wp2_with fail
  refine (unhide hcon).mono ?_
  rintro e w1 ⟨rfl, hw1⟩
  have B1 := hide hw1
  clear hw1
  go_wp2_with fail
  go_ret
  exact ⟨ret_bool (unhide hid), unhide B1⟩

set_option maxRecDepth 100000 in
set_option maxHeartbeats 8000000 in
theorem index_ofg (g B : Nat) (p : VOfg → Bool) (v : Value) (l : List (VOfg)) (w : World) (hv : Lst ofgK w v l) (eg : ∀ args w, (callFunc g args).run Tryz.prog w = .ok (.enter g args) w)
    (hcl : ∀ (W : World) (x : VOfg), x ∈ l → Below w.heap.size w W → Calls Tryz.prog g #[ofgA x, .pointer (some ⟨B, 0, none⟩)] W fun e w' => e = .returned (.bool (p x)) ∧ Below W.heap.size W w') :
    Calls Tryz.prog 136 #[v, .func (.func g) #[] #[.pointer (some ⟨B, 0, none⟩)]] w fun e w' => e = .returned (.int .i64 (idxI p l)) ∧ Below w.heap.size w w' := by
  have HV := hide hv
  have HC := hide hcl
  have hlen := hv.len
  obtain ⟨a, c, rfl⟩ := hv.val
  obtain ⟨n, hn⟩ : ∃ n, n = l.length := ⟨_, rfl⟩
  rw [← hn] at HV hlen ⊢
  have HN := hide hn
  clear hv hcl hn
  obtain ⟨R, hR⟩ : ∃ R, R = idxI p l := ⟨_, rfl⟩
  rw [← hR]
  have HR := hide hR
  clear hR
  go_enter Tryz.func136, Tryz.ntmps136
  go_wp2_with fail
  go_loopw [8] (fun i W => ∃ k : Nat, k ≤ n ∧ i = .int .i64 k ∧ Hid ((l.take k).any p = false) ∧ Hid (Below w.heap.size w W)) (fun i _ => n - (intOf i).toNat)
  case atStart => exact ⟨0, Nat.zero_le _, rfl, rfl, Below.refl _ _⟩
  case round =>
    obtain ⟨k, hk, rfl, hany, hbel⟩ := hrel
    by_cases hlt : k < n
    · have hlk : k < l.length := by rw [← unhide HN]; exact hlt
      obtain ⟨b, o, rfl, hat⟩ := ((unhide HV).below (unhide hbel)).at hlk
      have hnx := hide (any_next6 (p := p) l k hlk)
      have hys := hide (fun hp => idx_at (p := p) hlk (unhide hany) hp)
      have hmem := hide (List.getElem_mem hlk)
      obtain ⟨x, hx⟩ : ∃ x, x = l[k] := ⟨_, rfl⟩
      rw [← hx] at hat hnx hys hmem
      obtain ⟨q, hq⟩ : ∃ q, q = p x := ⟨_, rfl⟩
      rw [← hq] at hnx hys
      obtain ⟨⟨s0, _⟩, ⟨s1, _⟩, s2, s3⟩ := ofg_at.1 hat
      have hcl := hide (unhide HC wr x (unhide hmem) (unhide hbel))
      rw [← hq] at hcl
      clear hq hx hlk hat hmem
      unfold ofgA at hcl
      rw [show ofgK.size = 4 from rfl] at s0 s1 s2 s3
      cases q
      · have hn2 : Hid ((l.take (k + 1)).any p = false) := by show _ = _; rw [unhide hnx, unhide hany]; rfl
        go_wp2_with (go_at_fn g; refine (unhide hcl).mono ?_; rintro e w2 ⟨rfl, hw2⟩; have B2 := hide (chain (unhide hbel) hw2); clear hw2 s0 s1 s2 s3)
        exact ⟨⟨k + 1, by omega, by go_num, hn2, B2⟩, by simp [intOf]; omega⟩
      · have hfin : Hid (R = (k : Int)) := by show _ = _; rw [unhide HR]; exact unhide hys rfl
        go_wp2_with (go_at_fn g; refine (unhide hcl).mono ?_; rintro e w2 ⟨rfl, hw2⟩; have B2 := hide (chain (unhide hbel) hw2); clear hw2 s0 s1 s2 s3)
        go_ret
        exact ⟨ret_int (unhide hfin).symm, unhide B2⟩
    · obtain rfl : k = n := by omega
      have hfin : Hid (R = -1) := by
        show _ = _
        have := unhide hany
        rw [List.take_of_length_le (by rw [← unhide HN]; exact Nat.le_refl _)] at this
        rw [unhide HR, idx_none this]
      go_wp2_with fail
      go_ret
      exact ⟨ret_int (unhide hfin).symm, unhide hbel⟩
set_option maxHeartbeats 4000000 in
theorem contains_ofg (g B : Nat) (p : VOfg → Bool) (v : Value) (l : List (VOfg)) (w : World) (hv : Lst ofgK w v l) (eg : ∀ args w, (callFunc g args).run Tryz.prog w = .ok (.enter g args) w)
    (hcl : ∀ (W : World) (x : VOfg), x ∈ l → Below w.heap.size w W → Calls Tryz.prog g #[ofgA x, .pointer (some ⟨B, 0, none⟩)] W fun e w' => e = .returned (.bool (p x)) ∧ Below W.heap.size W w') :
    Calls Tryz.prog 99 #[v, .func (.func g) #[] #[.pointer (some ⟨B, 0, none⟩)]] w fun e w' => e = .returned (.bool (l.any p)) ∧ Below w.heap.size w w' := by
  have hcon := hide (index_ofg g B p v l w hv eg hcl)
  have hid := hide (idx_any p l)
  obtain ⟨a, c, rfl⟩ := hv.val
  obtain ⟨n, hn⟩ : ∃ n, n = l.length := ⟨_, rfl⟩
  rw [← hn] at hcon ⊢
  clear hv hcl hn eg
  obtain ⟨R, hR⟩ : ∃ R, R = l.any p := ⟨_, rfl⟩
  obtain ⟨z, hz⟩ : ∃ z, z = idxI p l := ⟨_, rfl⟩
  rw [← hR] at hid ⊢
  rw [← hz] at hid hcon
  clear hR hz
  go_enter Tryz.func99, Tryz.ntmps99
  go_wp2_with fail
  refine (unhide hcon).mono ?_
  rintro e w1 ⟨rfl, hw1⟩
  have B1 := hide hw1
  clear hw1
  go_wp2_with fail
  go_ret
  exact ⟨ret_bool (unhide hid), unhide B1⟩

set_option maxRecDepth 100000 in
set_option maxHeartbeats 8000000 in
theorem index_typ (g B : Nat) (p : VType → Bool) (v : Value) (l : List (VType)) (w : World) (hv : Lst typK w v l) (eg : ∀ args w, (callFunc g args).run Tryz.prog w = .ok (.enter g args) w)
    (hcl : ∀ (W : World) (x : VType) (u1 u2 : Value), x ∈ l → Below w.heap.size w W → Calls Tryz.prog g #[typA x u1 u2, .pointer (some ⟨B, 0, none⟩)] W fun e w' => e = .returned (.bool (p x)) ∧ Below W.heap.size W w') :
    Calls Tryz.prog 46 #[v, .func (.func g) #[] #[.pointer (some ⟨B, 0, none⟩)]] w fun e w' => e = .returned (.int .i64 (idxI p l)) ∧ Below w.heap.size w w' := by
  have HV := hide hv
  have HC := hide hcl
  have hlen := hv.len
  obtain ⟨a, c, rfl⟩ := hv.val
  obtain ⟨n, hn⟩ : ∃ n, n = l.length := ⟨_, rfl⟩
  rw [← hn] at HV hlen ⊢
  have HN := hide hn
  clear hv hcl hn
  obtain ⟨R, hR⟩ : ∃ R, R = idxI p l := ⟨_, rfl⟩
  rw [← hR]
  have HR := hide hR
  clear hR
  go_enter Tryz.func46, Tryz.ntmps46
  go_wp2_with fail
  go_loopw [8] (fun i W => ∃ k : Nat, k ≤ n ∧ i = .int .i64 k ∧ Hid ((l.take k).any p = false) ∧ Hid (Below w.heap.size w W)) (fun i _ => n - (intOf i).toNat)
  case atStart => exact ⟨0, Nat.zero_le _, rfl, rfl, Below.refl _ _⟩
  case round =>
    obtain ⟨k, hk, rfl, hany, hbel⟩ := hrel
    by_cases hlt : k < n
    · have hlk : k < l.length := by rw [← unhide HN]; exact hlt
      obtain ⟨b, o, rfl, hat⟩ := ((unhide HV).below (unhide hbel)).at hlk
      have hnx := hide (any_next6 (p := p) l k hlk)
      have hys := hide (fun hp => idx_at (p := p) hlk (unhide hany) hp)
      have hmem := hide (List.getElem_mem hlk)
      obtain ⟨x, hx⟩ : ∃ x, x = l[k] := ⟨_, rfl⟩
      rw [← hx] at hat hnx hys hmem
      obtain ⟨q, hq⟩ : ∃ q, q = p x := ⟨_, rfl⟩
      rw [← hq] at hnx hys
      obtain ⟨⟨s0, _⟩, ⟨s1, s2⟩, ⟨s3, s4⟩, ⟨u1, s5, _⟩, u2, s6, _⟩ := typ_at.1 hat
      have hcl := hide (unhide HC wr x u1 u2 (unhide hmem) (unhide hbel))
      rw [← hq] at hcl
      clear hq hx hlk hat hmem
      unfold typA at hcl
      rw [show typK.size = 7 from rfl] at s0 s1 s2 s3 s4 s5 s6
      cases q
      · have hn2 : Hid ((l.take (k + 1)).any p = false) := by show _ = _; rw [unhide hnx, unhide hany]; rfl
        go_wp2_with (go_at_fn g; refine (unhide hcl).mono ?_; rintro e w2 ⟨rfl, hw2⟩; have B2 := hide (chain (unhide hbel) hw2); clear hw2 s0 s1 s2 s3 s4 s5 s6)
        exact ⟨⟨k + 1, by omega, by go_num, hn2, B2⟩, by simp [intOf]; omega⟩
      · have hfin : Hid (R = (k : Int)) := by show _ = _; rw [unhide HR]; exact unhide hys rfl
        go_wp2_with (go_at_fn g; refine (unhide hcl).mono ?_; rintro e w2 ⟨rfl, hw2⟩; have B2 := hide (chain (unhide hbel) hw2); clear hw2 s0 s1 s2 s3 s4 s5 s6)
        go_ret
        exact ⟨ret_int (unhide hfin).symm, unhide B2⟩
    · obtain rfl : k = n := by omega
      have hfin : Hid (R = -1) := by
        show _ = _
        have := unhide hany
        rw [List.take_of_length_le (by rw [← unhide HN]; exact Nat.le_refl _)] at this
        rw [unhide HR, idx_none this]
      go_wp2_with fail
      go_ret
      exact ⟨ret_int (unhide hfin).symm, unhide hbel⟩
set_option maxHeartbeats 4000000 in
theorem contains_typ (g B : Nat) (p : VType → Bool) (v : Value) (l : List (VType)) (w : World) (hv : Lst typK w v l) (eg : ∀ args w, (callFunc g args).run Tryz.prog w = .ok (.enter g args) w)
    (hcl : ∀ (W : World) (x : VType) (u1 u2 : Value), x ∈ l → Below w.heap.size w W → Calls Tryz.prog g #[typA x u1 u2, .pointer (some ⟨B, 0, none⟩)] W fun e w' => e = .returned (.bool (p x)) ∧ Below W.heap.size W w') :
    Calls Tryz.prog 45 #[v, .func (.func g) #[] #[.pointer (some ⟨B, 0, none⟩)]] w fun e w' => e = .returned (.bool (l.any p)) ∧ Below w.heap.size w w' := by
  have hcon := hide (index_typ g B p v l w hv eg hcl)
  have hid := hide (idx_any p l)
  obtain ⟨a, c, rfl⟩ := hv.val
  obtain ⟨n, hn⟩ : ∃ n, n = l.length := ⟨_, rfl⟩
  rw [← hn] at hcon ⊢
  clear hv hcl hn eg
  obtain ⟨R, hR⟩ : ∃ R, R = l.any p := ⟨_, rfl⟩
  obtain ⟨z, hz⟩ : ∃ z, z = idxI p l := ⟨_, rfl⟩
  rw [← hR] at hid ⊢
  rw [← hz] at hid hcon
  clear hR hz
  go_enter Tryz.func45, Tryz.ntmps45
  go_wp2_with fail
  refine (unhide hcon).mono ?_
  rintro e w1 ⟨rfl, hw1⟩
  have B1 := hide hw1
  clear hw1
  go_wp2_with fail
  go_ret
  exact ⟨ret_bool (unhide hid), unhide B1⟩
end Go.Proofs.YtepcnfnmphgccaaGreatDoor
