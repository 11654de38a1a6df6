/- Layer 5: the closures, and slices.ContainsFunc with them. -/
import Derived.Test.YtnkcbmlobikjkabDoorTaB
namespace Go.Proofs.YtnkcbmlobikjkabDoor
open Go.RowKit Suf Val

/-- How slices.IndexFunc goes over them. -/
def KeyAt (w : World) (B : Nat) (y : Lab) : Prop := w.cell? ⟨B, 0, none⟩ = some (.string (bytesT y.1))
theorem KeyAt.below {w w' : World} {B : Nat} {y : Lab} (h : KeyAt w B y) (hb : Below w.heap.size w w') : KeyAt w' B y := cell_kept hb h
theorem enters_key : ∀ args w, (callFunc 16 args).run Tryd.prog w = .ok (.enter 16 args) w := enters_of Tryd.func16 (by kernel_rfl) rfl
def sameKey (y x : Lab) : Bool := x.1 == y.1
theorem closure_key (x y : Lab) (B : Nat) (W : World) (hc : KeyAt W B y) :
    Calls Tryd.prog 16 #[labV x, .pointer (some ⟨B, 0, none⟩)] W fun e w' => e = .returned (.bool (sameKey y x)) ∧ Below W.heap.size W w' := by
  unfold labV sameKey
  have hq := hide (txt_beq x.1 y.1)
  obtain ⟨X, hX⟩ : ∃ X, X = bytesT x.1 := ⟨_, rfl⟩
  obtain ⟨Z, hZ⟩ : ∃ Z, Z = bytesT x.2 := ⟨_, rfl⟩
  unfold KeyAt at hc
  obtain ⟨Y, hY⟩ : ∃ Y, Y = bytesT y.1 := ⟨_, rfl⟩
  rw [← hX, ← hZ]
  rw [← hY] at hc
  rw [← hX, ← hY] at hq
  clear hX hY hZ
  have hc2 := cell_box (.cells #[.string X, .string Z] 26) hc
  clear hc
  obtain ⟨r, hr⟩ : ∃ r, r = (x.1 == y.1) := ⟨_, rfl⟩
  rw [← hr] at hq ⊢
  clear hr
  go_enter Tryd.func16, Tryd.ntmps16
  go_wp2_with fail
  go_ret
  exact ⟨ret_bool (unhide hq), box_below _⟩

set_option maxRecDepth 100000 in
set_option maxHeartbeats 8000000 in
theorem index_key (B : Nat) (y : Lab) (v : Value) (l : List Lab) (w : World) (hv : Labs w v l) (hc : KeyAt w B y) :
    Calls Tryd.prog 28 #[v, .func (.func 16) #[] #[.pointer (some ⟨B, 0, none⟩)]] w fun e w' => (∃ z : Int, e = .returned (.int .i64 z) ∧ decide (0 ≤ z) = l.any (sameKey y)) ∧ Below w.heap.size w w' := by
  have HV := hide hv
  have HC := hide hc
  have hlen := hv.len
  obtain ⟨a, c, rfl⟩ := hv.val
  obtain ⟨n, hn⟩ : ∃ n, n = l.length := ⟨_, rfl⟩
  rw [← hn] at HV hlen ⊢
  have HN := hide hn
  clear hv hc hn
  obtain ⟨R, hR⟩ : ∃ R, R = l.any (sameKey y) := ⟨_, rfl⟩
  rw [← hR]
  have HR := hide hR
  clear hR
  have eg := enters_key
  go_enter Tryd.func28, Tryd.ntmps28
  go_wp2_with fail
  go_loopw [8] (fun i W => ∃ k : Nat, k ≤ n ∧ i = .int .i64 k ∧ Hid ((l.take k).any (sameKey y) = false) ∧ Hid (Below w.heap.size w W)) (fun i _ => n - (intOf i).toNat)
  case atStart => exact ⟨0, Nat.zero_le _, rfl, rfl, Below.refl _ _⟩
  case round =>
    obtain ⟨k, hk, rfl, hany, hbel⟩ := hrel
    by_cases hlt : k < n
    · have hlk : k < l.length := by rw [← unhide HN]; exact hlt
      obtain ⟨b, o, rfl, hat⟩ := ((unhide HV).below (unhide hbel)).at hlk
      have hnx := hide (any_next (p := sameKey y) l k hlk)
      have hys := hide (any_yes (p := sameKey y) l k hlk)
      obtain ⟨x, hx⟩ : ∃ x, x = l[k] := ⟨_, rfl⟩
      rw [← hx] at hat hnx hys
      have hcl := hide (closure_key x y B wr ((unhide HC).below (unhide hbel)))
      obtain ⟨q, hq⟩ : ∃ q, q = sameKey y x := ⟨_, rfl⟩
      rw [← hq] at hnx hys hcl
      clear hq hx hlk
      obtain ⟨x0, x1⟩ := x
      obtain ⟨s0, s1, hs0, hs1⟩ := hat
      simp only at s0 s1
      clear hs0 hs1
      unfold labV at hcl
      simp only at hcl
      cases q
      · have hn2 : Hid ((l.take (k + 1)).any (sameKey y) = false) := by show _ = _; rw [unhide hnx, unhide hany]; rfl
        go_wp2_with (go_at_fn 16; refine (unhide hcl).mono ?_; rintro e w2 ⟨rfl, hw2⟩; have B2 := hide (chain (unhide hbel) hw2); clear hw2 s0 s1)
        exact ⟨⟨k + 1, by omega, by go_num, hn2, B2⟩, by simp [intOf]; omega⟩
      · have hfin : Hid (R = true) := by show _ = _; rw [unhide HR]; exact unhide hys rfl
        go_wp2_with (go_at_fn 16; refine (unhide hcl).mono ?_; rintro e w2 ⟨rfl, hw2⟩; have B2 := hide (chain (unhide hbel) hw2); clear hw2 s0 s1)
        go_ret
        exact ⟨⟨(k : Int), rfl, by rw [unhide hfin]; simp⟩, unhide B2⟩
    · obtain rfl : k = n := by omega
      have hfin : Hid (R = false) := by
        show _ = _
        have := unhide hany
        rw [List.take_of_length_le (by rw [← unhide HN]; exact Nat.le_refl _)] at this
        rw [unhide HR, this]
      go_wp2_with fail
      go_ret
      exact ⟨⟨-1, rfl, by rw [unhide hfin]; rfl⟩, unhide hbel⟩
set_option maxHeartbeats 4000000 in
theorem contains_key (B : Nat) (y : Lab) (v : Value) (l : List Lab) (w : World) (hv : Labs w v l) (hc : KeyAt w B y) :
    Calls Tryd.prog 19 #[v, .func (.func 16) #[] #[.pointer (some ⟨B, 0, none⟩)]] w fun e w' => e = .returned (.bool (l.any (sameKey y))) ∧ Below w.heap.size w w' := by
  have hcon := hide (index_key B y v l w hv hc)
  obtain ⟨a, c, rfl⟩ := hv.val
  obtain ⟨n, hn⟩ : ∃ n, n = l.length := ⟨_, rfl⟩
  rw [← hn] at hcon ⊢
  clear hv hc hn
  obtain ⟨R, hR⟩ : ∃ R, R = l.any (sameKey y) := ⟨_, rfl⟩
  rw [← hR] at hcon ⊢
  clear hR
  go_enter Tryd.func19, Tryd.ntmps19
  go_wp2_with fail
  refine (unhide hcon).mono ?_
  rintro e w1 ⟨⟨z, rfl, hz⟩, hw1⟩
  have HZ := hide hz
  have B1 := hide hw1
  clear hz hw1
  go_wp2_with fail
  go_ret
  exact ⟨ret_bool (unhide HZ), unhide B1⟩
/-- How slices.IndexFunc goes over them. -/
def LabBox (w : World) (B : Nat) (y : Lab) : Prop := Two w B (.string (bytesT y.1)) (.string (bytesT y.2))
theorem LabBox.below {w w' : World} {B : Nat} {y : Lab} (h : LabBox w B y) (hb : Below w.heap.size w w') : LabBox w' B y := Two.below h hb
theorem enters_by : ∀ args w, (callFunc 33 args).run Tryd.prog w = .ok (.enter 33 args) w := enters_of Tryd.func33 (by kernel_rfl) rfl
theorem closure_by (x : VTol) (y : Lab) (B : Nat) (W : World) (hc : LabBox W B y) :
    Calls Tryd.prog 33 #[tolV x, .pointer (some ⟨B, 0, none⟩)] W fun e w' => e = .returned (.bool (tolB y x)) ∧ Below W.heap.size W w' := by
  unfold tolV tolB
  obtain ⟨x0, x1, q⟩ := x
  obtain ⟨y0, y1⟩ := y
  unfold LabBox at hc
  simp only at hc ⊢
  obtain ⟨h0, h1⟩ := hc
  have e0 := txt_beq x0 y0
  have e1 := txt_beq x1 y1
  obtain ⟨p0, hp0⟩ : ∃ p, p = (x0 == y0) := ⟨_, rfl⟩
  obtain ⟨p1, hp1⟩ : ∃ p, p = (x1 == y1) := ⟨_, rfl⟩
  rw [← hp0] at e0 ⊢
  rw [← hp1] at e1 ⊢
  clear hp0 hp1
  obtain ⟨X0, hX0⟩ : ∃ X, X = bytesT x0 := ⟨_, rfl⟩
  obtain ⟨X1, hX1⟩ : ∃ X, X = bytesT x1 := ⟨_, rfl⟩
  obtain ⟨Y0, hY0⟩ : ∃ X, X = bytesT y0 := ⟨_, rfl⟩
  obtain ⟨Y1, hY1⟩ : ∃ X, X = bytesT y1 := ⟨_, rfl⟩
  rw [← hX0, ← hY0] at e0
  rw [← hX1, ← hY1] at e1
  rw [← hY0] at h0
  rw [← hY1] at h1
  rw [← hX0, ← hX1]
  clear hX0 hX1 hY0 hY1
  have g0 := cell_box (.cells #[.string X0, .string X1, .bool q] 28) h0
  have g1 := cell_box (.cells #[.string X0, .string X1, .bool q] 28) h1
  clear h0 h1
  cases p0 <;> cases q <;> cases p1
  all_goals
    go_enter Tryd.func33, Tryd.ntmps33
    go_wp2_with fail
    go_ret
    exact ⟨rfl, box_below _⟩

set_option maxRecDepth 100000 in
set_option maxHeartbeats 8000000 in
theorem index_by (B : Nat) (y : Lab) (v : Value) (l : List VTol) (w : World) (hv : Tols w v l) (hc : LabBox w B y) :
    Calls Tryd.prog 38 #[v, .func (.func 33) #[] #[.pointer (some ⟨B, 0, none⟩)]] w fun e w' => (∃ z : Int, e = .returned (.int .i64 z) ∧ decide (0 ≤ z) = l.any (tolB y)) ∧ Below w.heap.size w w' := by
  have HV := hide hv
  have HC := hide hc
  have hlen := hv.len
  obtain ⟨a, c, rfl⟩ := hv.val
  obtain ⟨n, hn⟩ : ∃ n, n = l.length := ⟨_, rfl⟩
  rw [← hn] at HV hlen ⊢
  have HN := hide hn
  clear hv hc hn
  obtain ⟨R, hR⟩ : ∃ R, R = l.any (tolB y) := ⟨_, rfl⟩
  rw [← hR]
  have HR := hide hR
  clear hR
  have eg := enters_by
  go_enter Tryd.func38, Tryd.ntmps38
  go_wp2_with fail
  go_loopw [8] (fun i W => ∃ k : Nat, k ≤ n ∧ i = .int .i64 k ∧ Hid ((l.take k).any (tolB y) = false) ∧ Hid (Below w.heap.size w W)) (fun i _ => n - (intOf i).toNat)
  case atStart => exact ⟨0, Nat.zero_le _, rfl, rfl, Below.refl _ _⟩
  case round =>
    obtain ⟨k, hk, rfl, hany, hbel⟩ := hrel
    by_cases hlt : k < n
    · have hlk : k < l.length := by rw [← unhide HN]; exact hlt
      obtain ⟨b, o, rfl, hat⟩ := ((unhide HV).below (unhide hbel)).at hlk
      have hnx := hide (any_next (p := tolB y) l k hlk)
      have hys := hide (any_yes (p := tolB y) l k hlk)
      obtain ⟨x, hx⟩ : ∃ x, x = l[k] := ⟨_, rfl⟩
      rw [← hx] at hat hnx hys
      have hcl := hide (closure_by x y B wr ((unhide HC).below (unhide hbel)))
      obtain ⟨q, hq⟩ : ∃ q, q = tolB y x := ⟨_, rfl⟩
      rw [← hq] at hnx hys hcl
      clear hq hx hlk
      obtain ⟨x0, x1, x2⟩ := x
      obtain ⟨s0, s1, s2, hs0, hs1⟩ := hat
      simp only at s0 s1 s2
      clear hs0 hs1
      unfold tolV at hcl
      simp only at hcl
      cases q
      · have hn2 : Hid ((l.take (k + 1)).any (tolB y) = false) := by show _ = _; rw [unhide hnx, unhide hany]; rfl
        go_wp2_with (go_at_fn 33; refine (unhide hcl).mono ?_; rintro e w2 ⟨rfl, hw2⟩; have B2 := hide (chain (unhide hbel) hw2); clear hw2 s0 s1 s2)
        exact ⟨⟨k + 1, by omega, by go_num, hn2, B2⟩, by simp [intOf]; omega⟩
      · have hfin : Hid (R = true) := by show _ = _; rw [unhide HR]; exact unhide hys rfl
        go_wp2_with (go_at_fn 33; refine (unhide hcl).mono ?_; rintro e w2 ⟨rfl, hw2⟩; have B2 := hide (chain (unhide hbel) hw2); clear hw2 s0 s1 s2)
        go_ret
        exact ⟨⟨(k : Int), rfl, by rw [unhide hfin]; simp⟩, unhide B2⟩
    · obtain rfl : k = n := by omega
      have hfin : Hid (R = false) := by
        show _ = _
        have := unhide hany
        rw [List.take_of_length_le (by rw [← unhide HN]; exact Nat.le_refl _)] at this
        rw [unhide HR, this]
      go_wp2_with fail
      go_ret
      exact ⟨⟨-1, rfl, by rw [unhide hfin]; rfl⟩, unhide hbel⟩
set_option maxHeartbeats 4000000 in
theorem contains_by (B : Nat) (y : Lab) (v : Value) (l : List VTol) (w : World) (hv : Tols w v l) (hc : LabBox w B y) :
    Calls Tryd.prog 32 #[v, .func (.func 33) #[] #[.pointer (some ⟨B, 0, none⟩)]] w fun e w' => e = .returned (.bool (l.any (tolB y))) ∧ Below w.heap.size w w' := by
  have hcon := hide (index_by B y v l w hv hc)
  obtain ⟨a, c, rfl⟩ := hv.val
  obtain ⟨n, hn⟩ : ∃ n, n = l.length := ⟨_, rfl⟩
  rw [← hn] at hcon ⊢
  clear hv hc hn
  obtain ⟨R, hR⟩ : ∃ R, R = l.any (tolB y) := ⟨_, rfl⟩
  rw [← hR] at hcon ⊢
  clear hR
  go_enter Tryd.func32, Tryd.ntmps32
  go_wp2_with fail
  refine (unhide hcon).mono ?_
  rintro e w1 ⟨⟨z, rfl, hz⟩, hw1⟩
  have HZ := hide hz
  have B1 := hide hw1
  clear hz hw1
  go_wp2_with fail
  go_ret
  exact ⟨ret_bool (unhide HZ), unhide B1⟩
end Go.Proofs.YtnkcbmlobikjkabDoor
