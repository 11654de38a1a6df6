/- Layer 7: contracts of named, counts, Check, and of the document's 'one' and Check. -/
import Derived.Test.YtcpgodkgdceocaaCoB
import Derived.Deep.DeepCutAuto
import Derived.Deep.CutRange
namespace Go.Proofs.Ytcpgodkgdceocaa
open Go.RowKit Suf Val

theorem takeH6 {P : Program} {md : Region.Mode} {ops : Array Oper} {Q : Exit → Act → World → Prop} {S : World → Prop} {i d : Nat} {oi : Oper} {v : Value} {fuel : Nat} {listed : Array Bool} {a : Act} {w : World} (hi : ops[i]? = some oi) (hd : oi.dst = some d)
    (hs : Region.noSelect ops = true) (hf : Region.free md ops listed i = true) (hr : (Region.ready md ops listed).contains i = true)
    (hQ : ∀ c a w, Q (.panic c) (a.put (some d) v) w → Q (.panic c) a w) (hy : YieldsIf P ops S oi v a) (hS : S w)
    (h : wpAnyH P md ops Q S fuel (listed.setIfInBounds i true) (a.put (some d) v) w) : wpAnyH P md ops Q S (fuel + 1) listed a w := by
  rw [← hd] at hQ h
  exact wpAnyH_take hi hs hf hr hQ hy hS h
/-- The cells of a box that holds a cooling. -/
structure CBox (W : World) (B : Nat) (c : VCool) : Prop where
  c0 : W.cell? ⟨B, 0, none⟩ = some (.string (bytesT c.1.1))
  c1 : W.cell? ⟨B, 1, none⟩ = some (.string (bytesT c.1.2.1))
  c2 : W.cell? ⟨B, 2, none⟩ = some (.string (bytesT c.1.2.2))
  c3 : W.cell? ⟨B, 3, none⟩ = some (.int .i64 c.2)
theorem CBox.below {W W' : World} {B : Nat} {c : VCool} (h : CBox W B c) (hb : Below W.heap.size W W') : CBox W' B c := ⟨cell_kept hb h.c0, cell_kept hb h.c1, cell_kept hb h.c2, cell_kept hb h.c3⟩
theorem cbox_new (w : World) (c : VCool) : CBox (w.alloc (.cells #[.string (bytesT c.1.1), .string (bytesT c.1.2.1), .string (bytesT c.1.2.2), .int .i64 c.2] 25)) w.heap.size c :=
  ⟨by simp [go_sem], by simp [go_sem], by simp [go_sem], by simp [go_sem]⟩

set_option maxHeartbeats 4000000 in
theorem pcounts_any (c : VCool) (now : Int) (w : World) :
    Calls Try.prog 30 #[coolA c, .int .i64 now] w fun e w' => e = .returned (.bool (decide (now < c.2))) ∧ Below w.heap.size w w' := by
  obtain ⟨⟨a, b, d⟩, z⟩ := c
  show Calls _ _ #[.agg #[.string (bytesT a), .string (bytesT b), .string (bytesT d), .int .i64 z], .int .i64 now] _ (fun e w' => e = .returned (.bool (decide (now < z))) ∧ Below w.heap.size w w')
  have B : Hid (Below w.heap.size w (w.alloc (.cells #[.string (bytesT a), .string (bytesT b), .string (bytesT d), .int .i64 z] 25))) := boxb _
  obtain ⟨q, hq⟩ : ∃ q, q = decide (now < z) := ⟨_, rfl⟩
  rw [← hq]
  have HQ := hide hq
  clear hq
  by_cases h : now < z
  all_goals
    go_enter Try.func30, Try.ntmps30
    go_wp2_with fail
    go_ret
    refine ⟨ret_bool ?_, unhide B⟩
    rw [unhide HQ]; simp [h]

set_option maxHeartbeats 8000000 in
theorem pnamed_any (x : VOff) (w : World) (hx : okO x) :
    Calls Try.prog 23 #[offA x] w fun e w' => e = .returned (.bool (nameB x.1 && (nameB x.2.1 && nameB x.2.2))) ∧ Below w.heap.size w w' := by
  obtain ⟨a, b, d⟩ := x
  obtain ⟨h0, h1, h2⟩ := hx
  obtain ⟨q0, hq0⟩ : ∃ q, q = nameB a := ⟨_, rfl⟩
  obtain ⟨q1, hq1⟩ : ∃ q, q = nameB b := ⟨_, rfl⟩
  obtain ⟨q2, hq2⟩ : ∃ q, q = nameB d := ⟨_, rfl⟩
  have n0 := hide (fun W => (name_any (bytesT a) W (short_max h0)))
  have n1 := hide (fun W => (name_any (bytesT b) W (short_max h1)))
  have n2 := hide (fun W => (name_any (bytesT d) W (short_max h2)))
  rw [bytesT_list, ← hq0] at n0
  rw [bytesT_list, ← hq1] at n1
  rw [bytesT_list, ← hq2] at n2
  show Calls _ _ _ _ (fun e w' => e = .returned (.bool (nameB a && (nameB b && nameB d))) ∧ Below w.heap.size w w')
  rw [← hq0, ← hq1, ← hq2]
  clear h0 h1 h2 hq0 hq1 hq2
  unfold offA
  show Calls _ _ #[.agg #[.string (bytesT a), .string (bytesT b), .string (bytesT d)]] _ _
  obtain ⟨s0, hs0⟩ : ∃ X, X = bytesT a := ⟨_, rfl⟩
  obtain ⟨s1, hs1⟩ : ∃ X, X = bytesT b := ⟨_, rfl⟩
  obtain ⟨s2, hs2⟩ : ∃ X, X = bytesT d := ⟨_, rfl⟩
  rw [← hs0] at n0 ⊢
  rw [← hs1] at n1 ⊢
  rw [← hs2] at n2 ⊢
  clear hs0 hs1 hs2
  have B : Hid (Below w.heap.size w (w.alloc (.cells #[.string s0, .string s1, .string s2] 23))) := boxb _
  go_enter Try.func23, Try.ntmps23
  go_wp2_with fail
  refine (unhide n0 _).mono ?_
  rintro e w1 ⟨rfl, hw1⟩
  obtain rfl := hw1.symm
  clear hw1
  cases q0
  · go_wp2_with fail
    go_ret
    exact ⟨ret_bool (by simp), unhide B⟩
  go_wp2_with fail
  refine (unhide n1 _).mono ?_
  rintro e w1 ⟨rfl, hw1⟩
  obtain rfl := hw1.symm
  clear hw1
  cases q1
  · go_wp2_with fail
    go_ret
    exact ⟨ret_bool (by simp), unhide B⟩
  go_wp2_with fail
  refine (unhide n2 _).mono ?_
  rintro e w1 ⟨rfl, hw1⟩
  obtain rfl := hw1.symm
  clear hw1
  go_wp2_with fail
  go_ret
  exact ⟨ret_bool (by simp), unhide B⟩

set_option maxHeartbeats 8000000 in
theorem rone_any (c : VCool) (w : World) (hx : okO c.1) :
    Calls Try.prog 25 #[coolA c] w fun e w' => e = .returned (.int .i64 (oneR c)) ∧ Below w.heap.size w w' := by
  obtain ⟨⟨a, b, d⟩, z⟩ := c
  obtain ⟨h0, h1, h2⟩ := hx
  obtain ⟨R, hR⟩ : ∃ R, R = oneR ((a, b, d), z) := ⟨_, rfl⟩
  rw [← hR]
  unfold oneR at hR
  simp only at hR
  obtain ⟨q0, hq0⟩ : ∃ q, q = nameB a := ⟨_, rfl⟩
  obtain ⟨q1, hq1⟩ : ∃ q, q = nameB b := ⟨_, rfl⟩
  obtain ⟨q2, hq2⟩ : ∃ q, q = nameB d := ⟨_, rfl⟩
  have n0 := hide (fun W => (rname_any (bytesT a) W (short_max h0)))
  have n1 := hide (fun W => (rname_any (bytesT b) W (short_max h1)))
  have n2 := hide (fun W => (rname_any (bytesT d) W (short_max h2)))
  rw [bytesT_list, ← hq0] at n0
  rw [bytesT_list, ← hq1] at n1
  rw [bytesT_list, ← hq2] at n2
  rw [← hq0, ← hq1, ← hq2] at hR
  have HR := hide hR
  clear h0 h1 h2 hq0 hq1 hq2 hR
  show Calls _ _ #[.agg #[.string (bytesT a), .string (bytesT b), .string (bytesT d), .int .i64 z]] _ _
  obtain ⟨s0, hs0⟩ : ∃ X, X = bytesT a := ⟨_, rfl⟩
  obtain ⟨s1, hs1⟩ : ∃ X, X = bytesT b := ⟨_, rfl⟩
  obtain ⟨s2, hs2⟩ : ∃ X, X = bytesT d := ⟨_, rfl⟩
  rw [← hs0] at n0 ⊢
  rw [← hs1] at n1 ⊢
  rw [← hs2] at n2 ⊢
  clear hs0 hs1 hs2
  have B : Hid (Below w.heap.size w (w.alloc (.cells #[.string s0, .string s1, .string s2, .int .i64 z] 25))) := boxb _
  go_enter Try.func25, Try.ntmps25
  go_wp2_with fail
  refine (unhide n0 _).mono ?_
  rintro e w1 ⟨rfl, hw1⟩
  obtain rfl := hw1.symm
  clear hw1
  go_wp2_with fail
  refine (unhide n1 _).mono ?_
  rintro e w1 ⟨rfl, hw1⟩
  obtain rfl := hw1.symm
  clear hw1
  go_wp2_with fail
  refine (unhide n2 _).mono ?_
  rintro e w1 ⟨rfl, hw1⟩
  obtain rfl := hw1.symm
  clear hw1
  cases q0
  · have hfin : Hid (R = 7) := by show _ = _; rw [unhide HR]; simp
    go_wp2_with fail
    go_ret
    exact ⟨ret_int (unhide hfin).symm, unhide B⟩
  cases q1
  · have hfin : Hid (R = 7) := by show _ = _; rw [unhide HR]; simp
    go_wp2_with fail
    go_ret
    exact ⟨ret_int (unhide hfin).symm, unhide B⟩
  cases q2
  · have hfin : Hid (R = 7) := by show _ = _; rw [unhide HR]; simp
    go_wp2_with fail
    go_ret
    exact ⟨ret_int (unhide hfin).symm, unhide B⟩
  have HR2 : Hid (R = if z < 0 ∨ 1099511627776 < z then 1 else 0) := by show _ = _; rw [unhide HR, if_neg (by decide)]
  clear HR
  by_cases hz : z < 0
  · have hfin : Hid (R = 1) := by show _ = _; rw [unhide HR2, if_pos (Or.inl hz)]
    clear HR2
    go_wp2_with fail
    go_ret
    exact ⟨ret_int (unhide hfin).symm, unhide B⟩
  by_cases hz2 : 1099511627776 < z
  · have hfin : Hid (R = 1) := by show _ = _; rw [unhide HR2, if_pos (Or.inr hz2)]
    clear HR2
    go_wp2_with fail
    go_ret
    exact ⟨ret_int (unhide hfin).symm, unhide B⟩
  · have hfin : Hid (R = 0) := by show _ = _; rw [unhide HR2, if_neg (by omega)]
    clear HR2
    go_wp2_with fail
    go_ret
    exact ⟨ret_int (unhide hfin).symm, unhide B⟩
end Go.Proofs.Ytcpgodkgdceocaa
