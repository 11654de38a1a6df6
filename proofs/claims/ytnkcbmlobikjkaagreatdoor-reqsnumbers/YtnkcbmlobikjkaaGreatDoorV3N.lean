/- Layer 3: contracts of shared, operates. -/
import Derived.Test.YtnkcbmlobikjkaaGreatDoorV3M
namespace Go.Proofs.YtnkcbmlobikjkaaGreatDoor
open Go.RowKit Suf Val Go.Maps

theorem lists_one {w : World} {v : Value} {l : List Txt} (h : Strs w v l) (t : TypeId) : Lists (w.alloc (.cells #[v] t)) w.heap.size [(v, l)] := fun i hi => by
  have : i = 0 := by simpa using hi
  subst this
  exact ⟨by simp [go_sem], h.below (box_below _)⟩
theorem lists_two {w : World} {u v : Value} {l m : List Txt} (h : Strs w u l) (h2 : Strs w v m) (t : TypeId) : Lists (w.alloc (.cells #[u, v] t)) w.heap.size [(u, l), (v, m)] := fun i hi => by
  match i, hi with
  | 0, _ => exact ⟨by simp [go_sem], h.below (box_below _)⟩
  | 1, _ => exact ⟨by simp [go_sem], h2.below (box_below _)⟩
theorem joined_one (v : Value) (l : List Txt) : joined [(v, l)] = l := by simp [joined]
theorem joined_two (u v : Value) (l m : List Txt) : joined [(u, l), (v, m)] = l ++ m := by simp [joined]

set_option maxHeartbeats 1000000 in
theorem shared_any (am an aq : Bool) (u : Value) (l : List Txt) (alo ahi : Int) (miss no num : Bool) (v : Value) (m : List Txt) (lo hi : Int) (w : World) (hL : Laid w) (hu : Strs w u l) (hv : Strs w v m) (hr : rises m = true) :
    Calls Tryz.prog 73 #[.agg #[.bool am, .bool an, .bool aq, u, .int .i64 alo, .int .i64 ahi], .agg #[.bool miss, .bool no, .bool num, v, .int .i64 lo, .int .i64 hi]] w fun e w' => ∃ b, e = .returned (.map (some b)) ∧ Keys w' b (l.filter (hasP no num m lo hi)) ∧ w.heap.size ≤ b ∧ Below w.heap.size w w' := by
  have HU := hide hu
  have HV := hide hv
  have HL := hide hL
  have HR := hide hr
  have hl44 := hide1 hu.len
  obtain ⟨a1, c1, rfl⟩ := hu.val
  obtain ⟨a2, c2, rfl⟩ := hv.val
  clear hL hr hu hv
  obtain ⟨n1, hn1⟩ : ∃ n, n = l.length := ⟨_, rfl⟩
  obtain ⟨n2, hn2⟩ : ∃ n, n = m.length := ⟨_, rfl⟩
  rw [← hn1] at HU ⊢
  rw [← hn2] at HV ⊢
  clear hn1 hn2
  obtain ⟨W0, hW0⟩ : ∃ W0, W0 = ((w.alloc (.cells #[.bool am, .bool an, .bool aq, .slice a1 n1 c1, .int .i64 alo, .int .i64 ahi] 42)).alloc (.cells #[.bool miss, .bool no, .bool num, .slice a2 n2 c2, .int .i64 lo, .int .i64 hi] 42)) := ⟨_, rfl⟩
  have hb0 : Hid (Below w.heap.size w W0) := by rw [hW0]; exact ((box_below _).alloc (by simp) _)
  have hsix : Hid (Six W0 (w.heap.size + 1) (.bool miss) (.bool no) (.bool num) (.slice a2 n2 c2) (.int .i64 lo) (.int .i64 hi)) := by
    have := six_new (w.alloc (.cells #[.bool am, .bool an, .bool aq, .slice a1 n1 c1, .int .i64 alo, .int .i64 ahi] 42)) (.bool miss) (.bool no) (.bool num) (.slice a2 n2 c2) (.int .i64 lo) (.int .i64 hi) 42
    rw [show (w.alloc (.cells #[.bool am, .bool an, .bool aq, .slice a1 n1 c1, .int .i64 alo, .int .i64 ahi] 42)).heap.size = w.heap.size + 1 by simp] at this
    rw [hW0]; exact this
  have hsz0 : Hid (W0.heap.size = w.heap.size + 1 + 1) := by rw [hW0]; show _ = _; simp
  have GW := hide hW0
  clear hW0
  have hls := hide (lists_one ((unhide HU).below (unhide hb0)) 23)
  go_enter Tryz.func73, Tryz.ntmps73
  go_wp2_with fail
  rw [← unhide GW, ← unhide hsz0]
  refine (gathered_any W0.heap.size [(.slice a1 n1 c1, l)] _ (unhide hls) (by rw [joined_one]; have := unhide1 hl44; omega) (by simp)).mono ?_
  rintro e w1 ⟨b, rfl, hk1, hb1, hw1⟩
  rw [joined_one] at hk1
  have K1 := hide hk1
  have B1 := hide (chain (chain (unhide hb0) (box_below _)) hw1)
  have S1 := hide (((unhide hsix).below (box_below _)).below hw1)
  have HB1 : Hid (w.heap.size ≤ b) := Nat.le_trans (unhide hb0).size (Nat.le_trans (by simp) hb1)
  clear hk1 hw1 hls hsix GW hb0 hsz0 hb1
  have hpred := hide (judge_has (w.heap.size + 1) miss no num (.slice a2 n2 c2) m lo hi (unhide HR) (fun W => w1.grownBy W (some b)) (fun W hg => ⟨((unhide HL).below (unhide B1)).turn (unhide K1) hg, (unhide S1).turn (unhide K1) hg, ((unhide HV).below (unhide B1)).turn (unhide K1) hg⟩))
  go_wp2_with fail
  refine (keep_any 99 _ (hasP no num m lo hi) enters_has b l w1 (unhide K1) (unhide hpred)).mono ?_
  rintro e w2 ⟨rfl, hk2, hg2⟩
  have K2 := hide hk2
  have B2 := hide (grown_below (unhide B1) hg2 (unhide HB1))
  clear hk2 hg2 hpred B1 S1 K1
  go_wp2_with fail
  go_ret
  exact ⟨b, rfl, unhide K2, unhide HB1, unhide B2⟩

/-- Whether there is such an operation, and it has what it takes. -/
def operB (op : Int) (len : Nat) (n : Int) : Bool :=
  !(decide (op < 1) || decide (6 < op) || (((op == 1) || (op == 2)) != decide (0 < len))) && ((n == 0) || (((op == 5) || (op == 6)) && !farB n))
set_option maxHeartbeats 1000000 in
theorem operates_any (key : ByteArray) (op : Int) (a : Option Addr) (len c : Nat) (n : Int) (w : World) (hlen : len ≤ 17592186044416) :
    Calls Tryz.prog 93 #[.agg #[.string key, .int .i64 op, .slice a len c, .int .i64 n]] w fun e w' => e = .returned (.bool (operB op len n)) ∧ Below w.heap.size w w' := by
  obtain ⟨r, hr⟩ : ∃ r, r = operB op len n := ⟨_, rfl⟩
  rw [← hr]
  have HR := hide hr
  clear hr
  obtain ⟨q1, hq1⟩ : ∃ q, (op == 1) = q := ⟨_, rfl⟩
  obtain ⟨q2, hq2⟩ : ∃ q, (op == 2) = q := ⟨_, rfl⟩
  obtain ⟨q5, hq5⟩ : ∃ q, (op == 5) = q := ⟨_, rfl⟩
  obtain ⟨q6, hq6⟩ : ∃ q, (op == 6) = q := ⟨_, rfl⟩
  obtain ⟨p1, hp1⟩ : ∃ p, decide (op < 1) = p := ⟨_, rfl⟩
  obtain ⟨p6, hp6⟩ : ∃ p, decide (6 < op) = p := ⟨_, rfl⟩
  obtain ⟨pl, hpl⟩ : ∃ p, decide (0 < (len : Int)) = p := ⟨_, rfl⟩
  obtain ⟨pn, hpn⟩ : ∃ p, (n == 0) = p := ⟨_, rfl⟩
  obtain ⟨pf, hpf⟩ : ∃ p, p = farB n := ⟨_, rfl⟩
  have cf : ∀ W, Calls Tryz.prog 86 #[.int .i64 n] W fun e w' => e = .returned (.bool pf) ∧ w' = W := fun W => hpf ▸ tooFar_any n W
  have hf : Hid (r = (!(p1 || p6 || ((q1 || q2) != pl)) && (pn || ((q5 || q6) && !pf)))) := (unhide HR).trans (by
    unfold operB; rw [hq1, hq2, hq5, hq6, hp1, hp6, hpn, ← hpf, show decide (0 < len) = pl by rw [← hpl, decide_eq_decide]; omega])
  clear HR hpf hlen
  go_enter Tryz.func93, Tryz.ntmps93
  go_wp2_with (first | (go_at_call 86; refine (cf _).mono ?_; rintro e w' ⟨rfl, rfl⟩))
  all_goals
    go_ret
    refine ⟨ret_bool ?_, box_below _⟩
    have hf2 := unhide hf
    clear hf cf hq1 hq2 hq5 hq6 hp1 hp6 hpn
    rw [hf2]
    clear hf2
    first | (cases q1 <;> cases q2 <;> cases pl <;> simp_all) | (cases q1 <;> cases q2 <;> cases q5 <;> cases q6 <;> cases pl <;> cases pn <;> cases pf <;> simp_all)

end Go.Proofs.YtnkcbmlobikjkaaGreatDoor
