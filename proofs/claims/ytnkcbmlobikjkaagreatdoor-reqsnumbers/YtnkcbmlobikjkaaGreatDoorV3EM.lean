/- Layer 3: contract of Empty. -/
import Derived.Test.YtnkcbmlobikjkaaGreatDoorV3F
namespace Go.Proofs.YtnkcbmlobikjkaaGreatDoor
open Go.RowKit Suf Val

/-- Whether a set that may be has neither a value nor none. -/
def emptyB (s : VSet) : Bool := checkB s && !s.no && !s.miss && (s.vals.length == 0)
set_option maxRecDepth 100000 in
set_option maxHeartbeats 4000000 in
theorem empty_any (miss no num : Bool) (v : Value) (l : List Txt) (lo hi : Int) (w : World) (hL : Laid w) (hv : Strs w v l) :
    Calls Tryz.prog 39 #[.agg #[.bool miss, .bool no, .bool num, v, .int .i64 lo, .int .i64 hi]] w fun e w' => e = .returned (.bool (emptyB ⟨miss, no, num, l, lo, hi⟩)) ∧ Below w.heap.size w w' := by
  obtain ⟨r, hr⟩ : ∃ r, r = emptyB ⟨miss, no, num, l, lo, hi⟩ := ⟨_, rfl⟩
  rw [← hr]
  have HL := hide hL
  clear hL
  have HR := hide hr
  have HV := hide hv
  obtain ⟨a, c, rfl⟩ := hv.val
  clear hv hr
  obtain ⟨n, hn⟩ : ∃ n, n = l.length := ⟨_, rfl⟩
  rw [← hn] at HV ⊢
  obtain ⟨q0, hq0⟩ : ∃ q, q = checkB ⟨miss, no, num, l, lo, hi⟩ := ⟨_, rfl⟩
  have hf : Hid (r = (q0 && !no && !miss && (n == 0))) := (unhide HR).trans (by rw [hq0, hn]; rfl)
  have Q0 := hide hq0
  clear hq0 hn HR
  go_enter Tryz.func39, Tryz.ntmps39
  go_wp2_with fail
  refine (check_any _ _ _ _ l _ _ _ ((unhide HL).alloc _) ((unhide HV).below (box_below _))).mono ?_
  rintro e w1 ⟨he, hw1⟩
  rw [← unhide Q0] at he
  subst he
  have hsix := ((six_new w (.bool miss) (.bool no) (.bool num) (.slice a n c) (.int .i64 lo) (.int .i64 hi) 42).below hw1)
  have HB1 := hide (chain (box_below _) hw1)
  clear hw1
  obtain ⟨k0, k1, k2, k3, k4, k5⟩ := hsix
  cases q0
  · rw [show errC false = 1 from rfl]
    go_wp2_with fail
    go_ret
    exact ⟨ret_bool (by rw [unhide hf]; rfl), unhide HB1⟩
  rw [show errC true = 0 from rfl]
  cases no
  · cases miss
    · go_wp2_with fail
      go_ret
      refine ⟨ret_bool ?_, unhide HB1⟩
      rw [unhide hf, Bool.eq_iff_iff]; first | (simp; done) | (simp; omega)
    · go_wp2_with fail
      go_ret
      exact ⟨ret_bool (by rw [unhide hf]; rfl), unhide HB1⟩
  · cases miss
    · go_wp2_with fail
      go_ret
      exact ⟨ret_bool (by rw [unhide hf]; rfl), unhide HB1⟩
    · go_wp2_with fail
      go_ret
      exact ⟨ret_bool (by rw [unhide hf]; rfl), unhide HB1⟩
end Go.Proofs.YtnkcbmlobikjkaaGreatDoor
