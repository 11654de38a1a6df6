/- Layer 3: contracts of rises, left, plain, numeric, Check. -/
import Derived.Test.YtnkcbmlobikjkaaGreatDoorV3C
namespace Go.Proofs.YtnkcbmlobikjkaaGreatDoor
open Go.RowKit Suf Val

/-- A set as the program holds it: v is the list. -/
def setV (miss no num : Bool) (v : Value) (lo hi : Int) : Value := .agg #[.bool miss, .bool no, .bool num, v, .int .i64 lo, .int .i64 hi]

set_option maxHeartbeats 1000000 in
theorem rises_any (v : Value) (l : List Txt) (w : World) (hv : Strs w v l) :
    Calls Tryz.prog 62 #[v] w fun e w' => e = .returned (.bool (rises l)) ∧ Below w.heap.size w w' := by
  obtain ⟨r, hr⟩ : ∃ r, r = rises l := ⟨_, rfl⟩
  rw [← hr]
  have HR := hide hr
  have hlen := hv.len
  clear hr
  rcases hv.open with ⟨a, c, rfl, rfl⟩ | ⟨b, o, c, hpos, rfl, hcell⟩
  · have hf : Hid (r = true) := unhide HR
    clear hv
    go_enter Tryz.func62, Tryz.ntmps62
    go_wp2_with fail
    go_loop [3] (fun i => i = .int .i64 1) (fun _ => 0)
    case atStart => rfl
    case round =>
      subst hrel
      go_wp2_with fail
      go_ret
      exact ⟨ret_bool (unhide hf).symm, Below.refl _ _⟩
  · have HC := hide hcell
    clear hv hcell
    obtain ⟨n, hn⟩ : ∃ n, n = l.length := ⟨_, rfl⟩
    rw [← hn] at hlen hpos ⊢
    have HN := hide hn
    clear hn
    go_enter Tryz.func62, Tryz.ntmps62
    go_wp2_with fail
    go_loopw [3] (fun i W => ∃ k : Nat, k + 1 ≤ n ∧ i = .int .i64 (k + 1 : Nat) ∧ Hid (Below w.heap.size w W) ∧ Hid (rises (l.take (k + 1)) = true)) (fun i _ => n - (intOf i).toNat)
    case atStart => exact ⟨0, hpos, rfl, Below.refl _ _, by show _ = _; cases l with | nil => rfl | cons a l => rfl⟩
    case round =>
      obtain ⟨k, hk, rfl, hbel, hall⟩ := hrel
      by_cases hlt : k + 1 < n
      · have hlk : k + 1 < l.length := by rw [← unhide HN]; exact hlt
        have hc0 := cell_kept (unhide hbel) (unhide HC k (by omega))
        have hc1 := cell_kept (unhide hbel) (unhide HC (k + 1) hlk)
        obtain ⟨t, ht⟩ : ∃ t, t = l[k] := ⟨_, rfl⟩
        obtain ⟨u, hu⟩ : ∃ u, u = l[k + 1] := ⟨_, rfl⟩
        rw [← ht] at hc0
        rw [← hu] at hc1
        obtain ⟨q, hq⟩ : ∃ q, q = lt t u := ⟨_, rfl⟩
        have hg : (Op.bytesLess (bytesT t).toList (bytesT u).toList) = q := by rw [hq, Lib.toList_data, Lib.toList_data]; rfl
        have hQ := hide hq
        have hT := hide ht
        have hU := hide hu
        clear hq ht hu
        have e2 : ((k + 1 : Nat) : Int) = (k : Int) + 1 := by omega
        rw [e2]
        clear e2
        cases q
        · have hn2 : Hid (r = false) := (unhide HR).trans (rises_no l k hlk (by rw [← unhide hT, ← unhide hU]; exact (unhide hQ).symm))
          clear hT hU hQ hlk
          go_wp2_with fail
          go_quiet (fail)
          go_wp2_with fail
          go_ret
          exact ⟨ret_bool (unhide hn2).symm, below_drewN (unhide hbel) _⟩
        · have ha2 := hide (rises_next l k hlk (unhide hall) (by rw [← unhide hT, ← unhide hU]; exact (unhide hQ).symm))
          clear hT hU hQ hlk
          go_wp2_with fail
          go_quiet (fail)
          go_wp2_with fail
          go_roundw
          case rel => exact ⟨k + 1, by omega, by go_num, below_drewN (unhide hbel) _, ha2⟩
          case measure => simp [intOf]; omega
      · obtain rfl : n = k + 1 := by omega
        have hn2 : Hid (r = true) := (unhide HR).trans (by rw [← unhide hall, List.take_of_length_le (by rw [← unhide HN]; exact Nat.le_refl _)])
        go_wp2_with fail
        go_ret
        exact ⟨ret_bool (unhide hn2).symm, unhide hbel⟩


theorem wrap_small (x : Int) (h0 : -9223372036854775808 ≤ x) (h1 : x ≤ 9223372036854775807) : wrap64 x = x := by unfold wrap64; omega
theorem left_any (lo hi : Int) (n : Nat) (w : World) (h0 : -4294967296 ≤ lo ∧ lo ≤ 4294967296) (h1 : -4294967296 ≤ hi ∧ hi ≤ 4294967296) (hn : n ≤ 17592186044416) :
    Calls Tryz.prog 87 #[.int .i64 lo, .int .i64 hi, .int .i64 n] w fun e w' => e = .returned (.int .i64 (hi - lo + 1 - n)) ∧ w' = w := by
  have e1 := wrap_small (hi - lo) (by omega) (by omega)
  have e2 := wrap_small (hi - lo + 1) (by omega) (by omega)
  have e3 := wrap_small (hi - lo + 1 - n) (by omega) (by omega)
  clear h0 h1 hn
  go_enter Tryz.func87, Tryz.ntmps87
  go_wp2_with fail
  go_ret
  exact ⟨ret_int (by first | rfl | rw [e3] | simp [e1, e2, e3]), rfl⟩

def plainB (num : Bool) (l : List Txt) (lo hi : Int) : Bool := !num && (lo == 0) && (hi == 0) && l.all valueB
def numericB (no num : Bool) (l : List Txt) (lo hi : Int) : Bool := no && num && !farB lo && !farB hi && !decide (hi - lo + 1 - (l.length : Int) ≤ 64) && l.all (betw (lo + 1) (hi - 1))
theorem value_pred : Pred 44 #[] valueB Laid := fun W t ht hL => by
  have := value_any (bytesT t) W (short_size ht) hL
  exact this
theorem enters_value : ∀ args w, (callFunc 44 args).run Tryz.prog w = .ok (.enter 44 args) w := enters_of Tryz.func44 (by kernel_rfl) rfl

set_option maxHeartbeats 1000000 in
theorem plain_any (miss no num : Bool) (v : Value) (l : List Txt) (lo hi : Int) (w : World) (hL : Laid w) (hv : Strs w v l) :
    Calls Tryz.prog 63 #[.agg #[.bool miss, .bool no, .bool num, v, .int .i64 lo, .int .i64 hi]] w fun e w' => e = .returned (.bool (plainB num l lo hi)) ∧ Below w.heap.size w w' := by
  obtain ⟨r, hr⟩ : ∃ r, r = plainB num l lo hi := ⟨_, rfl⟩
  rw [← hr]
  have HR := hide hr
  have HL := hide hL
  have HV := hide hv
  clear hr hL
  obtain ⟨a, c, rfl⟩ := hv.val
  clear hv
  cases num
  · by_cases h0 : lo = 0
    · subst h0
      by_cases h1 : hi = 0
      · subst h1
        obtain ⟨q, hq⟩ : ∃ q, q = l.all valueB := ⟨_, rfl⟩
        have hQ := hide hq
        clear hq
        have hf : Hid (r = q) := (unhide HR).trans (by rw [unhide hQ]; unfold plainB; simp)
        obtain ⟨n, hn⟩ : ∃ n, n = l.length := ⟨_, rfl⟩
        have HN := hide hn
        rw [← hn]
        clear hn
        go_enter Tryz.func63, Tryz.ntmps63
        go_wp2_with fail
        refine (every_any 44 #[] valueB Laid enters_value value_pred _ l _ ((unhide HL).alloc _) (fun _ _ h hb => h.below hb) (by rw [unhide HN]; exact (unhide HV).below ((Below.refl _ _).alloc (Nat.le_refl _) _))).mono ?_
        rintro e w1 ⟨he, hw1⟩
        rw [← unhide hQ] at he
        subst he
        have HB := hide (below_box (Below.refl w.heap.size w) (Nat.le_refl _) hw1)
        clear hw1
        go_wp2_with fail
        go_ret
        exact ⟨ret_bool (unhide hf).symm, unhide HB⟩
      · have hf : Hid (r = false) := (unhide HR).trans (by unfold plainB; rw [beq_eq_false_iff_ne.2 h1]; simp)
        have h1' := beq_eq_false_iff_ne.2 h1
        clear h1
        go_enter Tryz.func63, Tryz.ntmps63
        go_wp2_with fail
        go_ret
        exact ⟨ret_bool (unhide hf).symm, (Below.refl _ _).alloc (Nat.le_refl _) _⟩
    · have hf : Hid (r = false) := (unhide HR).trans (by unfold plainB; rw [beq_eq_false_iff_ne.2 h0]; simp)
      have h0' := beq_eq_false_iff_ne.2 h0
      clear h0
      go_enter Tryz.func63, Tryz.ntmps63
      go_wp2_with fail
      go_ret
      exact ⟨ret_bool (unhide hf).symm, (Below.refl _ _).alloc (Nat.le_refl _) _⟩
  · have hf : Hid (r = false) := (unhide HR).trans (by unfold plainB; simp)
    go_enter Tryz.func63, Tryz.ntmps63
    go_wp2_with fail
    go_ret
    exact ⟨ret_bool (unhide hf).symm, (Below.refl _ _).alloc (Nat.le_refl _) _⟩

/-- What numeric's judge reads. -/
def InNum (B : Nat) (lo hi : Int) (W : World) : Prop := Laid W ∧ W.cell? ⟨B, 4, none⟩ = some (.int .i64 lo) ∧ W.cell? ⟨B, 5, none⟩ = some (.int .i64 hi)
theorem InNum.below {B : Nat} {lo hi : Int} {W W' : World} (h : InNum B lo hi W) (hb : Below W.heap.size W W') : InNum B lo hi W' := ⟨h.1.below hb, cell_kept hb h.2.1, cell_kept hb h.2.2⟩
theorem judge_num (B : Nat) (lo hi : Int) (h0 : wrap64 (lo + 1) = lo + 1) (h1 : wrap64 (hi - 1) = hi - 1) : Pred 88 #[.pointer (some ⟨B, 0, none⟩)] (betw (lo + 1) (hi - 1)) (InNum B lo hi) := by
  intro W t ht hI
  obtain ⟨hL, hc4, hc5⟩ := hI
  have HL := hide hL
  have HT := hide ht
  obtain ⟨r, hr⟩ : ∃ r, r = betw (lo + 1) (hi - 1) t := ⟨_, rfl⟩
  rw [← hr]
  have HR := hide hr
  clear hL ht hr
  show Calls Tryz.prog 88 #[.string (bytesT t), .pointer (some ⟨B, 0, none⟩)] W _
  go_enter Tryz.func88, Tryz.ntmps88
  go_wp2_with fail
  refine (between_any (bytesT t) _ _ _ (short_size (unhide HT)) (unhide HL)).mono ?_
  rintro e w1 ⟨he, hw1⟩
  rw [bytesT_list, ← unhide HR] at he
  subst he
  have HB := hide hw1
  clear hw1
  go_wp2_with fail
  go_ret
  exact ⟨rfl, unhide HB⟩
theorem enters_num : ∀ args w, (callFunc 88 args).run Tryz.prog w = .ok (.enter 88 args) w := enters_of Tryz.func88 (by kernel_rfl) rfl

set_option maxHeartbeats 1000000 in
theorem numeric_any (miss no num : Bool) (v : Value) (l : List Txt) (lo hi : Int) (w : World) (hL : Laid w) (hv : Strs w v l) :
    Calls Tryz.prog 64 #[.agg #[.bool miss, .bool no, .bool num, v, .int .i64 lo, .int .i64 hi]] w fun e w' => e = .returned (.bool (numericB no num l lo hi)) ∧ Below w.heap.size w w' := by
  obtain ⟨r, hr⟩ : ∃ r, r = numericB no num l lo hi := ⟨_, rfl⟩
  rw [← hr]
  have HR := hide hr
  have HL := hide hL
  have HV := hide hv
  have hlen := hide1 hv.len
  clear hr hL
  obtain ⟨a, c, rfl⟩ := hv.val
  clear hv
  obtain ⟨n, hn⟩ : ∃ n, n = l.length := ⟨_, rfl⟩
  have HN := hide hn
  rw [← hn] at hlen ⊢
  clear hn
  cases no
  · have hf : Hid (r = false) := (unhide HR).trans (by unfold numericB; simp)
    go_enter Tryz.func64, Tryz.ntmps64
    go_wp2_with fail
    go_ret
    exact ⟨ret_bool (unhide hf).symm, (Below.refl _ _).alloc (Nat.le_refl _) _⟩
  cases num
  · have hf : Hid (r = false) := (unhide HR).trans (by unfold numericB; simp)
    go_enter Tryz.func64, Tryz.ntmps64
    go_wp2_with fail
    go_ret
    exact ⟨ret_bool (unhide hf).symm, (Below.refl _ _).alloc (Nat.le_refl _) _⟩
  obtain ⟨b0, hb0⟩ : ∃ b, b = farB lo := ⟨_, rfl⟩
  obtain ⟨b1, hb1⟩ : ∃ b, b = farB hi := ⟨_, rfl⟩
  have c0 : ∀ W, Calls Tryz.prog 86 #[.int .i64 lo] W fun e w' => e = .returned (.bool b0) ∧ w' = W := fun W => hb0 ▸ tooFar_any lo W
  have c1 : ∀ W, Calls Tryz.prog 86 #[.int .i64 hi] W fun e w' => e = .returned (.bool b1) ∧ w' = W := fun W => hb1 ▸ tooFar_any hi W
  have B0 := hide hb0
  have B1 := hide hb1
  clear hb0 hb1
  cases b0
  rotate_left
  · have hf : Hid (r = false) := (unhide HR).trans (by unfold numericB; rw [← unhide B0]; simp)
    go_enter Tryz.func64, Tryz.ntmps64
    go_wp2_with fail
    refine (c0 _).mono ?_
    rintro e w' ⟨rfl, rfl⟩
    go_wp2_with fail
    go_ret
    exact ⟨ret_bool (unhide hf).symm, (Below.refl _ _).alloc (Nat.le_refl _) _⟩
  cases b1
  rotate_left
  · have hf : Hid (r = false) := (unhide HR).trans (by unfold numericB; rw [← unhide B0, ← unhide B1]; simp)
    go_enter Tryz.func64, Tryz.ntmps64
    go_wp2_with fail
    refine (c0 _).mono ?_
    rintro e w' ⟨rfl, rfl⟩
    go_wp2_with fail
    refine (c1 _).mono ?_
    rintro e w' ⟨rfl, rfl⟩
    go_wp2_with fail
    go_ret
    exact ⟨ret_bool (unhide hf).symm, (Below.refl _ _).alloc (Nat.le_refl _) _⟩
  have hlo : Hid (Unit → (-2147483648 ≤ lo ∧ lo ≤ 2147483648)) := hide1 (by have := unhide B0; unfold farB at this; simp at this; omega)
  have hhi : Hid (Unit → (-2147483648 ≤ hi ∧ hi ≤ 2147483648)) := hide1 (by have := unhide B1; unfold farB at this; simp at this; omega)
  have wl := wrap_small (lo + 1) (by have := unhide1 hlo; omega) (by have := unhide1 hlo; omega)
  have wh := wrap_small (hi - 1) (by have := unhide1 hhi; omega) (by have := unhide1 hhi; omega)
  obtain ⟨z, hz⟩ : ∃ z : Int, z = hi - lo + 1 - (n : Int) := ⟨_, rfl⟩
  have cl : ∀ W, Calls Tryz.prog 87 #[.int .i64 lo, .int .i64 hi, .int .i64 n] W fun e w' => e = .returned (.int .i64 z) ∧ w' = W := fun W => hz ▸ left_any lo hi n W (by have := unhide1 hlo; omega) (by have := unhide1 hhi; omega) (unhide1 hlen)
  have hZ := hide hz
  clear hz
  by_cases h64 : z ≤ 64
  · have hf : Hid (r = false) := (unhide HR).trans (by unfold numericB; rw [← unhide HN, ← unhide hZ, decide_eq_true h64]; simp)
    go_enter Tryz.func64, Tryz.ntmps64
    go_wp2_with fail
    refine (c0 _).mono ?_
    rintro e w' ⟨rfl, rfl⟩
    go_wp2_with fail
    refine (c1 _).mono ?_
    rintro e w' ⟨rfl, rfl⟩
    go_wp2_with fail
    refine (cl _).mono ?_
    rintro e w' ⟨rfl, rfl⟩
    go_wp2_with fail
    go_ret
    exact ⟨ret_bool (unhide hf).symm, (Below.refl _ _).alloc (Nat.le_refl _) _⟩
  · obtain ⟨q, hq⟩ : ∃ q, q = l.all (betw (lo + 1) (hi - 1)) := ⟨_, rfl⟩
    have hQ := hide hq
    clear hq
    have hf : Hid (r = q) := (unhide HR).trans (by unfold numericB; rw [unhide hQ, ← unhide HN, ← unhide hZ, decide_eq_false h64, ← unhide B0, ← unhide B1]; simp)
    have hw := hide (judge_num w.heap.size lo hi wl wh)
    clear wl wh
    go_enter Tryz.func64, Tryz.ntmps64
    go_wp2_with fail
    refine (c0 _).mono ?_
    rintro e w' ⟨rfl, rfl⟩
    go_wp2_with fail
    refine (c1 _).mono ?_
    rintro e w' ⟨rfl, rfl⟩
    go_wp2_with fail
    refine (cl _).mono ?_
    rintro e w' ⟨rfl, rfl⟩
    go_wp2_with fail
    refine (every_any 88 _ _ (InNum w.heap.size lo hi) enters_num (unhide hw) _ l _ ⟨(unhide HL).alloc _, by simp [go_sem], by simp [go_sem]⟩ (fun _ _ h hb => h.below hb) (by rw [unhide HN]; exact (unhide HV).below ((Below.refl _ _).alloc (Nat.le_refl _) _))).mono ?_
    rintro e w1 ⟨he, hw1⟩
    rw [← unhide hQ] at he
    subst he
    have HB := hide (below_box (Below.refl w.heap.size w) (Nat.le_refl _) hw1)
    clear hw1
    go_wp2_with fail
    go_ret
    exact ⟨ret_bool (unhide hf).symm, unhide HB⟩

end Go.Proofs.YtnkcbmlobikjkaaGreatDoor
