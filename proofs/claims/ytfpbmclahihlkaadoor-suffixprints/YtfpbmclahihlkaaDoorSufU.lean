/- Layer 2: contracts of the document's PrintBytes and PrintMoney. -/
import Derived.Test.YtfpbmclahihlkaaDoorSufT
namespace Go.Proofs.YtfpbmclahihlkaaDoor
open Go.RowKit Suf

theorem topK_max (n k : Nat) (h : topK n < k) (hk : k ≤ 4) : ¬ n % pw k = 0 := by
  unfold topK at h
  match k, hk with
  | 0, _ => omega
  | 1, _ => show ¬ n % 1024 = 0; intro c; split at h <;> (try split at h) <;> (try split at h) <;> (try split at h) <;> omega
  | 2, _ => show ¬ n % 1048576 = 0; intro c; split at h <;> (try split at h) <;> (try split at h) <;> omega
  | 3, _ => show ¬ n % 1073741824 = 0; intro c; split at h <;> (try split at h) <;> omega
  | 4, _ => show ¬ n % 1099511627776 = 0; intro c; split at h <;> omega
theorem topK_hit (n : Nat) : n % pw (topK n) = 0 := by
  have h : n / pw (topK n) * pw (topK n) = n := topK_div n
  have := Nat.div_add_mod n (pw (topK n))
  rw [Nat.mul_comm, h] at this
  omega
theorem pw_pos (k : Nat) : 0 < pw k := Nat.pow_pos (by omega)
theorem pw_le (k : Nat) (h : k ≤ 4) : pw k ≤ 1099511627776 := Nat.pow_le_pow_right (n := 1024) (by omega) h
theorem suf_short' (k : Nat) : (suf k).length ≤ 2 := by
  match k with
  | 0 | 1 | 2 | 3 | 4 => decide
  | k + 5 => exact Nat.zero_le 2
theorem cellK {W : World} {B : Nat} (h : ∀ k, k ≤ 4 → W.cell? ⟨B, k, none⟩ = some (.string (sufS k))) (k : Nat) (hk : k ≤ 4) : W.cell? ⟨B, k, none⟩ = some (.string (sufS k)) := h k hk
theorem sufS_size (k : Nat) : (sufS k).size ≤ 2 := by rw [size_list]; exact suf_short' k

theorem quo_low (m v : Nat) : (0 : Int) ≤ (m : Int) / (v : Int) := Int.ediv_nonneg (Int.natCast_nonneg m) (Int.natCast_nonneg v)
theorem quo_high (m v : Nat) (h : m ≤ 1125899906842624) : (m : Int) / (v : Int) < 1000000000000000000 := by
  have h1 := Nat.div_le_self m v
  rw [← Int.natCast_ediv]
  exact Int.ofNat_lt.2 (Nat.lt_of_le_of_lt (Nat.le_trans h1 h) (by decide))
theorem quo_wrap (m v : Nat) (hm : m ≤ 1125899906842624) : wrap64 ((m : Int) / (v : Int)) = (m : Int) / (v : Int) := by
  have h1 := quo_low m v
  have h2 := quo_high m v hm
  unfold wrap64; omega
theorem quo_wrap2 (m v : Nat) (hm : m ≤ 1125899906842624) : IntKind.i64.wrap ((m : Int) / (v : Int)) = (m : Int) / (v : Int) := by
  have h := quo_wrap m v hm
  unfold wrap64 at h
  rw [IntKind.wrap_i64]; exact h
theorem keepU {w W w1 : World} {B k : Nat} {a : Value} (h : W.cell? ⟨B, k, none⟩ = some a ∧ Below w.heap.size w W) (hb : Below W.heap.size W w1) : w1.cell? ⟨B, k, none⟩ = some a ∧ Below w.heap.size w w1 :=
  ⟨cell_kept hb h.1, chain h.2 hb⟩

set_option maxRecDepth 100000 in
set_option maxHeartbeats 2000000 in
theorem rprintBytes_any (n : Int) (w : World) :
    Calls Tryd.prog 19 #[.int .i64 n] w fun e w' => e = .returned (.tuple #[.string (prOut prBytes n), .int .i64 (chk n)]) ∧ Below w.heap.size w w' := by
  by_cases h : chk n = 0
  · obtain ⟨m, rfl, hm⟩ := ok_nat h
    have ht : (chk (m : Int) != 0) = false := by rw [h]; rfl
    have ho := hide (prOut_yes prBytes m h)
    have hz := hide h
    clear h
    by_cases h0 : m = 0
    · subst h0
      have ho2 : Hid (prOut prBytes ((0 : Nat) : Int) = ⟨#[48]⟩) := by show _ = _; rw [unhide ho]; rfl
      clear ho hm
      go_enter Tryd.func19, Tryd.ntmps19
      go_wp2_with (go_at_call 35; refine (rcheck_any _ _).mono ?_; rintro e w' ⟨rfl, rfl⟩)
      go_ret2
      exact ⟨ret_strpair (unhide ho2).symm (unhide hz).symm, Below.refl _ _⟩
    · have hm0 : ((m : Int) == 0) = false := beq_eq_false_iff_ne.2 (by omega)
      obtain ⟨k, hk⟩ : ∃ k, k = topK m := ⟨_, rfl⟩
      have hk4 : k ≤ 4 := by rw [hk]; exact topK_le m
      have hmax := hide (fun j (h : k < j) (h4 : j ≤ 4) => topK_max m j (by rw [← hk]; exact h) h4)
      have hhit : Hid (m % pw k = 0) := by rw [hk]; exact topK_hit m
      have hq : Hid (((m : Int) / ((pw k : Nat) : Int)).toNat = m / pw k) := by
        show _ = _; rw [← Int.natCast_ediv, Int.toNat_natCast]
      have hqb : Hid (m / pw k < 1000000000000000000) := by
        show _ < _; have := Nat.div_le_self m (pw k); omega
      have ho2 : Hid (prOut prBytes (m : Int) = ⟨(dec (m / pw k)).toArray⟩ ++ sufS k) := by
        show _ = _; rw [unhide ho]; apply bytes_ext; rw [append_list]
        show prBytes m = dec (m / pw k) ++ suf k
        unfold prBytes; rw [if_neg h0, ← hk]; rfl
      have hadd : ∀ w : World, (Op.stringOp .add ⟨(dec (m / pw k)).toArray⟩ (sufS k)).run Tryd.prog w = .ok (.string (⟨(dec (m / pw k)).toArray⟩ ++ sufS k)) w := fun w => run_string_add_sum _ _ _ (by
        have h1 := dec_len (m / pw k) (unhide hqb)
        have h2 := sufS_size k
        rw [size_list]; show (dec (m / pw k)).length + _ ≤ _; omega)
      clear ho hk
      go_enter Tryd.func19, Tryd.ntmps19
      go_wp2_with (go_at_call 35; refine (rcheck_any _ _).mono ?_; rintro e w' ⟨rfl, rfl⟩)
      refine (ends_any _).mono ?_
      rintro e w1 ⟨he, hw⟩
      subst he
      have HB : Hid (Below w'.heap.size w' w1) := by rw [hw]; exact (Below.refl _ _).alloc (Nat.le_refl _) _
      have hcell : w1.cell? ⟨w'.heap.size, k, none⟩ = some (.string (sufS k)) := by
        rw [hw]
        match k, hk4 with
        | 0, _ | 1, _ | 2, _ | 3, _ | 4, _ => simp [go_sem, sufS, suf]
      clear hw
      go_wp2_with fail
      go_loop [6] (fun i => ∃ j : Nat, k ≤ j ∧ j ≤ 4 ∧ i = .int .i64 j) (fun i => (intOf i).toNat)
      case atStart => exact ⟨4, hk4, by omega, rfl⟩
      case round =>
        obtain ⟨j, hj, hj4, rfl⟩ := hrel
        have hp0 := pw_pos j
        by_cases hlt : k < j
        · have hne := unhide hmax j hlt hj4
          have ht2 : ((m : Int) % ((pw j : Nat) : Int) != 0) = true := bne_iff_ne.2 (by rw [← Int.natCast_emod]; omega)
          have hpow := hide (fun W => power_any j W hj4)
          have hvp : (0 : Int) < ((pw j : Nat) : Int) := by omega
          have hv0 : ¬ ((pw j : Nat) : Int) = 0 := by omega
          clear hne hp0
          generalize pw j = v at *
          go_wp2_with (go_at_call 34; refine (unhide hpow _).mono ?_; rintro e w'' ⟨rfl, rfl⟩)
          go_round
          case rel => exact ⟨j - 1, by omega, by omega, congrArg (Value.int .i64) (by omega)⟩
          case measure => simp [intOf]; omega
        · obtain rfl : j = k := by omega
          have ht2 : ((m : Int) % ((pw j : Nat) : Int) != 0) = false := by
            rw [← Int.natCast_emod, unhide hhit]; rfl
          have hpow := hide (fun W => power_any j W hj4)
          have hvp : (0 : Int) < ((pw j : Nat) : Int) := by omega
          have hv0 : ¬ ((pw j : Nat) : Int) = 0 := by omega
          have hq0 := hide1 (quo_low m (pw j))
          have hq1 := hide1 (quo_high m (pw j) hm)
          have hwq := quo_wrap m (pw j) hm
          have hwq2 := quo_wrap2 m (pw j) hm
          have hvn : ¬ pw j = 0 := by omega
          have hj0 : (0 : Int) ≤ (j : Int) := by omega
          have hj5 : (j : Int) < 5 := by omega
          clear hp0 hmax hhit hqb
          generalize pw j = v at *
          go_wp2_with (go_at_call 34; refine (unhide hpow _).mono ?_; rintro e w'' ⟨rfl, rfl⟩)
          go_region_held3 (fun W => W.cell? ⟨w'.heap.size, j, none⟩ = some (.string (sufS j)) ∧ Below w'.heap.size w' W)
            (first | exact ⟨hcell, unhide HB⟩ | exact ⟨hcell, (unhide HB).drew⟩ | exact keepU ‹_› hw2 | assumption)
            (first
            | (go_at_call 34; refine (unhide hpow _).mono ?_; rintro e wa ⟨rfl, rfl⟩)
            | (go_at_call 36; refine (rdecimalZ_any _ _ ?_ ?_).mono ?_; exact unhide1 hq0; exact unhide1 hq1; rintro e w2 ⟨he, hw2⟩; rw [unhide hq] at he; subst he))
          rename_i hH
          go_wp2_with fail
          go_ret2
          exact ⟨ret_strpair (unhide ho2).symm (unhide hz).symm, hH.2⟩
  · have ht : (chk n != 0) = true := bne_iff_ne.2 h
    have ho := hide (prOut_no prBytes n h)
    clear h
    go_enter Tryd.func19, Tryd.ntmps19
    go_wp2_with (go_at_call 35; refine (rcheck_any _ _).mono ?_; rintro e w' ⟨rfl, rfl⟩)
    go_ret2
    exact ⟨ret_strpair (unhide ho).symm rfl, Below.refl _ _⟩

end Go.Proofs.YtfpbmclahihlkaaDoor
