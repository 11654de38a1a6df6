/- Layer 7: Clean, the program's and the document's. -/
import Derived.Test.YtcpgodkgdceocaaCoH
namespace Go.Proofs.Ytcpgodkgdceocaa
open Go.RowKit Suf Val

theorem clean_snoc {l : List VCool} {now : Int} {k : Nat} (h : k < l.length) : cleanR (l.take (k + 1)) now = if now < l[k].2 then cleanR (l.take k) now ++ [l[k]] else cleanR (l.take k) now := by
  unfold cleanR
  rw [take_at6 l k h, List.filter_append]
  by_cases h1 : now < l[k].2
  · rw [if_pos h1]; simp [h1]
  · rw [if_neg h1]; simp [h1]
theorem clean_len (l : List VCool) (now : Int) (k : Nat) : (cleanR (l.take k) now).length ≤ k := by
  unfold cleanR
  refine Nat.le_trans (List.length_filter_le _ _) ?_
  rw [List.length_take]; omega
theorem slice_none0 (V : World) (c : Nat) : (Instr.slice 29 (.slice none 0 c) none (some (.int .i64 0)) none).run Try.prog V = .ok (.slice none 0 c) V := by
  have he : Try.prog.elem 29 = 25 := by kernel_rfl
  rw [run_slice_h (ht := by rw [he]; exact Try.underlying29) (h0 := by omega) (h2 := by omega), he, show (Go.sizeOf 25).run Try.prog V = .ok 4 V by kernel_rfl]
  simp [Result.andThen, sliced]
theorem slice_zero (V : World) (g n cap : Nat) : (Instr.slice 29 (.slice (some ⟨g, 0, none⟩) n cap) none (some (.int .i64 0)) none).run Try.prog V = .ok (.slice (some ⟨g, 0, none⟩) 0 cap) V := by
  have he : Try.prog.elem 29 = 25 := by kernel_rfl
  rw [run_slice_h (ht := by rw [he]; exact Try.underlying29) (h0 := by omega) (h2 := by omega), he, show (Go.sizeOf 25).run Try.prog V = .ok 4 V by kernel_rfl]
  simp only [Result.andThen, sliced]
  by_cases h : cap = 0
  · subst h; rfl
  · rw [if_neg h]
    show Result.ok (Value.slice (some ((⟨g, 0, none⟩ : Addr).add (0 * 4))) (0 - 0) (cap - 0)) V = _
    rw [gadd]; rfl
theorem slice_tail (g n cap m : Nat) (h : m ≤ n) : ∃ A : Addr, (∀ V, (Instr.slice 29 (.slice (some ⟨g, 0, none⟩) n cap) (some (.int .i64 (m : Int))) none none).run Try.prog V = .ok (.slice (some A) (n - m) (cap - m)) V) ∧ (n ≤ cap → m < n → A = ⟨g, m * 4, none⟩) := by
  have he : Try.prog.elem 29 = 25 := by kernel_rfl
  have hr : ∀ V, (Instr.slice 29 (.slice (some ⟨g, 0, none⟩) n cap) (some (.int .i64 (m : Int))) none none).run Try.prog V = .ok (sliced (some ⟨g, 0, none⟩) m n cap 4) V := fun V => by
    rw [run_slice_l (ht := by rw [he]; exact Try.underlying29) (h0 := by omega) (h1 := by omega), he, show (Go.sizeOf 25).run Try.prog V = .ok 4 V by kernel_rfl]
    simp only [Result.andThen, Int.toNat_natCast]
  unfold sliced at hr
  by_cases hc : cap = m
  · exact ⟨⟨g, 0, none⟩, fun V => by rw [hr, if_pos hc], fun h1 h2 => by omega⟩
  · refine ⟨⟨g, m * 4, none⟩, fun V => ?_, fun _ _ => rfl⟩
    rw [hr, if_neg hc]
    show Result.ok (Value.slice (some ((⟨g, 0, none⟩ : Addr).add (m * 4))) (n - m) (cap - m)) V = _
    rw [gadd, Nat.zero_add]
theorem at_run {t : TypeId} {x : Value} {lo hi mx : Option Value} {V : World} {r : Result Value} (h : Try.prog.underlying t = some (.slice (Try.prog.elem t))) (hr : (Instr.slice t x lo hi mx).run Try.prog V = r) : (Instr.sliceAt t x lo hi mx).run Try.prog V = r := by
  rw [run_sliceAt_slice (h := h)]; exact hr
theorem elC : Try.prog.underlying 29 = some (.slice (Try.prog.elem 29)) := by
  rw [show Try.prog.elem 29 = 25 by kernel_rfl]; exact Try.underlying29
theorem zeroC (w : World) : (zeroValue 25).run Try.prog w = .ok (.agg #[.string ⟨#[]⟩, .string ⟨#[]⟩, .string ⟨#[]⟩, .int .i64 0]) w := by kernel_rfl

set_option maxRecDepth 100000 in
set_option maxHeartbeats 8000000 in
theorem rclean_any (v : Value) (l : List VCool) (now : Int) (w : World) (hv : Lst coolK w v l) (hl : l.length * 56 ≤ 140737488355328) :
    Calls Try.prog 18 #[v, .int .i64 now] w fun e w' => (∃ v', e = .returned v' ∧ OwnC w' w.heap.size v' (cleanR l now)) ∧ Below w.heap.size w w' := by
  have HV := hide hv
  have HL := hide hl
  have hlen := hv.len
  obtain ⟨a, c, rfl⟩ := hv.val
  clear hv hl
  obtain ⟨n, hn⟩ : ∃ n, n = l.length := ⟨_, rfl⟩
  rw [← hn] at HV HL hlen ⊢
  have HN := hide hn
  clear hn
  obtain ⟨R, hR⟩ : ∃ R, R = cleanR l now := ⟨_, rfl⟩
  rw [← hR]
  have HR := hide hR
  clear hR
  go_enter Try.func18, Try.ntmps18
  go_wp2_with fail
  go_loopw [5, 6] (fun s i W => ∃ k : Nat, k ≤ n ∧ i = .int .i64 k ∧ Hid (OwnC W w.heap.size s (cleanR (l.take k) now)) ∧ Hid (Below w.heap.size w W)) (fun _ i _ => n - (intOf i).toNat)
  case atStart => exact ⟨0, Nat.zero_le _, rfl, ownC_nil _ _, Below.refl _ _⟩
  case round =>
    obtain ⟨k, hk, rfl, hrow, hbel⟩ := hrel
    by_cases hlt : k < n
    · have hlk : k < l.length := by rw [← unhide HN]; exact hlt
      obtain ⟨b, o, rfl, hat⟩ := ((unhide HV).below (unhide hbel)).at hlk
      have hst := hide (clean_snoc (now := now) hlk)
      have hkl := hide (clean_len l now k)
      obtain ⟨y, hy⟩ : ∃ y, y = l[k] := ⟨_, rfl⟩
      rw [← hy] at hat hst
      obtain ⟨F, hF⟩ : ∃ F, F = cleanR (l.take k) now := ⟨_, rfl⟩
      rw [← hF] at hrow hst hkl
      obtain ⟨h0123, h3⟩ := cool_at.1 hat
      obtain ⟨⟨h0, hs0⟩, ⟨h1, hs1⟩, h2, hs2⟩ := off_at.1 h0123
      have HO : Hid (okO y.1) := ⟨hs0, hs1, hs2⟩
      rw [show coolK.size = 4 from rfl] at h0 h1 h2 h3
      have i0 : (0 : Int) ≤ (k : Int) := by omega
      have i1 : (k : Int) < (n : Int) := by omega
      clear hs0 hs1 hs2 hy hat h0123 hlk hF
      by_cases hd : now < y.2
      case neg =>
        have hn2 : Hid (cleanR (l.take (k + 1)) now = F) := by show _ = _; rw [unhide hst, if_neg hd]
        clear hst
        go_wp2_with fail
        go_roundw
        case rel => exact ⟨k + 1, by omega, by go_num, by rw [unhide hn2]; exact hrow, hbel⟩
        case measure => simp [intOf]; omega
      have hn2 : Hid (cleanR (l.take (k + 1)) now = F ++ [y]) := by show _ = _; rw [unhide hst, if_pos hd]
      have LS := hide (one_c (W := wr) y (unhide HO))
      have BA : Hid (Below wr.heap.size wr (wr.alloc (.cells #[.string (bytesT y.1.1), .string (bytesT y.1.2.1), .string (bytesT y.1.2.2), .int .i64 y.2] 25))) := boxb _
      have RA := hide ((unhide hrow).below (unhide BA))
      have BB := hide (chain (unhide hbel) (unhide BA))
      have hb1 : Hid ((F.length + [y].length) * 56 ≤ 140737488355328) := by have := unhide HL; have := unhide hkl; show (F.length + 1) * 56 ≤ _; omega
      clear hst hkl
      go_wp2_with (at_builtin; refine append_cools rfl _ _ rfl w.heap.size _ F rfl (unhide RA) _ [y] rfl (unhide LS) (unhide hb1) (unhide BB).size ?_; intro v' w9 hown hg; have H9 := hide (And.intro hown hg); clear hown hg h0 h1 h2 h3; go_frame)
      obtain ⟨hown, hg⟩ := unhide H9
      have B9 := hide (grow_on (unhide BB) (unhide RA).1 hg)
      have R9 := hide hown
      clear H9 hown hg
      go_wp2_with fail
      go_roundw
      case rel => exact ⟨k + 1, by omega, by go_num, by rw [unhide hn2]; exact R9, B9⟩
      case measure => simp [intOf]; omega
    · obtain rfl : k = n := by omega
      have hall : l.take k = l := List.take_of_length_le (by rw [← unhide HN]; exact Nat.le_refl _)
      rw [hall, ← unhide HR] at hrow
      clear hall
      go_wp2_with fail
      go_ret
      exact ⟨⟨_, rfl, unhide hrow⟩, unhide hbel⟩

set_option maxRecDepth 100000 in
set_option maxHeartbeats 8000000 in
theorem pclean_any (v : Value) (l : List VCool) (now : Int) (w : World) (hv : Lst coolK w v l) (hl : l.length * 56 ≤ 140737488355328) :
    Calls Try.prog 17 #[v, .int .i64 now] w fun e w' => (∃ v', e = .returned v' ∧ OwnC w' w.heap.size v' (cleanR l now)) ∧ Below w.heap.size w w' := by
  have HV := hide hv
  have HL := hide hl
  have hlen := hv.len
  have ccl := hide (clone_any v l w hv hl)
  obtain ⟨a, c, rfl⟩ := hv.val
  clear hv hl
  obtain ⟨n, hn⟩ : ∃ n, n = l.length := ⟨_, rfl⟩
  rw [← hn] at HV HL hlen ccl ⊢
  have HN := hide hn
  clear hn
  obtain ⟨R, hR⟩ : ∃ R, R = cleanR l now := ⟨_, rfl⟩
  rw [← hR]
  have HR := hide hR
  clear hR
  go_enter Try.func17, Try.ntmps17
  go_wp2_with fail
  refine (unhide ccl).mono ?_
  rintro e w1 ⟨⟨v', rfl, hown⟩, hw1⟩
  have B1 := hide hw1
  clear hw1 ccl
  have hown1 := hown.1.2
  rw [← unhide HN] at hown1
  rcases hown1 with ⟨rfl, hn0⟩ | ⟨g, cap, cur, rfl, hbg, hg0, hnc, _⟩
  · subst hn0
    have hl0 : l = [] := List.eq_nil_of_length_eq_zero (unhide HN).symm
    have hr0 : Hid (R = []) := by show _ = _; rw [unhide HR, hl0]; rfl
    clear hown hl0
    have q1 := fun V => slice_none0 V 0
    have q2 := fun V => at_run elC (slice_none0 V 0)
    have q3 : ∀ V, (Instr.slice 29 (.slice none 0 0) (some (.int .i64 0)) none none).run Try.prog V = .ok (.slice none 0 0) V := fun V => by
      have he : Try.prog.elem 29 = 25 := by kernel_rfl
      rw [run_slice_l (ht := by rw [he]; exact Try.underlying29) (h0 := by omega) (h1 := by omega), he, show (Go.sizeOf 25).run Try.prog V = .ok 4 V by kernel_rfl]
      simp [Result.andThen, sliced]
    have q4 := fun V => at_run elC (q3 V)
    go_wp2_with fail
    go_loopw [6, 15] (fun s i W => s = .slice none 0 0 ∧ i = .int .i64 0 ∧ Hid (Below w.heap.size w W)) (fun _ _ _ => 0)
    case atStart => exact ⟨rfl, rfl, B1⟩
    case round =>
      obtain ⟨rfl, rfl, hbel⟩ := hrel
      go_wp2_with fail
      rw [show (Builtin.clear_ #[29] 0 #[.slice none 0 0]).run Try.prog wr = .ok (.tuple #[]) wr by simp [Builtin.clear_, run_underlying Try.underlying29]]
      simp only [Result.andThen]
      go_wp2_with fail
      go_ret
      exact ⟨⟨_, rfl, by rw [unhide hr0]; exact ownC_nil _ _⟩, unhide hbel⟩
  · have R1 : Hid (OwnC w1 w.heap.size (.slice (some ⟨g, 0, none⟩) 0 cap) []) := by
      rcases hown.1.2 with ⟨h0, _⟩ | ⟨g', cap', cur', e', hbg', hg', hnc', hcm', hcs', _⟩
      · cases h0
      · injection e' with e1 e2 e3
        injection e1 with e1
        injection e1 with e1 _ _
        subst e1; subst e3
        exact ⟨⟨rfl, Or.inr ⟨g, cap, cur', rfl, hbg', hg', Nat.zero_le _, hcm', hcs', by simp [flatC]⟩⟩, fun x hx => (by cases hx), by simp⟩
    have HC : Hid (n ≤ cap) := hnc
    have q1 := fun V => slice_zero V g n cap
    have q2 := fun V => at_run elC (slice_zero V g n cap)
    clear hown hg0 hnc hbg
    go_wp2_with fail
    clear q1 q2
    go_loopw [6, 15] (fun s i W => ∃ k : Nat, k ≤ n ∧ i = .int .i64 k ∧ (∃ m : Nat, Hid (m = (cleanR (l.take k) now).length) ∧ s = .slice (some ⟨g, 0, none⟩) m cap) ∧ Hid (OwnC W w.heap.size s (cleanR (l.take k) now)) ∧ Hid (Below w.heap.size w W)) (fun _ i _ => n - (intOf i).toNat)
    case atStart => exact ⟨0, Nat.zero_le _, rfl, ⟨0, rfl, rfl⟩, unhide R1, B1⟩
    case round =>
      obtain ⟨k, hk, rfl, ⟨m, hm, rfl⟩, hrow, hbel⟩ := hrel
      by_cases hlt : k < n
      · have hlk : k < l.length := by rw [← unhide HN]; exact hlt
        obtain ⟨b, o, rfl, hat⟩ := ((unhide HV).below (unhide hbel)).at hlk
        have hst := hide (clean_snoc (now := now) hlk)
        have hkl := hide (clean_len l now k)
        obtain ⟨y, hy⟩ : ∃ y, y = l[k] := ⟨_, rfl⟩
        rw [← hy] at hat hst
        obtain ⟨F, hF⟩ : ∃ F, F = cleanR (l.take k) now := ⟨_, rfl⟩
        rw [← hF] at hrow hst hkl hm
        obtain ⟨h0123, h3⟩ := cool_at.1 hat
        obtain ⟨⟨h0, hs0⟩, ⟨h1, hs1⟩, h2, hs2⟩ := off_at.1 h0123
        have HO : Hid (okO y.1) := ⟨hs0, hs1, hs2⟩
        rw [show coolK.size = 4 from rfl] at h0 h1 h2 h3
        clear hs0 hs1 hs2 hy hat h0123 hlk hF
        have cc := hide (fun V => pcounts_any y now V)
        unfold coolA at cc
        obtain ⟨W0, hW0⟩ : ∃ W, W = wr.alloc (.cells #[.string (bytesT y.1.1), .string (bytesT y.1.2.1), .string (bytesT y.1.2.2), .int .i64 y.2] 25) := ⟨_, rfl⟩
        have B0 : Hid (Below wr.heap.size wr W0) := by rw [hW0]; exact boxb _
        have F0 : Hid (CBox W0 wr.heap.size y) := by rw [hW0]; exact cbox_new _ _
        have GW := hide hW0
        clear hW0
        go_wp2_with fail
        rw [← unhide GW]
        clear h0 h1 h2 h3
        refine (unhide cc _).mono ?_
        rintro e w2 ⟨rfl, hw2⟩
        have B2 := hide (chain (chain (unhide hbel) (unhide B0)) hw2)
        have F2 := hide ((unhide F0).below hw2)
        have R2 := hide ((unhide hrow).below (chain (unhide B0) hw2))
        clear hw2 cc F0 B0 GW hrow hbel
        by_cases hd : now < y.2
        case neg =>
          have hn2 : Hid (cleanR (l.take (k + 1)) now = F) := by show _ = _; rw [unhide hst, if_neg hd]
          have hdd : decide (now < y.2) = false := decide_eq_false hd
          rw [hdd]
          clear hst hdd hd
          go_wp2_with fail
          exact ⟨⟨k + 1, by omega, by go_num, ⟨m, by rw [unhide hn2]; exact hm, rfl⟩, by rw [unhide hn2]; exact R2, B2⟩, by simp [intOf]; omega⟩
        have hn2 : Hid (cleanR (l.take (k + 1)) now = F ++ [y]) := by show _ = _; rw [unhide hst, if_pos hd]
        have hdd : decide (now < y.2) = true := decide_eq_true hd
        rw [hdd]
        have LS := hide (one_c (W := w2) y (unhide HO))
        have BA : Hid (Below w2.heap.size w2 (w2.alloc (.cells #[.string (bytesT y.1.1), .string (bytesT y.1.2.1), .string (bytesT y.1.2.2), .int .i64 y.2] 25))) := boxb _
        have RA := hide ((unhide R2).below (unhide BA))
        have BB := hide (chain (unhide B2) (unhide BA))
        have hroom : Hid (m + 1 ≤ cap ∧ m + 1 ≤ 17592186044416) := by have := unhide HC; have := unhide hkl; have := unhide hm; show _ ∧ _; omega
        obtain ⟨f0, f1, f2, f3⟩ := unhide F2
        clear hst hkl hdd R2 B2
        go_wp2_with (at_builtin; refine append_room rfl _ _ rfl w.heap.size g cap m F rfl (unhide hm) (unhide RA) _ 1 y rfl (unhide LS) (unhide hroom).1 (unhide hroom).2 ?_; intro w9 hown hg; have H9 := hide (And.intro hown hg); clear hown hg f0 f1 f2 f3; go_frame)
        obtain ⟨hown, hg⟩ := unhide H9
        have B9 : Hid (Below w.heap.size w w9) := grow_on (v := .slice (some ⟨g, 0, none⟩) m cap) (unhide BB) (unhide RA).1 hg
        have R9 := hide hown
        have hm2 : Hid (m + 1 = (cleanR (l.take (k + 1)) now).length) := by show _ = _; rw [unhide hn2, List.length_append, ← unhide hm]; rfl
        clear H9 hown hg
        go_wp2_with fail
        exact ⟨⟨k + 1, by omega, by go_num, ⟨m + 1, hm2, by simp⟩, by rw [unhide hn2]; exact R9, B9⟩, by simp [intOf]; omega⟩
      · obtain rfl : k = n := by omega
        have hkl := clean_len l now k
        have hall : l.take k = l := List.take_of_length_le (by rw [← unhide HN]; exact Nat.le_refl _)
        rw [hall, ← unhide HR] at hrow hm hkl
        rw [← unhide hm] at hkl
        clear hall
        obtain ⟨A, q3, hA⟩ := slice_tail g k cap m hkl
        have q4 := fun V => at_run elC (q3 V)
        have HA := hide (hA (unhide HC))
        have HKL := hide hkl
        have hrow1 := hide (unhide hrow).1
        have hrow2 := hide (unhide hrow).2
        rw [← unhide hm] at hrow1
        clear hA hkl
        go_wp2_with fail
        obtain ⟨w9, hr9, hown, hg⟩ := run_clear_own (P := Try.prog) wr 29 25 0 _ 4 w.heap.size Try.underlying29 zeroC rfl (by decide) g k cap m A (flatC R) (unhide hrow1) (unhide HKL) (unhide HC) (unhide HA)
        rw [hr9]
        clear hr9 q3 q4
        have B9 : Hid (Below w.heap.size w w9) := grow_on (v := .slice (some ⟨g, 0, none⟩) m cap) (unhide hbel) (unhide hrow1) hg
        have R9 : Hid (OwnC w9 w.heap.size (.slice (some ⟨g, 0, none⟩) m cap) R) := ⟨by rw [← unhide hm]; exact hown, unhide hrow2⟩
        clear hown hg
        simp only [Result.andThen]
        go_wp2_with fail
        go_ret
        exact ⟨⟨_, rfl, unhide R9⟩, unhide B9⟩
end Go.Proofs.Ytcpgodkgdceocaa
