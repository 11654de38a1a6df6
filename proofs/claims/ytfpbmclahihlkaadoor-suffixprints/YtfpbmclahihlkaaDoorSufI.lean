/- Layer 2: contract of unitOf. -/
import Derived.Test.YtfpbmclahihlkaaDoorSufH
namespace Go.Proofs.YtfpbmclahihlkaaDoor
open Go.RowKit Suf

/-- A suffix as a string. -/
def sufS (k : Nat) : ByteArray := ⟨(suf k).toArray⟩
/-- A unit as a value. -/
abbrev unitV (k : Nat) : Value := .agg #[.string (sufS k), .int .u64 (10 * k : Nat)]
/-- The unit that a number is printed in: none of 0. -/
def topU (n : Nat) : Nat := if n = 0 then 0 else topK n
theorem topU4 (n : Nat) (h0 : ¬ n = 0)  (h4 : n % 1099511627776 = 0) : topU n = 4 := by unfold topU topK; rw [if_neg h0, if_pos h4]
theorem topU3 (n : Nat) (h0 : ¬ n = 0) (h4 : ¬ n % 1099511627776 = 0) (h3 : n % 1073741824 = 0) : topU n = 3 := by unfold topU topK; rw [if_neg h0, if_neg h4, if_pos h3]
theorem topU2 (n : Nat) (h0 : ¬ n = 0) (h4 : ¬ n % 1099511627776 = 0) (h3 : ¬ n % 1073741824 = 0) (h2 : n % 1048576 = 0) : topU n = 2 := by unfold topU topK; rw [if_neg h0, if_neg h4, if_neg h3, if_pos h2]
theorem topU1 (n : Nat) (h0 : ¬ n = 0) (h4 : ¬ n % 1099511627776 = 0) (h3 : ¬ n % 1073741824 = 0) (h2 : ¬ n % 1048576 = 0) (h1 : n % 1024 = 0) : topU n = 1 := by unfold topU topK; rw [if_neg h0, if_neg h4, if_neg h3, if_neg h2, if_pos h1]
theorem topU0 (n : Nat) (h0 : ¬ n = 0) (h4 : ¬ n % 1099511627776 = 0) (h3 : ¬ n % 1073741824 = 0) (h2 : ¬ n % 1048576 = 0) (h1 : ¬ n % 1024 = 0) : topU n = 0 := by unfold topU topK; rw [if_neg h0, if_neg h4, if_neg h3, if_neg h2, if_neg h1]

set_option maxHeartbeats 2000000 in
theorem unitOf_any (n : Nat) (w : World) (hn : n ≤ 1125899906842624) (hL : Laid w) :
    Calls Tryd.prog 37 #[.int .i64 n] w fun e w' => e = .returned (unitV (topU n)) ∧ Below w.heap.size w w' := by
  have i0 : ∀ w, (Instr.index 40 (.agg unitRow) (.int .i64 0)).run Tryd.prog w = .ok (.agg #[.string ⟨#[84, 105]⟩, .int .u64 40]) w := fun _ => by kernel_rfl
  have i1 : ∀ w, (Instr.index 40 (.agg unitRow) (.int .i64 1)).run Tryd.prog w = .ok (.agg #[.string ⟨#[71, 105]⟩, .int .u64 30]) w := fun _ => by kernel_rfl
  have i2 : ∀ w, (Instr.index 40 (.agg unitRow) (.int .i64 2)).run Tryd.prog w = .ok (.agg #[.string ⟨#[77, 105]⟩, .int .u64 20]) w := fun _ => by kernel_rfl
  have i3 : ∀ w, (Instr.index 40 (.agg unitRow) (.int .i64 3)).run Tryd.prog w = .ok (.agg #[.string ⟨#[75, 105]⟩, .int .u64 10]) w := fun _ => by kernel_rfl
  have i4 : ∀ w, (Instr.index 40 (.agg unitRow) (.int .i64 4)).run Tryd.prog w = .ok (.agg #[.string ⟨#[]⟩, .int .u64 0]) w := fun _ => by kernel_rfl
  have hLw := hL.alloc (.cells #[.string ⟨#[]⟩, .int .u64 0] 39)
  obtain ⟨tt, fr, hg⟩ := hLw.1
  have HG := hide hg
  clear hg hLw hL
  have HN := hide hn
  go_enter Tryd.func37, Tryd.ntmps37
  go_wp2_with (refine wpList_load_row rfl 40 _ rfl 0 rfl tt _ fr _ (unhide HG) Tryd.underlying40 rfl unitRow_size ?_)
  go_loopw [6] (fun i W => ∃ k : Nat, k ≤ 5 ∧ i = .int .i64 k ∧ Hid (Below w.heap.size w W) ∧ w.heap.size < W.heap.size ∧ W.cell? ⟨w.heap.size, 0, none⟩ = some (.string ⟨#[]⟩) ∧ W.cell? ⟨w.heap.size, 1, none⟩ = some (.int .u64 0) ∧ W.frozen? ⟨w.heap.size, 0, none⟩ = false ∧ W.frozen? ⟨w.heap.size, 1, none⟩ = false ∧ Hid (n = 0 ∨ (∀ j, j < k → ¬ n % 1024 ^ (4 - j) = 0))) (fun i _ => 5 - (intOf i).toNat)
  case atStart => exact ⟨0, by omega, rfl, (Below.refl _ _).alloc (Nat.le_refl _) _, by simp, by simp [go_sem], by simp [go_sem], by simp [go_sem], by simp [go_sem], Or.inr fun j hj => by omega⟩
  case round =>
    obtain ⟨k, hk, rfl, hbel, hsz, c0, c1, f0, f1, hno⟩ := hrel
    match k, hk with
    | 0, _ =>
      by_cases hz : n = 0
      · subst hz
        go_wp2_with fail
        go_roundw
        case rel => exact ⟨0 + 1, by omega, by go_num, (unhide hbel).alloc (unhide hbel).size _, by simp; omega, by simp [go_sem, hsz, c0], by simp [go_sem, hsz, c1], by simp [go_sem, hsz, f0], by simp [go_sem, hsz, f1], Or.inl (by first | rfl | trivial)⟩
        case measure => simp [intOf]
      · have hz2 : ((n : Int) != 0) = true := bne_iff_ne.2 (by omega)
        by_cases h : n % 1099511627776 = 0
        · have htop : Hid (topU n = 4) := by
            rcases unhide hno with hno | hno
            · exact absurd hno hz
            exact topU4 n hz  h
          go_wp2_with fail
          exact bodyPost_ret (v := unitV 4) (by simp [results, Tryd.results37, go_sem, c0, c1, hsz, sufS, suf]) rfl ⟨by rw [unhide htop], (((unhide hbel).setCell (by simp) _).setCell (by simp) _).alloc (by simp; exact (unhide hbel).size) _⟩
        · have hn2 : Hid (n = 0 ∨ ∀ j, j < 0 + 1 → ¬ n % 1024 ^ (4 - j) = 0) := Or.inr fun j hj c => by
            rcases unhide hno with hno | hno
            · exact hz hno
            by_cases e : j < 0
            · exact hno j e c
            · have : j = 0 := by omega
              subst this; exact h c
          go_wp2_with fail
          go_roundw
          case rel => exact ⟨0 + 1, by omega, by go_num, (unhide hbel).alloc (unhide hbel).size _, by simp; omega, by simp [go_sem, hsz, c0], by simp [go_sem, hsz, c1], by simp [go_sem, hsz, f0], by simp [go_sem, hsz, f1], hn2⟩
          case measure => simp [intOf]
    | 1, _ =>
      by_cases hz : n = 0
      · subst hz
        go_wp2_with fail
        go_roundw
        case rel => exact ⟨1 + 1, by omega, by go_num, (unhide hbel).alloc (unhide hbel).size _, by simp; omega, by simp [go_sem, hsz, c0], by simp [go_sem, hsz, c1], by simp [go_sem, hsz, f0], by simp [go_sem, hsz, f1], Or.inl (by first | rfl | trivial)⟩
        case measure => simp [intOf]
      · have hz2 : ((n : Int) != 0) = true := bne_iff_ne.2 (by omega)
        by_cases h : n % 1073741824 = 0
        · have htop : Hid (topU n = 3) := by
            rcases unhide hno with hno | hno
            · exact absurd hno hz
            have g4 := hno 0 (by omega)
            rw [show 1024 ^ (4 - 0) = 1099511627776 from rfl] at g4
            exact topU3 n hz g4 h
          go_wp2_with fail
          exact bodyPost_ret (v := unitV 3) (by simp [results, Tryd.results37, go_sem, c0, c1, hsz, sufS, suf]) rfl ⟨by rw [unhide htop], (((unhide hbel).setCell (by simp) _).setCell (by simp) _).alloc (by simp; exact (unhide hbel).size) _⟩
        · have hn2 : Hid (n = 0 ∨ ∀ j, j < 1 + 1 → ¬ n % 1024 ^ (4 - j) = 0) := Or.inr fun j hj c => by
            rcases unhide hno with hno | hno
            · exact hz hno
            by_cases e : j < 1
            · exact hno j e c
            · have : j = 1 := by omega
              subst this; exact h c
          go_wp2_with fail
          go_roundw
          case rel => exact ⟨1 + 1, by omega, by go_num, (unhide hbel).alloc (unhide hbel).size _, by simp; omega, by simp [go_sem, hsz, c0], by simp [go_sem, hsz, c1], by simp [go_sem, hsz, f0], by simp [go_sem, hsz, f1], hn2⟩
          case measure => simp [intOf]
    | 2, _ =>
      by_cases hz : n = 0
      · subst hz
        go_wp2_with fail
        go_roundw
        case rel => exact ⟨2 + 1, by omega, by go_num, (unhide hbel).alloc (unhide hbel).size _, by simp; omega, by simp [go_sem, hsz, c0], by simp [go_sem, hsz, c1], by simp [go_sem, hsz, f0], by simp [go_sem, hsz, f1], Or.inl (by first | rfl | trivial)⟩
        case measure => simp [intOf]
      · have hz2 : ((n : Int) != 0) = true := bne_iff_ne.2 (by omega)
        by_cases h : n % 1048576 = 0
        · have htop : Hid (topU n = 2) := by
            rcases unhide hno with hno | hno
            · exact absurd hno hz
            have g4 := hno 0 (by omega)
            rw [show 1024 ^ (4 - 0) = 1099511627776 from rfl] at g4
            have g3 := hno 1 (by omega)
            rw [show 1024 ^ (4 - 1) = 1073741824 from rfl] at g3
            exact topU2 n hz g4 g3 h
          go_wp2_with fail
          exact bodyPost_ret (v := unitV 2) (by simp [results, Tryd.results37, go_sem, c0, c1, hsz, sufS, suf]) rfl ⟨by rw [unhide htop], (((unhide hbel).setCell (by simp) _).setCell (by simp) _).alloc (by simp; exact (unhide hbel).size) _⟩
        · have hn2 : Hid (n = 0 ∨ ∀ j, j < 2 + 1 → ¬ n % 1024 ^ (4 - j) = 0) := Or.inr fun j hj c => by
            rcases unhide hno with hno | hno
            · exact hz hno
            by_cases e : j < 2
            · exact hno j e c
            · have : j = 2 := by omega
              subst this; exact h c
          go_wp2_with fail
          go_roundw
          case rel => exact ⟨2 + 1, by omega, by go_num, (unhide hbel).alloc (unhide hbel).size _, by simp; omega, by simp [go_sem, hsz, c0], by simp [go_sem, hsz, c1], by simp [go_sem, hsz, f0], by simp [go_sem, hsz, f1], hn2⟩
          case measure => simp [intOf]
    | 3, _ =>
      by_cases hz : n = 0
      · subst hz
        go_wp2_with fail
        go_roundw
        case rel => exact ⟨3 + 1, by omega, by go_num, (unhide hbel).alloc (unhide hbel).size _, by simp; omega, by simp [go_sem, hsz, c0], by simp [go_sem, hsz, c1], by simp [go_sem, hsz, f0], by simp [go_sem, hsz, f1], Or.inl (by first | rfl | trivial)⟩
        case measure => simp [intOf]
      · have hz2 : ((n : Int) != 0) = true := bne_iff_ne.2 (by omega)
        by_cases h : n % 1024 = 0
        · have htop : Hid (topU n = 1) := by
            rcases unhide hno with hno | hno
            · exact absurd hno hz
            have g4 := hno 0 (by omega)
            rw [show 1024 ^ (4 - 0) = 1099511627776 from rfl] at g4
            have g3 := hno 1 (by omega)
            rw [show 1024 ^ (4 - 1) = 1073741824 from rfl] at g3
            have g2 := hno 2 (by omega)
            rw [show 1024 ^ (4 - 2) = 1048576 from rfl] at g2
            exact topU1 n hz g4 g3 g2 h
          go_wp2_with fail
          exact bodyPost_ret (v := unitV 1) (by simp [results, Tryd.results37, go_sem, c0, c1, hsz, sufS, suf]) rfl ⟨by rw [unhide htop], (((unhide hbel).setCell (by simp) _).setCell (by simp) _).alloc (by simp; exact (unhide hbel).size) _⟩
        · have hn2 : Hid (n = 0 ∨ ∀ j, j < 3 + 1 → ¬ n % 1024 ^ (4 - j) = 0) := Or.inr fun j hj c => by
            rcases unhide hno with hno | hno
            · exact hz hno
            by_cases e : j < 3
            · exact hno j e c
            · have : j = 3 := by omega
              subst this; exact h c
          go_wp2_with fail
          go_roundw
          case rel => exact ⟨3 + 1, by omega, by go_num, (unhide hbel).alloc (unhide hbel).size _, by simp; omega, by simp [go_sem, hsz, c0], by simp [go_sem, hsz, c1], by simp [go_sem, hsz, f0], by simp [go_sem, hsz, f1], hn2⟩
          case measure => simp [intOf]
    | 4, _ =>
      by_cases hz : n = 0
      · subst hz
        go_wp2_with fail
        go_roundw
        case rel => exact ⟨4 + 1, by omega, by go_num, (unhide hbel).alloc (unhide hbel).size _, by simp; omega, by simp [go_sem, hsz, c0], by simp [go_sem, hsz, c1], by simp [go_sem, hsz, f0], by simp [go_sem, hsz, f1], Or.inl (by first | rfl | trivial)⟩
        case measure => simp [intOf]
      · have hz2 : ((n : Int) != 0) = true := bne_iff_ne.2 (by omega)
        have htop : Hid (topU n = 0) := by
          rcases unhide hno with hno | hno
          · exact absurd hno hz
          have g4 := hno 0 (by omega)
          rw [show 1024 ^ (4 - 0) = 1099511627776 from rfl] at g4
          have g3 := hno 1 (by omega)
          rw [show 1024 ^ (4 - 1) = 1073741824 from rfl] at g3
          have g2 := hno 2 (by omega)
          rw [show 1024 ^ (4 - 2) = 1048576 from rfl] at g2
          have g1 := hno 3 (by omega)
          rw [show 1024 ^ (4 - 3) = 1024 from rfl] at g1
          exact topU0 n hz g4 g3 g2 g1 
        go_wp2_with fail
        exact bodyPost_ret (v := unitV 0) (by simp [results, Tryd.results37, go_sem, c0, c1, hsz, sufS, suf]) rfl ⟨by rw [unhide htop], (((unhide hbel).setCell (by simp) _).setCell (by simp) _).alloc (by simp; exact (unhide hbel).size) _⟩
    | 5, _ =>
      have htop : Hid (topU n = 0) := by
        rcases unhide hno with hno | hno
        · subst hno; rfl
        · exact absurd (Nat.mod_one n) (hno 4 (by omega))
      go_wp2_with fail
      exact bodyPost_ret (v := unitV 0) (by simp [results, Tryd.results37, go_sem, c0, c1, sufS, suf]) rfl ⟨by rw [unhide htop], (((unhide hbel).setCell (by simp) _).setCell (by simp) _)⟩

end Go.Proofs.YtfpbmclahihlkaaDoor
