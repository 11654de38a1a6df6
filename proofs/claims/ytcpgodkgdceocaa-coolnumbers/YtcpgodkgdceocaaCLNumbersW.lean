/- CoolNumbers: the walk. -/
import Derived.Test.YtcpgodkgdceocaaCoO
namespace Go.Proofs.Ytcpgodkgdceocaa.coolNumbers
open Go.RowKit Suf Val

def cBelow : VCool := ((tS, tA, tSpot), -1)
def cNone : VCool := ((tS, [], tSpot), 1)
theorem v_twice : coolR [cS, cS] = 6 := by decide +kernel
theorem v_below : coolR [cBelow] = 1 := by decide +kernel
theorem v_none : coolR [cNone] = 7 := by decide +kernel
theorem okB : okO cBelow.1 := okS
theorem okN : okO cNone.1 := ⟨sh7.2.2.2.1, by unfold short; decide, sh7.2.2.1⟩
set_option maxHeartbeats 2000000 in
theorem long (a : Option Addr) (n c : Nat) (w : World) (h : 72 < n) : Calls Try.prog 9 #[.slice a n c] w fun e w' => e = .returned (.int .i64 3) ∧ w' = w := by
  have hb : decide ((72 : Int) < (n : Int)) = true := by simp; omega
  go_enter Try.func9, Try.ntmps9
  go_wp2_with fail
  go_ret
  exact ⟨rfl, rfl⟩
def zero73 : Array Value := (List.replicate 73 [Value.string ⟨#[]⟩, .string ⟨#[]⟩, .string ⟨#[]⟩, .int .i64 0]).flatten.toArray
set_option maxRecDepth 100000 in
theorem make73 (W : World) : (Instr.makeSlice 29 (.int .i64 73) (.int .i64 73)).run Try.prog W = .ok (.slice (some ⟨W.heap.size, 0, none⟩) 73 73) (W.alloc (.cells zero73 25)) := by kernel_rfl
theorem two_c {W : World} (x y : VCool) (hx : okO x.1) (hy : okO y.1) : Lst coolK (W.alloc (.cells #[.string (bytesT x.1.1), .string (bytesT x.1.2.1), .string (bytesT x.1.2.2), .int .i64 x.2, .string (bytesT y.1.1), .string (bytesT y.1.2.1), .string (bytesT y.1.2.2), .int .i64 y.2] 25)) (.slice (some ⟨W.heap.size, 0, none⟩) 2 2) [x, y] :=
  rows_block (t := 25) ((rows_one (cool_row (w := W) (x := x) hx.1 hx.2.1 hx.2.2)).append (rows_one (cool_row (w := W) (x := y) hy.1 hy.2.1 hy.2.2))) (by simp) rfl rfl
set_option maxRecDepth 100000 in
set_option maxHeartbeats 16000000 in
theorem walk (w : World) : Calls Try.prog 3 #[] w fun e w' => e = .returned (.bool true) ∧ Below w.heap.size w w' := by
  go_enter Try.func3, Try.ntmps3
  go_wp2_with fail
  refine (till_any _ _ _ _ _).mono ?_
  rintro e w1 ⟨rfl, hw1⟩
  have B1 := hide hw1
  clear hw1
  obtain ⟨W1, hW1⟩ : ∃ W, W = w1.alloc (.cells #[.string ⟨#[115]⟩, .string ⟨#[97]⟩, .string ⟨#[115, 112, 111, 116]⟩, .int .i64 30] 25) := ⟨_, rfl⟩
  have BA : Hid (Below w1.heap.size w1 W1) := by rw [hW1]; exact boxb _
  have L2 : Hid (Lst coolK (W1.alloc (.cells #[.string ⟨#[115]⟩, .string ⟨#[97]⟩, .string ⟨#[115, 112, 111, 116]⟩, .int .i64 30, .string ⟨#[115]⟩, .string ⟨#[97]⟩, .string ⟨#[115, 112, 111, 116]⟩, .int .i64 30] 25)) (.slice (some ⟨W1.heap.size, 0, none⟩) 2 2) [cS, cS]) := two_c (W := W1) cS cS okS okS
  have BB := hide (chain (unhide BA) (boxb (.cells #[.string ⟨#[115]⟩, .string ⟨#[97]⟩, .string ⟨#[115, 112, 111, 116]⟩, .int .i64 30, .string ⟨#[115]⟩, .string ⟨#[97]⟩, .string ⟨#[115, 112, 111, 116]⟩, .int .i64 30] 25)))
  have cc := hide (pcheck7_any _ [cS, cS] _ (unhide L2))
  rw [v_twice] at cc
  have hs1 : W1.heap.size = w1.heap.size + 1 := by rw [hW1]; simp
  rw [hs1] at cc
  rw [hW1] at cc BB
  clear BA L2 hs1 hW1
  go_wp2_with fail
  refine (unhide cc).mono ?_
  rintro e w2 ⟨rfl, hw2⟩
  have B2 := hide (chain (chain (unhide B1) (unhide BB)) hw2)
  clear hw2 cc B1 BB
  go_wp2_with fail
  refine (till_any _ _ _ _ _).mono ?_
  rintro e w3 ⟨rfl, hw3⟩
  have B3 := hide (chain (unhide B2) hw3)
  have LS : Hid (Lst coolK (w3.alloc (.cells #[.string ⟨#[115]⟩, .string ⟨#[97]⟩, .string ⟨#[115, 112, 111, 116]⟩, .int .i64 (-1)] 25)) (.slice (some ⟨w3.heap.size, 0, none⟩) 1 1) [cBelow]) := one_c (W := w3) cBelow okB
  have BA : Hid (Below w3.heap.size w3 (w3.alloc (.cells #[.string ⟨#[115]⟩, .string ⟨#[97]⟩, .string ⟨#[115, 112, 111, 116]⟩, .int .i64 (-1)] 25))) := boxb _
  have cc := hide (pcheck7_any _ [cBelow] _ (unhide LS))
  rw [v_below] at cc
  clear hw3 B2 LS
  go_wp2_with fail
  refine (unhide cc).mono ?_
  rintro e w4 ⟨rfl, hw4⟩
  have B4 := hide (chain (chain (unhide B3) (unhide BA)) hw4)
  clear hw4 cc B3 BA
  go_wp2_with fail
  refine (till_any _ _ _ _ _).mono ?_
  rintro e w5 ⟨rfl, hw5⟩
  have B5 := hide (chain (unhide B4) hw5)
  have LS : Hid (Lst coolK (w5.alloc (.cells #[.string ⟨#[115]⟩, .string ⟨#[]⟩, .string ⟨#[115, 112, 111, 116]⟩, .int .i64 1] 25)) (.slice (some ⟨w5.heap.size, 0, none⟩) 1 1) [cNone]) := one_c (W := w5) cNone okN
  have BA : Hid (Below w5.heap.size w5 (w5.alloc (.cells #[.string ⟨#[115]⟩, .string ⟨#[]⟩, .string ⟨#[115, 112, 111, 116]⟩, .int .i64 1] 25))) := boxb _
  have cc := hide (pcheck7_any _ [cNone] _ (unhide LS))
  rw [v_none] at cc
  clear hw5 B4 LS
  go_wp2_with fail
  refine (unhide cc).mono ?_
  rintro e w6 ⟨rfl, hw6⟩
  have B6 := hide (chain (chain (unhide B5) (unhide BA)) hw6)
  clear hw6 cc B5 BA
  go_wp2_with fail
  refine (live7_any _).mono ?_
  rintro e w7 ⟨rfl, hw7⟩
  have B7 := hide (chain (unhide B6) hw7)
  clear hw7 B6
  have mk := make73 w7
  obtain ⟨W8, hW8⟩ : ∃ W, W = w7.alloc (.cells zero73 25) := ⟨_, rfl⟩
  have B8 : Hid (Below w7.heap.size w7 W8) := by rw [hW8]; exact boxb _
  rw [← hW8] at mk
  clear hW8
  go_wp2_with fail
  refine (long _ 73 73 _ (by decide)).mono ?_
  rintro e w9 ⟨rfl, hw9⟩
  obtain rfl := hw9.symm
  clear hw9 mk
  go_wp2_with fail
  go_ret
  exact ⟨rfl, chain (unhide B7) (unhide B8)⟩
end Go.Proofs.Ytcpgodkgdceocaa.coolNumbers
