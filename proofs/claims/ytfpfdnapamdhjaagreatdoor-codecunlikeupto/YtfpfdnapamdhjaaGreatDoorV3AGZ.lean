/- Layer 3: what the listed variables hold; contracts of text,tooFar,isLetter,inName,Name,Number,Value,between. -/
import Derived.Test.YtfpfdnapamdhjaaGreatDoorKitAZ
import Derived.Test.YtfpfdnapamdhjaaGreatDoorTxtAGZ
import Derived.Test.YtfpfdnapamdhjaaGreatDoorValAGZ
import Derived.Test.YtfpfdnapamdhjaaGreatDoorShelfZ
import Derived.WalkSmall
import Derived.Lib.ItoaMem
import Derived.Lib.LaidTab
namespace Go.Proofs.YtfpfdnapamdhjaaGreatDoor
open Go.RowKit Suf Val

theorem ret_ib {a b : Int} {x y : Bool} (h : a = b) (h2 : x = y) : Ending.returned (.tuple #[.int .i64 a,.bool x]) = .returned (.tuple #[.int .i64 b,.bool y]) := by rw [h,h2]
/-- What the walks ask of the listed variables. -/
def isErr (v : Value) : Prop := v = .nilIface ∨ ∃ te pe,v = .iface te pe
def Laid (w : World) : Prop :=
  (∃ v, w.cell? ⟨1, 0, none⟩ = some v ∧ isErr v) ∧ (∃ v, w.cell? ⟨2, 0, none⟩ = some v ∧ isErr v) ∧ Lib.TabIs Tryz.prog w "internal/strconv.uint64pow10" .u64 Lib.pow10Tab
theorem gPow : Tryz.prog.globalNamed "internal/strconv.uint64pow10" = some 3 := by kernel_rfl
theorem Laid.at {w : World} (h : Laid w) : 3 < w.heap.size := by
  obtain ⟨_,_,h2⟩ := h
  unfold Lib.TabIs World.var? at h2
  simp only [gPow,Option.bind_some] at h2
  rcases Nat.lt_or_ge 3 w.heap.size with hl | hl
  · exact hl
  · rw [Array.getElem?_eq_none hl] at h2; cases h2
theorem Laid.below {w w' : World} (h : Laid w) (hb : Below w.heap.size w w') : Laid w' := by
  have ha := h.at
  obtain ⟨⟨v,h1,g1⟩,⟨u,h2,g2⟩,h3⟩ := h
  exact ⟨⟨v,cell_kept hb h1,g1⟩,⟨u,cell_kept hb h2,g2⟩,var?_below hb gPow ha h3⟩
theorem Laid.alloc {w : World} (h : Laid w) (o : Obj) : Laid (w.alloc o) := h.below ((Below.refl _ _).alloc (Nat.le_refl _) _)
theorem Laid.drew {w : World} (h : Laid w) : Laid w.drew := h.below (Below.refl _ _).drew

theorem decDigits_fuel : ∀ (f n : Nat),n < 10 ^ (f + 1) -> Lib.decDigits n = decFuel (f + 1) n
  | 0,n,h => by
    have : n < 10 := by simpa using h
    rw [Lib.decDigits,dif_pos this]
    show _ = (if n < 10 then [] else decFuel 0 (n / 10)) ++ [UInt8.ofNat (48 + n % 10)]
    rw [if_pos this,Nat.mod_eq_of_lt this]; rfl
  | f + 1,n,h => by
    rw [Lib.decDigits]
    show _ = (if n < 10 then [] else decFuel (f + 1) (n / 10)) ++ [UInt8.ofNat (48 + n % 10)]
    by_cases hn : n < 10
    · rw [dif_pos hn,if_pos hn,Nat.mod_eq_of_lt hn]; rfl
    · rw [dif_neg hn,if_neg hn,decDigits_fuel f (n / 10) (by rw [Nat.pow_succ] at h; omega)]
theorem itoa_decZ (n : Int) (h0 : -9223372036854775808 <= n) (h1 : n <= 9223372036854775807) : Lib.itoa n = decZ n := by
  have hb : n.natAbs < 10 ^ 20 := Nat.lt_of_le_of_lt (show n.natAbs <= 9223372036854775808 by omega) (by decide)
  unfold Lib.itoa decZ
  by_cases h : n < 0
  · rw [if_pos h,if_pos h,decDigits_fuel 19 _ hb]; rfl
  · rw [if_neg h,if_neg h,show n.toNat = n.natAbs by omega,decDigits_fuel 19 _ hb]; rfl
theorem below_grow {w : World} (k : Nat) (os : Array Obj) : Below w.heap.size w (Sort.grow (w.drewN k) os) :=
  (below_drewN (Below.refl _ _) k).trans ⟨rfl,rfl,rfl,by simp [Sort.grow],fun i hi => by
    show (w.heap ++ os)[i]? = w.heap[i]?
    exact Array.getElem?_append_left hi⟩

set_option maxHeartbeats 400000 in
theorem text_any (n : Int) (w : World) (h0 : -9223372036854775808 <= n) (h1 : n <= 9223372036854775807) (hL : Laid w) :
    Calls Tryz.prog 179 #[.int .i64 n] w fun e w' => e = .returned (.string ⟨(decZ n).toArray⟩) /\ Below w.heap.size w w' := by
  have HD := hide (itoa_decZ n h0 h1)
  have HT := hide hL.2.2
  have H0 := hide1 h0
  have H1 := hide1 h1
  clear hL h0 h1
  go_enter Tryz.func179,Tryz.ntmps179
  go_wp2_with fail
  refine (Tryz.strconv_FormatInt_10 _ (unhide1 H0) (unhide1 H1) _ (unhide HT)).mono ?_
  rintro e w' ⟨he,k,os,hw⟩
  rw [unhide HD] at he
  subst he
  have hb := hide (hw ▸ below_grow k os : Below w.heap.size w w')
  clear hw
  go_wp2_with fail
  go_ret
  exact ⟨rfl,unhide hb⟩
def farB (n : Int) : Bool := decide (n < -2147483648) || decide (2147483648 < n)
theorem tooFar_any (n : Int) (w : World) : Calls Tryz.prog 178 #[.int .i64 n] w fun e w' => e = .returned (.bool (farB n)) /\ w' = w := by
  obtain ⟨r,hr⟩ : ∃ r,r = farB n := ⟨_,rfl⟩
  rw [<- hr]
  have HR := hide hr
  clear hr
  by_cases h0 : n < -2147483648
  all_goals
    go_enter Tryz.func178,Tryz.ntmps178
    go_wp2_with fail
    go_ret
    refine ⟨ret_bool ?_,rfl⟩
    rw [unhide HR,Bool.eq_iff_iff]; simp [farB]; omega
theorem isLetter_any (c : UInt8) (w : World) : Calls Tryz.prog 160 #[.int .u8 c.toNat] w fun e w' => e = .returned (.bool (low c)) /\ w' = w := by
  obtain ⟨r,hr⟩ : ∃ r,r = low c := ⟨_,rfl⟩
  rw [<- hr]
  have HR := hide hr
  clear hr
  by_cases h0 : 97 <= (c.toNat : Int)
  all_goals
    go_enter Tryz.func160,Tryz.ntmps160
    go_wp2_with fail
    go_ret
    refine ⟨ret_bool ?_,rfl⟩
    rw [unhide HR,Bool.eq_iff_iff]; simp [low]; omega
theorem u8_eq (c : UInt8) (k : Nat) (hk : k < 256) : c = UInt8.ofNat k ↔ (c.toNat : Int) = k := by
  constructor
  · rintro rfl; rw [UInt8.toNat_ofNat']; omega
  · intro h
    apply UInt8.toNat_inj.1
    rw [UInt8.toNat_ofNat']; omega
theorem nameC_of (c : UInt8) : nameC c = (low c || decide (48 <= (c.toNat : Int) /\ (c.toNat : Int) <= 57) || ((c.toNat : Int) == 46) || ((c.toNat : Int) == 45)) := by
  have e1 : (c == 46) = ((c.toNat : Int) == 46) := by rw [Bool.eq_iff_iff,beq_iff_eq,beq_iff_eq]; exact u8_eq c 46 (by omega)
  have e2 : (c == 45) = ((c.toNat : Int) == 45) := by rw [Bool.eq_iff_iff,beq_iff_eq,beq_iff_eq]; exact u8_eq c 45 (by omega)
  have e3 : dig c = decide (48 <= (c.toNat : Int) /\ (c.toNat : Int) <= 57) := by unfold dig; rw [decide_eq_decide]; omega
  unfold nameC; rw [e1,e2,e3]
theorem inName_any (c : UInt8) (w : World) : Calls Tryz.prog 161 #[.int .u8 c.toNat] w fun e w' => e = .returned (.bool (nameC c)) /\ w' = w := by
  have hn := hide (nameC_of c)
  obtain ⟨r,hr⟩ : ∃ r,r = nameC c := ⟨_,rfl⟩
  rw [<- hr]
  have HR := hide hr
  clear hr
  obtain ⟨b,hb⟩ : ∃ b,b = low c := ⟨_,rfl⟩
  have hB := hide hb
  clear hb
  have c1 : ∀ W,Calls Tryz.prog 160 #[.int .u8 c.toNat] W fun e w' => e = .returned (.bool b) /\ w' = W := fun W => (unhide hB) ▸ isLetter_any c W
  cases b
  · have HF : Hid (nameC c = (false || decide (48 <= (c.toNat : Int) /\ (c.toNat : Int) <= 57) || ((c.toNat : Int) == 46) || ((c.toNat : Int) == 45))) := (unhide hn).trans (by rw [(unhide hB).symm])
    clear hn hB
    by_cases h0 : 48 <= (c.toNat : Int)
    · by_cases h1 : (c.toNat : Int) <= 57
      all_goals
        go_enter Tryz.func161,Tryz.ntmps161
        go_wp2_with (go_at_call 160; refine (c1 _).mono ?_; rintro e w' ⟨rfl,rfl⟩)
        all_goals
          go_ret
          refine ⟨ret_bool ?_,rfl⟩
          rw [unhide HR,unhide HF,Bool.eq_iff_iff]; simp; omega
    · go_enter Tryz.func161,Tryz.ntmps161
      go_wp2_with (go_at_call 160; refine (c1 _).mono ?_; rintro e w' ⟨rfl,rfl⟩)
      all_goals
        go_ret
        refine ⟨ret_bool ?_,rfl⟩
        rw [unhide HR,unhide HF,Bool.eq_iff_iff]; simp; omega
  · go_enter Tryz.func161,Tryz.ntmps161
    go_wp2_with (go_at_call 160; refine (c1 _).mono ?_; rintro e w' ⟨rfl,rfl⟩)
    go_ret
    refine ⟨ret_bool ?_,rfl⟩
    rw [unhide HR,unhide hn,(unhide hB).symm]; rfl

end Go.Proofs.YtfpfdnapamdhjaaGreatDoor
