/- The walk of SuffixScale. -/
import Derived.Test.YtfpbmclahihlkaaDoorSufN
namespace Go.Proofs.YtfpbmclahihlkaaDoor.suffixScale
open Go.RowKit Suf

theorem scale_fit (q k : Nat) (h : q * 1024 ^ k ≤ 1125899906842624) : times q (1024 ^ k) = ((q : Int) * ((1024 ^ k : Nat) : Int), 0) := by
  unfold Suf.times; rw [if_pos h]; congr 1
theorem scale_over (q k : Nat) (h : ¬ q * 1024 ^ k ≤ 1125899906842624) : times q (1024 ^ k) = (0, 10) := by
  unfold Suf.times; rw [if_neg h]
theorem text_m (q : Nat) (D : ByteArray) (hD : D = ⟨(dec q).toArray⟩) (h : q ≤ 1125899906842624) : pCPU (D ++ (⟨#[109]⟩ : ByteArray)).data.toList = ((q : Int), 0) := by
  have hq : q < 10 ^ 18 := small18 q h
  rw [append_list, hD]
  show pCPU (dec q ++ [109]) = _
  have hd := dec_digs q hq
  unfold pCPU
  rw [lastIs_snoc, List.dropLast_concat, hd, dec_val q hq]
  simp only [beq_self_eq_true, if_true]
  rw [times_ok _ _ (by omega), Nat.mul_one]
theorem text_k (q k : Nat) (hk : k ≤ 4) (D E : ByteArray) (hD : D = ⟨(dec q).toArray⟩) (hE : E.data.toList = suf k) (h : q ≤ 1125899906842624) : pBytes (D ++ E).data.toList = times q (1024 ^ k) := by
  have hq : q < 10 ^ 18 := small18 q h
  rw [append_list, hD, hE]
  show pBytes (dec q ++ suf k) = _
  rw [pBytes_read _ (dec_digs q hq) k hk, dec_val q hq]
theorem app_size (D E : ByteArray) (h : D.size ≤ 18) (hE : E.size ≤ 2) : (D ++ E).size ≤ maxLen := by
  rw [ByteArray.size_append]; unfold maxLen; omega

set_option maxRecDepth 100000 in
set_option maxHeartbeats 4000000 in
theorem walk (n : Int) (w : World) (_ : (Lit.int .i64 n).wf = true) (hL : Laid w) :
    Calls Tryd.prog 7 #[.int .i64 n] w fun e w' => e = .returned (.bool true) ∧ Below w.heap.size w w' := by
  have HL := hide hL
  clear hL
  by_cases hc : chk n = 0 ∧ n % 1000 = 0
  · obtain ⟨hc0, hr⟩ := hc
    obtain ⟨m, rfl, hm⟩ := ok_nat hc0
    obtain ⟨q, rfl⟩ : ∃ q, m = q * 1000 := ⟨m / 1000, by omega⟩
    have ho : prOut prCPU ((q * 1000 : Nat) : Int) = ⟨(dec q).toArray⟩ := by
      rw [prOut_yes prCPU _ hc0]; unfold prCPU; rw [if_pos (by omega), Nat.mul_div_cancel q (by omega)]
    rw [show ((q * 1000 : Nat) : Int) = (q : Int) * 1000 by omega] at *
    obtain ⟨D, hD⟩ : ∃ D : ByteArray, D = ⟨(dec q).toArray⟩ := ⟨_, rfl⟩
    rw [← hD] at ho
    have hq : q ≤ 1125899906842624 := by omega
    have HO := hide ho
    have HC := hide hc0
    have hDs : D.size ≤ 18 := by rw [hD, size_list]; exact dec_len q (by omega)
    have tm := hide (text_m q D hD hq)
    have tk := hide (fun k hk E hE => text_k q k hk D E hD hE hq)
    clear ho hc0 hD hr
    have hq2 : (q : Int) * 1000 ≤ 1125899906842624 := by omega
    go_enter Tryd.func7, Tryd.ntmps7
    go_wp2_with fail
    refine (printCPU_any _ _ (unhide HL)).mono ?_
    rintro e w1 ⟨he, hw1⟩
    rw [unhide HO, unhide HC] at he
    subst he
    have HB1 := hide hw1
    clear hw1
    go_wp2_with fail
    refine (parseCPU_any _ _ (app_size D _ hDs (by decide))).mono ?_
    rintro e w2 ⟨he, hw2⟩
    rw [unhide tm] at he
    subst he
    have HB2 := hide (chain (unhide HB1) hw2)
    clear hw2 HB1
    go_wp2_with fail
    have HLa := hide (((unhide HL).below (unhide HB2)).alloc (.cells #[.string ⟨#[]⟩, .string ⟨#[75, 105]⟩, .string ⟨#[77, 105]⟩, .string ⟨#[71, 105]⟩, .string ⟨#[84, 105]⟩] 9))
    have HBa := hide ((unhide HB2).alloc (unhide HB2).size (.cells #[.string ⟨#[]⟩, .string ⟨#[75, 105]⟩, .string ⟨#[77, 105]⟩, .string ⟨#[71, 105]⟩, .string ⟨#[84, 105]⟩] 9))
    clear HB2 HO HC tm
    go_loopw [8] (fun i W => ∃ k : Nat, k ≤ 5 ∧ i = .int .i64 k ∧ Hid (Below (w2.heap.size + 1) (w2.alloc (.cells #[.string ⟨#[]⟩, .string ⟨#[75, 105]⟩, .string ⟨#[77, 105]⟩, .string ⟨#[71, 105]⟩, .string ⟨#[84, 105]⟩] 9)) W)) (fun i _ => 5 - (intOf i).toNat)
    case atStart => exact ⟨0, by omega, rfl, Below.refl _ _⟩
    case round =>
      obtain ⟨k, hk, rfl, hbel⟩ := hrel
      have hb2 : Hid (Below (w2.alloc (.cells #[.string ⟨#[]⟩, .string ⟨#[75, 105]⟩, .string ⟨#[77, 105]⟩, .string ⟨#[71, 105]⟩, .string ⟨#[84, 105]⟩] 9)).heap.size (w2.alloc (.cells #[.string ⟨#[]⟩, .string ⟨#[75, 105]⟩, .string ⟨#[77, 105]⟩, .string ⟨#[71, 105]⟩, .string ⟨#[84, 105]⟩] 9)) wr) := by
        have := unhide hbel
        rw [show (w2.alloc (.cells #[.string ⟨#[]⟩, .string ⟨#[75, 105]⟩, .string ⟨#[77, 105]⟩, .string ⟨#[71, 105]⟩, .string ⟨#[84, 105]⟩] 9)).heap.size = w2.heap.size + 1 by simp]
        exact this
      have HLr := hide ((unhide HLa).below (unhide hb2))
      match k, hk with
      | 0, _ =>
        have hcell := cell_kept (unhide hb2) (p := ⟨w2.heap.size, 0, none⟩) (v := .string ⟨#[]⟩) (by simp [go_sem])
        have hp := hide (unhide tk 0 (by omega) ⟨#[]⟩ rfl)
        by_cases hf : (q : Int) ≤ 1125899906842624
        · have hp2 : Hid (pBytes (D ++ (⟨#[]⟩ : ByteArray)).data.toList = ((q : Int) * 1, 0)) := by
            show _ = _; rw [unhide hp, scale_fit q 0 (by rw [show 1024 ^ 0 = 1 from rfl]; omega)]; rfl
          clear hp
          go_wp2_with fail
          refine (parseBytes_any _ _ (app_size D _ hDs (by decide)) (unhide HLr)).mono ?_
          rintro e w3 ⟨he, hw3⟩
          rw [unhide hp2] at he
          subst he
          have H3 : Hid (Below (w2.heap.size + 1) (w2.alloc (.cells #[.string ⟨#[]⟩, .string ⟨#[75, 105]⟩, .string ⟨#[77, 105]⟩, .string ⟨#[71, 105]⟩, .string ⟨#[84, 105]⟩] 9)) w3) := (unhide hbel).trans (hw3.mono (by have := (unhide hbel).size; simp at this; omega))
          clear hw3 hcell
          go_wp2_with fail
          go_roundw
          case rel => exact ⟨0 + 1, by omega, by go_num, H3⟩
          case measure => simp [intOf]
        · exact absurd (by omega) hf
      | 1, _ =>
        have hcell := cell_kept (unhide hb2) (p := ⟨w2.heap.size, 1, none⟩) (v := .string ⟨#[75, 105]⟩) (by simp [go_sem])
        have hp := hide (unhide tk 1 (by omega) ⟨#[75, 105]⟩ rfl)
        by_cases hf : (q : Int) ≤ 1099511627776
        · have hp2 : Hid (pBytes (D ++ (⟨#[75, 105]⟩ : ByteArray)).data.toList = ((q : Int) * 1024, 0)) := by
            show _ = _; rw [unhide hp, scale_fit q 1 (by rw [show 1024 ^ 1 = 1024 from rfl]; omega)]; rfl
          clear hp
          go_wp2_with fail
          refine (parseBytes_any _ _ (app_size D _ hDs (by decide)) (unhide HLr)).mono ?_
          rintro e w3 ⟨he, hw3⟩
          rw [unhide hp2] at he
          subst he
          have H3 : Hid (Below (w2.heap.size + 1) (w2.alloc (.cells #[.string ⟨#[]⟩, .string ⟨#[75, 105]⟩, .string ⟨#[77, 105]⟩, .string ⟨#[71, 105]⟩, .string ⟨#[84, 105]⟩] 9)) w3) := (unhide hbel).trans (hw3.mono (by have := (unhide hbel).size; simp at this; omega))
          clear hw3 hcell
          go_wp2_with fail
          go_roundw
          case rel => exact ⟨1 + 1, by omega, by go_num, H3⟩
          case measure => simp [intOf]
        · have hp2 : Hid (pBytes (D ++ (⟨#[75, 105]⟩ : ByteArray)).data.toList = (0, 10)) := by
            show _ = _; rw [unhide hp, scale_over q 1 (by rw [show 1024 ^ 1 = 1024 from rfl]; omega)]
          clear hp
          go_wp2_with fail
          refine (parseBytes_any _ _ (app_size D _ hDs (by decide)) (unhide HLr)).mono ?_
          rintro e w3 ⟨he, hw3⟩
          rw [unhide hp2] at he
          subst he
          have H3 : Hid (Below (w2.heap.size + 1) (w2.alloc (.cells #[.string ⟨#[]⟩, .string ⟨#[75, 105]⟩, .string ⟨#[77, 105]⟩, .string ⟨#[71, 105]⟩, .string ⟨#[84, 105]⟩] 9)) w3) := (unhide hbel).trans (hw3.mono (by have := (unhide hbel).size; simp at this; omega))
          clear hw3 hcell
          go_wp2_with fail
          go_roundw
          case rel => exact ⟨1 + 1, by omega, by go_num, H3⟩
          case measure => simp [intOf]
      | 2, _ =>
        have hcell := cell_kept (unhide hb2) (p := ⟨w2.heap.size, 2, none⟩) (v := .string ⟨#[77, 105]⟩) (by simp [go_sem])
        have hp := hide (unhide tk 2 (by omega) ⟨#[77, 105]⟩ rfl)
        by_cases hf : (q : Int) ≤ 1073741824
        · have hp2 : Hid (pBytes (D ++ (⟨#[77, 105]⟩ : ByteArray)).data.toList = ((q : Int) * 1048576, 0)) := by
            show _ = _; rw [unhide hp, scale_fit q 2 (by rw [show 1024 ^ 2 = 1048576 from rfl]; omega)]; rfl
          clear hp
          go_wp2_with fail
          refine (parseBytes_any _ _ (app_size D _ hDs (by decide)) (unhide HLr)).mono ?_
          rintro e w3 ⟨he, hw3⟩
          rw [unhide hp2] at he
          subst he
          have H3 : Hid (Below (w2.heap.size + 1) (w2.alloc (.cells #[.string ⟨#[]⟩, .string ⟨#[75, 105]⟩, .string ⟨#[77, 105]⟩, .string ⟨#[71, 105]⟩, .string ⟨#[84, 105]⟩] 9)) w3) := (unhide hbel).trans (hw3.mono (by have := (unhide hbel).size; simp at this; omega))
          clear hw3 hcell
          go_wp2_with fail
          go_roundw
          case rel => exact ⟨2 + 1, by omega, by go_num, H3⟩
          case measure => simp [intOf]
        · have hp2 : Hid (pBytes (D ++ (⟨#[77, 105]⟩ : ByteArray)).data.toList = (0, 10)) := by
            show _ = _; rw [unhide hp, scale_over q 2 (by rw [show 1024 ^ 2 = 1048576 from rfl]; omega)]
          clear hp
          go_wp2_with fail
          refine (parseBytes_any _ _ (app_size D _ hDs (by decide)) (unhide HLr)).mono ?_
          rintro e w3 ⟨he, hw3⟩
          rw [unhide hp2] at he
          subst he
          have H3 : Hid (Below (w2.heap.size + 1) (w2.alloc (.cells #[.string ⟨#[]⟩, .string ⟨#[75, 105]⟩, .string ⟨#[77, 105]⟩, .string ⟨#[71, 105]⟩, .string ⟨#[84, 105]⟩] 9)) w3) := (unhide hbel).trans (hw3.mono (by have := (unhide hbel).size; simp at this; omega))
          clear hw3 hcell
          go_wp2_with fail
          go_roundw
          case rel => exact ⟨2 + 1, by omega, by go_num, H3⟩
          case measure => simp [intOf]
      | 3, _ =>
        have hcell := cell_kept (unhide hb2) (p := ⟨w2.heap.size, 3, none⟩) (v := .string ⟨#[71, 105]⟩) (by simp [go_sem])
        have hp := hide (unhide tk 3 (by omega) ⟨#[71, 105]⟩ rfl)
        by_cases hf : (q : Int) ≤ 1048576
        · have hp2 : Hid (pBytes (D ++ (⟨#[71, 105]⟩ : ByteArray)).data.toList = ((q : Int) * 1073741824, 0)) := by
            show _ = _; rw [unhide hp, scale_fit q 3 (by rw [show 1024 ^ 3 = 1073741824 from rfl]; omega)]; rfl
          clear hp
          go_wp2_with fail
          refine (parseBytes_any _ _ (app_size D _ hDs (by decide)) (unhide HLr)).mono ?_
          rintro e w3 ⟨he, hw3⟩
          rw [unhide hp2] at he
          subst he
          have H3 : Hid (Below (w2.heap.size + 1) (w2.alloc (.cells #[.string ⟨#[]⟩, .string ⟨#[75, 105]⟩, .string ⟨#[77, 105]⟩, .string ⟨#[71, 105]⟩, .string ⟨#[84, 105]⟩] 9)) w3) := (unhide hbel).trans (hw3.mono (by have := (unhide hbel).size; simp at this; omega))
          clear hw3 hcell
          go_wp2_with fail
          go_roundw
          case rel => exact ⟨3 + 1, by omega, by go_num, H3⟩
          case measure => simp [intOf]
        · have hp2 : Hid (pBytes (D ++ (⟨#[71, 105]⟩ : ByteArray)).data.toList = (0, 10)) := by
            show _ = _; rw [unhide hp, scale_over q 3 (by rw [show 1024 ^ 3 = 1073741824 from rfl]; omega)]
          clear hp
          go_wp2_with fail
          refine (parseBytes_any _ _ (app_size D _ hDs (by decide)) (unhide HLr)).mono ?_
          rintro e w3 ⟨he, hw3⟩
          rw [unhide hp2] at he
          subst he
          have H3 : Hid (Below (w2.heap.size + 1) (w2.alloc (.cells #[.string ⟨#[]⟩, .string ⟨#[75, 105]⟩, .string ⟨#[77, 105]⟩, .string ⟨#[71, 105]⟩, .string ⟨#[84, 105]⟩] 9)) w3) := (unhide hbel).trans (hw3.mono (by have := (unhide hbel).size; simp at this; omega))
          clear hw3 hcell
          go_wp2_with fail
          go_roundw
          case rel => exact ⟨3 + 1, by omega, by go_num, H3⟩
          case measure => simp [intOf]
      | 4, _ =>
        have hcell := cell_kept (unhide hb2) (p := ⟨w2.heap.size, 4, none⟩) (v := .string ⟨#[84, 105]⟩) (by simp [go_sem])
        have hp := hide (unhide tk 4 (by omega) ⟨#[84, 105]⟩ rfl)
        by_cases hf : (q : Int) ≤ 1024
        · have hp2 : Hid (pBytes (D ++ (⟨#[84, 105]⟩ : ByteArray)).data.toList = ((q : Int) * 1099511627776, 0)) := by
            show _ = _; rw [unhide hp, scale_fit q 4 (by rw [show 1024 ^ 4 = 1099511627776 from rfl]; omega)]; rfl
          clear hp
          go_wp2_with fail
          refine (parseBytes_any _ _ (app_size D _ hDs (by decide)) (unhide HLr)).mono ?_
          rintro e w3 ⟨he, hw3⟩
          rw [unhide hp2] at he
          subst he
          have H3 : Hid (Below (w2.heap.size + 1) (w2.alloc (.cells #[.string ⟨#[]⟩, .string ⟨#[75, 105]⟩, .string ⟨#[77, 105]⟩, .string ⟨#[71, 105]⟩, .string ⟨#[84, 105]⟩] 9)) w3) := (unhide hbel).trans (hw3.mono (by have := (unhide hbel).size; simp at this; omega))
          clear hw3 hcell
          go_wp2_with fail
          go_roundw
          case rel => exact ⟨4 + 1, by omega, by go_num, H3⟩
          case measure => simp [intOf]
        · have hp2 : Hid (pBytes (D ++ (⟨#[84, 105]⟩ : ByteArray)).data.toList = (0, 10)) := by
            show _ = _; rw [unhide hp, scale_over q 4 (by rw [show 1024 ^ 4 = 1099511627776 from rfl]; omega)]
          clear hp
          go_wp2_with fail
          refine (parseBytes_any _ _ (app_size D _ hDs (by decide)) (unhide HLr)).mono ?_
          rintro e w3 ⟨he, hw3⟩
          rw [unhide hp2] at he
          subst he
          have H3 : Hid (Below (w2.heap.size + 1) (w2.alloc (.cells #[.string ⟨#[]⟩, .string ⟨#[75, 105]⟩, .string ⟨#[77, 105]⟩, .string ⟨#[71, 105]⟩, .string ⟨#[84, 105]⟩] 9)) w3) := (unhide hbel).trans (hw3.mono (by have := (unhide hbel).size; simp at this; omega))
          clear hw3 hcell
          go_wp2_with fail
          go_roundw
          case rel => exact ⟨4 + 1, by omega, by go_num, H3⟩
          case measure => simp [intOf]
      | 5, _ =>
        go_wp2_with fail
        refine (live_any _ (unhide HLr)).mono ?_
        rintro e w3 ⟨rfl, hw3⟩
        have H3 := hide (chain (chain (unhide HBa) (unhide hb2)) hw3)
        clear hw3
        go_wp2_with fail
        go_ret
        exact ⟨rfl, unhide H3⟩
  · have hno : n < 0 ∨ (0 ≤ n ∧ 1125899906842624 < n) ∨ (0 ≤ n ∧ n ≤ 1125899906842624 ∧ ¬ n % 1000 = 0) := by
      by_cases h0 : n < 0
      · exact Or.inl h0
      · by_cases h1 : 1125899906842624 < n
        · exact Or.inr (Or.inl ⟨by omega, h1⟩)
        · exact Or.inr (Or.inr ⟨by omega, by omega, fun c => hc ⟨chk_ok (by omega) (by omega), c⟩⟩)
    clear hc
    obtain ⟨A, hA⟩ : ∃ A, A = prOut prCPU n := ⟨_, rfl⟩
    have GA := hide hA
    clear hA
    rcases hno with h0 | ⟨h0, h1⟩ | ⟨h0, h1, h2⟩
    · go_enter Tryd.func7, Tryd.ntmps7
      go_wp2_with fail
      refine (printCPU_any _ _ (unhide HL)).mono ?_
      rintro e w1 ⟨he, hw1⟩
      rw [← unhide GA] at he
      subst he
      have HB1 := hide hw1
      clear hw1
      go_wp2_with fail
      refine (live_any _ ((unhide HL).below (unhide HB1))).mono ?_
      rintro e w2 ⟨he, hw2⟩
      subst he
      have HB2 := hide (chain (unhide HB1) hw2)
      clear hw2 HB1
      go_wp2_with fail
      go_ret
      exact ⟨rfl, unhide HB2⟩
    · go_enter Tryd.func7, Tryd.ntmps7
      go_wp2_with fail
      refine (printCPU_any _ _ (unhide HL)).mono ?_
      rintro e w1 ⟨he, hw1⟩
      rw [← unhide GA] at he
      subst he
      have HB1 := hide hw1
      clear hw1
      go_wp2_with fail
      refine (live_any _ ((unhide HL).below (unhide HB1))).mono ?_
      rintro e w2 ⟨he, hw2⟩
      subst he
      have HB2 := hide (chain (unhide HB1) hw2)
      clear hw2 HB1
      go_wp2_with fail
      go_ret
      exact ⟨rfl, unhide HB2⟩
    · have hk := hide (chk_ok h0 h1)
      have h3 : (n % 1000 != 0) = true := bne_iff_ne.2 h2
      clear h2
      go_enter Tryd.func7, Tryd.ntmps7
      go_wp2_with fail
      refine (printCPU_any _ _ (unhide HL)).mono ?_
      rintro e w1 ⟨he, hw1⟩
      rw [← unhide GA, unhide hk] at he
      subst he
      have HB1 := hide hw1
      clear hw1
      go_wp2_with fail
      refine (live_any _ ((unhide HL).below (unhide HB1))).mono ?_
      rintro e w2 ⟨he, hw2⟩
      subst he
      have HB2 := hide (chain (unhide HB1) hw2)
      clear hw2 HB1
      go_wp2_with fail
      go_ret
      exact ⟨rfl, unhide HB2⟩

end Go.Proofs.YtfpbmclahihlkaaDoor.suffixScale
