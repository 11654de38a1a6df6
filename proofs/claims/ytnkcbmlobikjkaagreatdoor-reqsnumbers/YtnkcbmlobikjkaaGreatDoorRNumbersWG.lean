/- ReqsNumbers: the walk. -/
import Derived.Test.YtnkcbmlobikjkaaGreatDoorRqXG
namespace Go.Proofs.YtnkcbmlobikjkaaGreatDoor.reqsNumbers
open Go.RowKit Suf Val Go.Maps

def zr : VReq := ⟨tZone, 3, [], 0⟩
theorem row_below {w w' : World} {base : Nat} {T : TypeId} {sz : Nat} {v : Value} {n : Nat} {xs : List Value} (h : w.ownsRow base T sz v n xs) (hb : Below w.heap.size w w') : w'.ownsRow base T sz v n xs :=
  h.kept (below_grownBy hb) (by
    cases hv : v.ownBlock with
    | none => exact Or.inl rfl
    | some b => exact Or.inr (by simp))
theorem Reqs.cut {w : World} {a : Option Addr} {n c : Nat} {l : List VReq} (h : Reqs w (.slice a n c) l) {m : Nat} (hm : m ≤ l.length) : Reqs w (.slice a m c) (l.take m) := by
  have hl : (l.take m).length = m := by rw [List.length_take]; omega
  refine ⟨a, c, by rw [hl], fun j hj => ?_, by have := h.len; omega⟩
  rw [hl] at hj
  obtain ⟨b, o, u, e, hr⟩ := h.at (j := j) (by omega)
  refine ⟨b, o, u, e, ?_⟩
  rw [List.getElem_take]
  exact hr
theorem rep_next (k : Nat) : List.replicate (k + 1) zr = List.replicate k zr ++ [zr] := List.replicate_succ'
theorem s17 : (setsR (List.replicate 17 zr)).2 = 3 := by decide +kernel
theorem s16 : (setsR (List.replicate 16 zr)).2 = 0 := by decide +kernel
theorem m9 : moreR 8 (List.replicate 9 zr) = 3 := by decide +kernel
theorem m8 : moreR 8 (List.replicate 8 zr) = 0 := by decide +kernel
theorem adm2 : admitsR [] [(tZone, [97]), (tZone, [97])] = (false, 6) := by decide +kernel
theorem labs_twice {w : World} : Labs (w.alloc (.cells #[.string ⟨#[122, 111, 110, 101]⟩, .string ⟨#[97]⟩, .string ⟨#[122, 111, 110, 101]⟩, .string ⟨#[97]⟩] 34)) (.slice (some ⟨w.heap.size, 0, none⟩) 2 2) [(tZone, [97]), (tZone, [97])] := by
  refine ⟨_, _, rfl, fun j hj => ?_, by decide⟩
  match j, hj with
  | 0, _ => exact ⟨w.heap.size, 0, rfl, by simp [go_sem]; rfl, by simp [go_sem]; rfl, sh_zone, sh_a⟩
  | 1, _ => exact ⟨w.heap.size, 0, rfl, by simp [go_sem]; rfl, by simp [go_sem]; rfl, sh_zone, sh_a⟩

set_option maxRecDepth 100000 in
set_option maxHeartbeats 8000000 in
theorem walk (w : World) (hL : Laid w) :
    Calls Tryz.prog 3 #[] w fun e w' => e = .returned (.bool true) ∧ Below w.heap.size w w' := by
  have HL := hide hL
  clear hL
  have HO : Hid (Rowed w [.string (bytesT tZone), .int .i64 3, .slice none 0 0, .int .i64 0] [zr]) := Rowed.one (r := zr) (strs_zero _ none 0) sh_zone capd_nil
  go_enter Tryz.func3, Tryz.ntmps3
  go_wp2_with fail
  go_loopw [1, 2] (fun o i W => ∃ (k : Nat) (news : List Value), k ≤ 17 ∧ i = .int .i64 k ∧ Hid (Rowed w news (List.replicate k zr) ∧ W.ownsRow w.heap.size 25 4 o k news) ∧ Hid (Below w.heap.size w W)) (fun _ i _ => 17 - (intOf i).toNat)
  case atStart => exact ⟨0, [], Nat.zero_le _, rfl, ⟨rowed_nil w, World.ownsRow_nil _ _ _ _⟩, Below.refl _ _⟩
  case round =>
    obtain ⟨k, news, hk, rfl, hr, hbel⟩ := hrel
    by_cases hlt : k < 17
    · go_wp2_with fail
      refine (req_any _ _ _ _ _ _ _).mono ?_
      rintro e w1 ⟨rfl, hw1⟩
      have B1 := hide (chain (unhide hbel) hw1)
      have R1 := hide (row_below (unhide hr).2 hw1)
      clear hw1 hbel
      go_wp2_with (at_builtin; (refine wpList_append_req rfl _ _ rfl w.heap.size _ k news rfl ((unhide R1).alloc _) w1.heap.size (bytesT tZone) 3 none 0 0 0 rfl (by simp [go_sem]; rfl) (by simp [go_sem]) (by simp [go_sem]) (by simp [go_sem]) (by omega) (by have := (unhide B1).size; simp; omega) ?_; intro v2 w2 hown2 hg2 _; have B2 := hide (row_grow (chain (unhide B1) (box_below _)) ((unhide R1).alloc _) hg2); have R2 := hide (And.intro ((unhide hr).1.append (unhide HO)) hown2); clear hown2 hg2))
      go_roundw
      case rel => exact ⟨k + 1, _, by omega, by go_num, by rw [rep_next]; exact unhide R2, B2⟩
      case measure => simp [intOf]; omega
    · obtain rfl : k = 17 := by omega
      obtain ⟨g, cap, hxe, hcap⟩ : ∃ g cap, u1 = .slice (some ⟨g, 0, none⟩) 17 cap ∧ 17 ≤ cap := by
        rcases (unhide hr).2.2 with ⟨_, h0⟩ | ⟨g, cap, cur, e, _, _, hc, _⟩
        · cases h0
        · exact ⟨g, cap, e, hc⟩
      subst hxe
      have Q0 := hide (row_reqs (unhide hr).2 ((unhide hr).1.below (unhide hbel)) (by simp) (by simp))
      have i1 : (16 : Int) ≤ (cap : Int) := by omega
      have i2 : (9 : Int) ≤ (cap : Int) := by omega
      have i3 : (8 : Int) ≤ (cap : Int) := by omega
      clear hr hcap
      go_wp2_with fail
      refine (psets_any _ _ _ ((unhide HL).below (unhide hbel)) (unhide Q0)).mono ?_
      rintro e w1 (⟨_, rfl, hw1⟩ | ⟨h0, _⟩)
      rotate_left
      · rw [s17] at h0; cases h0
      rw [s17]
      have B1 := hide (chain (unhide hbel) hw1)
      have Q1 := hide ((unhide Q0).below hw1)
      clear hw1 hbel Q0
      go_wp2_with fail
      refine (psets_any _ _ _ ((unhide HL).below (unhide B1)) (Reqs.cut (unhide Q1) (m := 16) (by simp))).mono ?_
      rintro e w2 (⟨h0, _⟩ | ⟨_, v', st, rfl, _, _, hw2⟩)
      · exact absurd s16 h0
      have B2 := hide (chain (unhide B1) hw2)
      have Q2 := hide ((unhide Q1).below hw2)
      clear hw2 B1 Q1
      have B3 := hide (chain (unhide B2) (box_below (.cells #[.string ⟨#[122, 111, 110, 101]⟩, .string ⟨#[97]⟩, .string ⟨#[122, 111, 110, 101]⟩, .string ⟨#[97]⟩] 34)))
      have Q3 := hide ((unhide Q2).below (box_below (.cells #[.string ⟨#[122, 111, 110, 101]⟩, .string ⟨#[97]⟩, .string ⟨#[122, 111, 110, 101]⟩, .string ⟨#[97]⟩] 34)))
      go_wp2_with fail
      refine (padmits_any _ [] _ _ _ ((unhide HL).below (unhide B3)) ⟨none, 0, rfl, fun j hj => absurd hj (Nat.not_lt_zero _), by decide⟩ labs_twice).mono ?_
      rintro e w3 ⟨he, hw3⟩
      rw [adm2] at he
      subst he
      have B4 := hide (chain (unhide B3) hw3)
      have Q4 := hide ((unhide Q3).below hw3)
      clear hw3 B3 Q3 B2 Q2
      go_wp2_with fail
      refine (live4_any _ ((unhide HL).below (unhide B4))).mono ?_
      rintro e w4 ⟨rfl, hw4⟩
      have B5 := hide (chain (unhide B4) hw4)
      have Q5 := hide ((unhide Q4).below hw4)
      clear hw4 B4 Q4
      go_wp2_with fail
      refine (rcheckL_any _ _ _ ((unhide HL).below (unhide B5)) (Reqs.cut (unhide Q5) (m := 9) (by simp))).mono ?_
      rintro e w5 ⟨he, hw5⟩
      have e9 : (List.replicate 17 zr).take 9 = List.replicate 9 zr := rfl
      rw [e9, m9] at he
      subst he
      have B6 := hide (chain (unhide B5) hw5)
      have Q6 := hide ((unhide Q5).below hw5)
      clear hw5 B5 Q5 e9
      go_wp2_with fail
      refine (rcheckL_any _ _ _ ((unhide HL).below (unhide B6)) (Reqs.cut (unhide Q6) (m := 8) (by simp))).mono ?_
      rintro e w6 ⟨he, hw6⟩
      have e8 : (List.replicate 17 zr).take 8 = List.replicate 8 zr := rfl
      rw [e8, m8] at he
      subst he
      have B7 := hide (chain (unhide B6) hw6)
      clear hw6 B6 Q6 e8
      go_wp2_with fail
      go_ret
      exact ⟨rfl, unhide B7⟩
end Go.Proofs.YtnkcbmlobikjkaaGreatDoor.reqsNumbers
