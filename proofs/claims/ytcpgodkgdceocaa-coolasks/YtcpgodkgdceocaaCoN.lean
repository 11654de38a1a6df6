/- Layer 7: the document's Put. -/
import Derived.Test.YtcpgodkgdceocaaCoM
namespace Go.Proofs.Ytcpgodkgdceocaa
open Go.RowKit Suf Val

theorem putF_step {l : List VCool} {c : VCool} {k : Nat} (h : k < l.length) (d : Bool) : putF c (l.drop k) d = if l[k].1 = c.1 then c :: putF c (l.drop (k + 1)) true else if (lessO c.1 l[k].1 && !d) = true then c :: l[k] :: putF c (l.drop (k + 1)) true else l[k] :: putF c (l.drop (k + 1)) d := by
  rw [List.drop_eq_getElem_cons h]; rfl
theorem one_cT {W : World} (c : VCool) (h : okO c.1) {s0 s1 s2 : ByteArray} (h0 : s0 = bytesT c.1.1) (h1 : s1 = bytesT c.1.2.1) (h2 : s2 = bytesT c.1.2.2) : Lst coolK (W.alloc (.cells #[.string s0, .string s1, .string s2, .int .i64 c.2] 25)) (.slice (some ⟨W.heap.size, 0, none⟩) 1 1) [c] := by
  subst h0 h1 h2; exact one_c c h
theorem one_cW {V W : World} (_h : Hid (Below V.heap.size V W)) (c : VCool) (h : okO c.1) {s0 s1 s2 : ByteArray} (h0 : s0 = bytesT c.1.1) (h1 : s1 = bytesT c.1.2.1) (h2 : s2 = bytesT c.1.2.2) : Lst coolK (W.alloc (.cells #[.string s0, .string s1, .string s2, .int .i64 c.2] 25)) (.slice (some ⟨W.heap.size, 0, none⟩) 1 1) [c] := one_cT c h h0 h1 h2
theorem boxW {V W : World} (_h : Hid (Below V.heap.size V W)) (o : Obj) : Below W.heap.size W (W.alloc o) := boxb o
theorem c6_kept {V W W' : World} {p0 p1 p2 p3 p4 p5 : Addr} {v0 v1 v2 v3 v4 v5 : Value} (hb : Below W.heap.size W W') (h : Hid (Below V.heap.size V W) ∧ W.cell? p0 = some v0 ∧ W.cell? p1 = some v1 ∧ W.cell? p2 = some v2 ∧ W.cell? p3 = some v3 ∧ W.cell? p4 = some v4 ∧ W.cell? p5 = some v5) : Hid (Below W'.heap.size W' W') ∧ W'.cell? p0 = some v0 ∧ W'.cell? p1 = some v1 ∧ W'.cell? p2 = some v2 ∧ W'.cell? p3 = some v3 ∧ W'.cell? p4 = some v4 ∧ W'.cell? p5 = some v5 :=
  ⟨Below.refl _ _, cell_kept hb h.2.1, cell_kept hb h.2.2.1, cell_kept hb h.2.2.2.1, cell_kept hb h.2.2.2.2.1, cell_kept hb h.2.2.2.2.2.1, cell_kept hb h.2.2.2.2.2.2⟩
/-- The cells of a box and of an element, as texts. -/
structure Two (W : World) (B b o : Nat) (Y0 Y1 Y2 X0 X1 X2 : ByteArray) (y3 x3 : Int) : Prop where
  y0 : W.cell? ⟨B, 0, none⟩ = some (.string Y0)
  y1 : W.cell? ⟨B, 1, none⟩ = some (.string Y1)
  y2 : W.cell? ⟨B, 2, none⟩ = some (.string Y2)
  y3 : W.cell? ⟨B, 3, none⟩ = some (.int .i64 y3)
  x0 : W.cell? ⟨b, o, none⟩ = some (.string X0)
  x1 : W.cell? ⟨b, o + 1, none⟩ = some (.string X1)
  x2 : W.cell? ⟨b, o + 2, none⟩ = some (.string X2)
  x3 : W.cell? ⟨b, o + 3, none⟩ = some (.int .i64 x3)
theorem Two.below {W W' : World} {B b o : Nat} {Y0 Y1 Y2 X0 X1 X2 : ByteArray} {y3 x3 : Int} (h : Two W B b o Y0 Y1 Y2 X0 X1 X2 y3 x3) (hb : Below W.heap.size W W') : Two W' B b o Y0 Y1 Y2 X0 X1 X2 y3 x3 :=
  ⟨cell_kept hb h.y0, cell_kept hb h.y1, cell_kept hb h.y2, cell_kept hb h.y3, cell_kept hb h.x0, cell_kept hb h.x1, cell_kept hb h.x2, cell_kept hb h.x3⟩
/-- Behind an append to the call's own row what was there ahead stays. -/
theorem Two.grown {W0 W' : World} {B b o : Nat} {Y0 Y1 Y2 X0 X1 X2 : ByteArray} {y3 x3 : Int} (h : Two W0 B b o Y0 Y1 Y2 X0 X1 X2 y3 x3) (hb : Below W0.heap.size W0 W') : Two W' B b o Y0 Y1 Y2 X0 X1 X2 y3 x3 := h.below hb
set_option maxRecDepth 100000 in
set_option maxHeartbeats 32000000 in
theorem rput_any (v : Value) (l : List VCool) (x : VCool) (w : World) (hv : Lst coolK w v l) (hx : okO x.1) :
    Calls Try.prog 13 #[v, coolA x] w fun e w' => (∃ v', e = .returned (.tuple #[v', .int .i64 (putR l x).2]) ∧ OwnC w' w.heap.size v' (putR l x).1) ∧ Below w.heap.size w w' := by
  have HV := hide hv
  have hlen := hv.len
  obtain ⟨a, c, rfl⟩ := hv.val
  clear hv
  obtain ⟨n, hn⟩ : ∃ n, n = l.length := ⟨_, rfl⟩
  rw [← hn] at HV hlen ⊢
  have HN := hide hn
  clear hn
  have HX := hide hx
  clear hx
  obtain ⟨PP, hPP⟩ : ∃ P, P = fun (e : Ending) (w' : World) => (∃ v', e = .returned (.tuple #[v', .int .i64 (putR l x).2]) ∧ OwnC w' w.heap.size v' (putR l x).1) ∧ Below w.heap.size w w' := ⟨_, rfl⟩
  show Calls _ _ _ _ (fun e w' => (fun (e : Ending) (w' : World) => (∃ v', e = .returned (.tuple #[v', .int .i64 (putR l x).2]) ∧ OwnC w' w.heap.size v' (putR l x).1) ∧ Below w.heap.size w w') e w')
  rw [← hPP]
  have HPP := hide hPP
  clear hPP
  have hbad : Hid (∀ z W, putR l x = ([], z) → Below w.heap.size w W → PP (.returned (.tuple #[.slice none 0 0, .int .i64 z])) W) := fun z W h hb => by
    rw [unhide HPP, h]; exact ⟨⟨_, rfl, ownC_nil _ _⟩, hb⟩
  obtain ⟨Y0, hY0⟩ : ∃ X, X = bytesT x.1.1 := ⟨_, rfl⟩
  obtain ⟨Y1, hY1⟩ : ∃ X, X = bytesT x.1.2.1 := ⟨_, rfl⟩
  obtain ⟨Y2, hY2⟩ : ∃ X, X = bytesT x.1.2.2 := ⟨_, rfl⟩
  have HY : Hid (Y0 = bytesT x.1.1 ∧ Y1 = bytesT x.1.2.1 ∧ Y2 = bytesT x.1.2.2) := ⟨hY0, hY1, hY2⟩
  have c1 := hide (fun W => rone_any x W (unhide HX))
  have HOB := hide (fun z : VOff => off_beq z x.1)
  have HLS := hide (fun z W => rless6_any x.1 z W)
  unfold coolA at c1 ⊢
  unfold offA at HLS
  rw [← hY0, ← hY1, ← hY2] at c1 HOB ⊢
  rw [← hY0, ← hY1, ← hY2] at HLS
  clear hY0 hY1 hY2
  obtain ⟨W0, hW0⟩ : ∃ W, W = w.alloc (.cells #[.string Y0, .string Y1, .string Y2, .int .i64 x.2] 25) := ⟨_, rfl⟩
  have B0 : Hid (Below w.heap.size w W0) := by rw [hW0]; exact boxb _
  have F0 : Hid (W0.cell? ⟨w.heap.size, 0, none⟩ = some (.string Y0) ∧ W0.cell? ⟨w.heap.size, 1, none⟩ = some (.string Y1) ∧ W0.cell? ⟨w.heap.size, 2, none⟩ = some (.string Y2) ∧ W0.cell? ⟨w.heap.size, 3, none⟩ = some (.int .i64 x.2)) := by rw [hW0]; exact ⟨by simp [go_sem], by simp [go_sem], by simp [go_sem], by simp [go_sem]⟩
  have GW := hide hW0
  clear hW0
  have cc := hide (rcheck7_any _ l W0 ((unhide HV).below (unhide B0)))
  obtain ⟨z, hz⟩ : ∃ z, z = coolR l := ⟨_, rfl⟩
  rw [← hz] at cc
  have HZ := hide hz
  clear hz
  go_enter Try.func13, Try.ntmps13
  go_wp2_with fail
  rw [← unhide GW]
  refine (unhide cc).mono ?_
  rintro e w1 ⟨rfl, hw1⟩
  have B1 := hide (chain (unhide B0) hw1)
  have F1 : Hid (w1.cell? ⟨w.heap.size, 0, none⟩ = some (.string Y0) ∧ w1.cell? ⟨w.heap.size, 1, none⟩ = some (.string Y1) ∧ w1.cell? ⟨w.heap.size, 2, none⟩ = some (.string Y2) ∧ w1.cell? ⟨w.heap.size, 3, none⟩ = some (.int .i64 x.2)) := ⟨cell_kept hw1 (unhide F0).1, cell_kept hw1 (unhide F0).2.1, cell_kept hw1 (unhide F0).2.2.1, cell_kept hw1 (unhide F0).2.2.2⟩
  clear hw1 cc F0 B0 GW
  by_cases hz0 : z = 0
  case neg =>
    have hb := nz hz0
    have hfin := hide (unhide hbad z w1 (by rw [unhide HZ]; exact put_bad (by rw [← unhide HZ]; exact hz0)) (unhide B1))
    clear hz0 HZ hbad
    go_wp2_with fail
    exact unhide hfin
  subst hz0
  obtain ⟨z1, hz1⟩ : ∃ z, z = oneR x := ⟨_, rfl⟩
  rw [← hz1] at c1
  have HZ1 := hide hz1
  clear hz1
  obtain ⟨f0, f1, f2, f3⟩ := unhide F1
  go_wp2_with fail
  refine (unhide c1 _).mono ?_
  rintro e w2 ⟨rfl, hw2⟩
  have B2 := hide (chain (unhide B1) hw2)
  have F2 : Hid (w2.cell? ⟨w.heap.size, 0, none⟩ = some (.string Y0) ∧ w2.cell? ⟨w.heap.size, 1, none⟩ = some (.string Y1) ∧ w2.cell? ⟨w.heap.size, 2, none⟩ = some (.string Y2) ∧ w2.cell? ⟨w.heap.size, 3, none⟩ = some (.int .i64 x.2)) := ⟨cell_kept hw2 f0, cell_kept hw2 f1, cell_kept hw2 f2, cell_kept hw2 f3⟩
  clear hw2 c1 F1 B1 f0 f1 f2 f3
  by_cases hz0 : z1 = 0
  case neg =>
    have hb := nz hz0
    have hfin := hide (unhide hbad z1 w2 (by rw [unhide HZ1]; exact put_bad1 (unhide HZ).symm (by rw [← unhide HZ1]; exact hz0)) (unhide B2))
    clear hz0 HZ HZ1 hbad
    go_wp2_with fail
    exact unhide hfin
  subst hz0
  have h72 : n ≤ 72 := by have := (cool_ok.1 (unhide HZ).symm).1; rw [← unhide HN] at this; exact this
  obtain ⟨P, hP⟩ : ∃ P, P = putF x l false := ⟨_, rfl⟩
  have hPl : P.length ≤ n + 1 := by rw [hP, unhide HN]; exact put_len x l false
  have hput : Hid (putR l x = if 72 < P.length then ([], 3) else (P, 0)) := by
    show _ = _
    unfold putR
    rw [if_neg (by simp [(unhide HZ).symm]), if_neg (by simp [(unhide HZ1).symm]), ← hP]
  have HP : Hid (P = [] ++ putF x (l.drop 0) false) := hP
  clear hP HZ HZ1
  go_wp2_with fail
  go_loopw [8, 9, 10] (fun s d i W => ∃ (k : Nat) (dn : Bool) (out : List VCool), k ≤ n ∧ i = .int .i64 k ∧ d = .bool dn ∧ Hid (P = out ++ putF x (l.drop k) dn) ∧ Hid (OwnC W w2.heap.size s out) ∧ Hid (Below w2.heap.size w2 W)) (fun _ _ i _ => n - (intOf i).toNat)
  case atStart => exact ⟨0, false, [], Nat.zero_le _, rfl, rfl, unhide HP, ownC_nil _ _, Below.refl _ _⟩
  case round =>
    obtain ⟨k, dn, out, hk, rfl, rfl, hPe, hrow, hbel⟩ := hrel
    by_cases hlt : k < n
    · have hlk : k < l.length := by rw [← unhide HN]; exact hlt
      obtain ⟨b, o, rfl, hat⟩ := ((unhide HV).below (unhide B2)).at hlk
      have hst := hide (putF_step (c := x) hlk dn)
      obtain ⟨y, hy⟩ : ∃ y, y = l[k] := ⟨_, rfl⟩
      rw [← hy] at hat hst
      obtain ⟨h0123, x3⟩ := cool_at.1 hat
      obtain ⟨⟨x0, hs0⟩, ⟨x1, hs1⟩, x2, hs2⟩ := off_at.1 h0123
      have HO : Hid (okO y.1) := ⟨hs0, hs1, hs2⟩
      rw [show coolK.size = 4 from rfl] at x0 x1 x2 x3
      have hob := unhide HOB y.1
      obtain ⟨q, hq⟩ : ∃ q, q = (y.1 == x.1) := ⟨_, rfl⟩
      rw [← hq] at hob
      have cless := hide (unhide HLS y.1)
      obtain ⟨g, hg⟩ : ∃ g, g = lessO x.1 y.1 := ⟨_, rfl⟩
      rw [← hg] at cless
      obtain ⟨X0, hX0⟩ : ∃ X, X = bytesT y.1.1 := ⟨_, rfl⟩
      obtain ⟨X1, hX1⟩ : ∃ X, X = bytesT y.1.2.1 := ⟨_, rfl⟩
      obtain ⟨X2, hX2⟩ : ∃ X, X = bytesT y.1.2.2 := ⟨_, rfl⟩
      have HXX : Hid (X0 = bytesT y.1.1 ∧ X1 = bytesT y.1.2.1 ∧ X2 = bytesT y.1.2.2) := ⟨hX0, hX1, hX2⟩
      rw [← hX0, ← hX1, ← hX2] at hob cless
      rw [← hX0] at x0
      rw [← hX1] at x1
      rw [← hX2] at x2
      have TW2 : Hid (Two w2 w.heap.size b (o + k * 4) Y0 Y1 Y2 X0 X1 X2 x.2 y.2) := ⟨(unhide F2).1, (unhide F2).2.1, (unhide F2).2.2.1, (unhide F2).2.2.2, x0, x1, x2, x3⟩
      have TW := hide ((unhide TW2).below (unhide hbel))
      have qT : ∀ W, (binOp .eql 23 (.agg #[.string X0, .string X1, .string X2]) (.agg #[.string Y0, .string Y1, .string Y2])).run Try.prog W = .ok (.bool q) W := fun W => by rw [eqlOff, hob]
      have qG := offGuard
      have hsame : Hid (q = true → P = (out ++ [x]) ++ putF x (l.drop (k + 1)) true) := fun h => by
        rw [h] at hq
        rw [unhide hPe, unhide hst, if_pos (eq_of_beq hq.symm)]; simp
      have hahead : Hid (q = false → (g && !dn) = true → P = (out ++ [x] ++ [y]) ++ putF x (l.drop (k + 1)) true) := fun h h2 => by
        rw [h] at hq
        rw [unhide hPe, unhide hst, if_neg (by have := hq.symm; simpa using this), if_pos (by rw [← hg]; exact h2)]; simp
      have hrest : Hid (q = false → (g && !dn) = false → P = (out ++ [y]) ++ putF x (l.drop (k + 1)) dn) := fun h h2 => by
        rw [h] at hq
        rw [unhide hPe, unhide hst, if_neg (by have := hq.symm; simpa using this), if_neg (by rw [← hg, h2]; simp)]; simp
      have hS : (fun W => Hid (Below wr.heap.size wr W) ∧ W.cell? ⟨b, o + k * 4, none⟩ = some (.string X0) ∧ W.cell? ⟨b, o + k * 4 + 1, none⟩ = some (.string X1) ∧ W.cell? ⟨b, o + k * 4 + 2, none⟩ = some (.string X2) ∧ W.cell? ⟨w.heap.size, 0, none⟩ = some (.string Y0) ∧ W.cell? ⟨w.heap.size, 1, none⟩ = some (.string Y1) ∧ W.cell? ⟨w.heap.size, 2, none⟩ = some (.string Y2)) wr := ⟨Below.refl _ _, (unhide TW).x0, (unhide TW).x1, (unhide TW).x2, (unhide TW).y0, (unhide TW).y1, (unhide TW).y2⟩
      simp only at hS
      have i0 : (0 : Int) ≤ (k : Int) := by omega
      have i1 : (k : Int) < (n : Int) := by omega
      have hol : Hid (out.length ≤ P.length) := by show _ ≤ _; rw [unhide hPe]; simp
      clear hX0 hX1 hX2 hq hg hob hy hat h0123 hlk hs0 hs1 hs2 x0 x1 x2 x3 hst hPe
      go_wp2_with fail
      go_region_held3 (fun W => Hid (Below wr.heap.size wr W) ∧ W.cell? ⟨b, o + k * 4, none⟩ = some (.string X0) ∧ W.cell? ⟨b, o + k * 4 + 1, none⟩ = some (.string X1) ∧ W.cell? ⟨b, o + k * 4 + 2, none⟩ = some (.string X2) ∧ W.cell? ⟨w.heap.size, 0, none⟩ = some (.string Y0) ∧ W.cell? ⟨w.heap.size, 1, none⟩ = some (.string Y1) ∧ W.cell? ⟨w.heap.size, 2, none⟩ = some (.string Y2))
        (first | (with_reducible exact hS) | (with_reducible assumption) | (with_reducible refine c6_drew7 ?_; with_reducible assumption))
        (fail)
      rename_i hH
      clear hS
      have TW4 := hide ((unhide TW).below (unhide hH.1))
      have R4 := hide ((unhide hrow).below (unhide hH.1))
      have B4 := hide (chain (unhide hbel) (unhide hH.1))
      clear qT qG TW hrow hbel hH
      have HW : Hid True := trivial
      generalize hw4 : wr.drew = w4 at *
      clear hw4
      cases q with
      | true =>
        have hnx := hide (unhide hsame (by simp))
        have LS := hide (one_cT (W := w4) x (unhide HX) (unhide HY).1 (unhide HY).2.1 (unhide HY).2.2)
        have BA : Hid (Below w4.heap.size w4 (w4.alloc (.cells #[.string Y0, .string Y1, .string Y2, .int .i64 x.2] 25))) := boxb _
        have RA := hide ((unhide R4).below (unhide BA))
        have BB := hide (chain (unhide B4) (unhide BA))
        have hb1 : Hid ((out.length + [x].length) * 56 ≤ 140737488355328) := by have := unhide hol; show (out.length + 1) * 56 ≤ _; omega
        obtain ⟨f0, f1, f2, f3, _, _, _, _⟩ := unhide TW4
        clear hsame hahead hrest R4 B4 BA cless
        go_wp2_with (at_builtin; refine append_cools rfl _ _ rfl w2.heap.size _ out rfl (unhide RA) _ [x] rfl (unhide LS) (unhide hb1) (unhide BB).size ?_; intro v' w9 hown hg; have H9 := hide (And.intro hown hg); clear hown hg f0 f1 f2 f3; go_frame)
        obtain ⟨hown, hg⟩ := unhide H9
        have B9 := hide (grow_on (unhide BB) (unhide RA).1 hg)
        have R9 := hide hown
        clear H9 hown hg
        go_wp2_with fail
        go_roundw
        case rel => exact ⟨k + 1, true, out ++ [x], by omega, by go_num, rfl, hnx, R9, B9⟩
        case measure => simp [intOf]; omega
      | false =>
        have hS : (fun W => Hid (Below w4.heap.size w4 W) ∧ W.cell? ⟨b, o + k * 4, none⟩ = some (.string X0) ∧ W.cell? ⟨b, o + k * 4 + 1, none⟩ = some (.string X1) ∧ W.cell? ⟨b, o + k * 4 + 2, none⟩ = some (.string X2) ∧ W.cell? ⟨w.heap.size, 0, none⟩ = some (.string Y0) ∧ W.cell? ⟨w.heap.size, 1, none⟩ = some (.string Y1) ∧ W.cell? ⟨w.heap.size, 2, none⟩ = some (.string Y2)) w4 := ⟨Below.refl _ _, (unhide TW4).x0, (unhide TW4).x1, (unhide TW4).x2, (unhide TW4).y0, (unhide TW4).y1, (unhide TW4).y2⟩
        simp only at hS
        clear hsame
        go_wp2_with fail
        go_region_held3 (fun W => Hid (Below w4.heap.size w4 W) ∧ W.cell? ⟨b, o + k * 4, none⟩ = some (.string X0) ∧ W.cell? ⟨b, o + k * 4 + 1, none⟩ = some (.string X1) ∧ W.cell? ⟨b, o + k * 4 + 2, none⟩ = some (.string X2) ∧ W.cell? ⟨w.heap.size, 0, none⟩ = some (.string Y0) ∧ W.cell? ⟨w.heap.size, 1, none⟩ = some (.string Y1) ∧ W.cell? ⟨w.heap.size, 2, none⟩ = some (.string Y2))
          (first | (with_reducible exact hS) | (with_reducible assumption) | (with_reducible refine c6_drew7 ?_; with_reducible assumption) | (refine c6_call7 (by assumption) ?_; with_reducible assumption))
          (first | (go_at_call 26; refine (unhide cless _).mono ?_; rintro e w9 ⟨rfl, hw9⟩))
        rename_i hH
        have TW5 := hide ((unhide TW4).below (unhide hH.1))
        have R5 := hide ((unhide R4).below (unhide hH.1))
        have B5 := hide (chain (unhide B4) (unhide hH.1))
        have hol5 : Hid (out.length ≤ P.length) := hol
        clear hS hH TW4 R4 B4 cless
        by_cases hgd : (g && !dn) = true
        · obtain ⟨rfl, rfl⟩ : g = true ∧ dn = false := by cases g <;> cases dn <;> first | exact ⟨rfl, rfl⟩ | cases hgd
          have hnx := hide (unhide hahead (by simp) (by simp))
          have LS := hide (one_cW B5 x (unhide HX) (unhide HY).1 (unhide HY).2.1 (unhide HY).2.2)
          have BA := hide (boxW B5 (.cells #[.string Y0, .string Y1, .string Y2, .int .i64 x.2] 25))
          have RA := hide ((unhide R5).below (unhide BA))
          have BB := hide (chain (unhide B5) (unhide BA))
          have hb1 : Hid ((out.length + [x].length) * 56 ≤ 140737488355328) := by have := unhide hol; show _ ≤ _; simp; omega
          have hb2 : Hid (((out ++ [x]).length + [y].length) * 56 ≤ 140737488355328) := by have := unhide hol; show _ ≤ _; simp; omega
          obtain ⟨f0, f1, f2, f3, f4, f5, f6, f7⟩ := unhide TW5
          clear hahead hrest
          go_wp2_with (first
            | (at_builtin; refine append_cools rfl _ _ rfl w2.heap.size _ out rfl (unhide RA) _ [x] rfl (unhide LS) (unhide hb1) (unhide BB).size ?_; intro v' w9 hown hg; have B6 := hide (grow_on (unhide BB) (unhide RA).1 hg); have R6 := hide hown; clear hown hg f0 f1 f2 f3 f4 f5 f6 f7; have TW6 := hide ((unhide TW2).below (unhide B6)); have LS6 := hide (one_cW B6 y (unhide HO) (unhide HXX).1 (unhide HXX).2.1 (unhide HXX).2.2); have BA6 := hide (boxW B6 (.cells #[.string X0, .string X1, .string X2, .int .i64 y.2] 25)); have RA6 := hide ((unhide R6).below (unhide BA6)); have BB6 := hide (chain (unhide B6) (unhide BA6)); clear BA6 R6; obtain ⟨f0, f1, f2, f3, f4, f5, f6, f7⟩ := unhide TW6; clear TW6; go_frame)
            | (at_builtin; refine append_cools rfl _ _ rfl w2.heap.size _ (out ++ [x]) rfl (unhide RA6) _ [y] rfl (unhide LS6) (unhide hb2) (unhide BB6).size ?_; intro v' w9 hown hg; have B8 := hide (grow_on (unhide BB6) (unhide RA6).1 hg); have R8 := hide hown; clear hown hg f0 f1 f2 f3 f4 f5 f6 f7; go_frame))
          go_wp2_with fail
          go_roundw
          case rel => exact ⟨k + 1, true, out ++ [x] ++ [y], by omega, by go_num, rfl, hnx, R8, B8⟩
          case measure => simp [intOf]; omega
        · have hgd2 : (g && !dn) = false := by simpa using hgd
          have hnx := hide (unhide hrest (by simp) hgd2)
          clear hgd hahead hrest
          cases g <;> cases dn <;> first | (cases hgd2; done) | skip
          all_goals
            clear hgd2
            have LS := hide (one_cW B5 y (unhide HO) (unhide HXX).1 (unhide HXX).2.1 (unhide HXX).2.2)
            have BA := hide (boxW B5 (.cells #[.string X0, .string X1, .string X2, .int .i64 y.2] 25))
            have RA := hide ((unhide R5).below (unhide BA))
            have BB := hide (chain (unhide B5) (unhide BA))
            have hb1 : Hid ((out.length + [y].length) * 56 ≤ 140737488355328) := by have := unhide hol; show _ ≤ _; simp; omega
            obtain ⟨f0, f1, f2, f3, f4, f5, f6, f7⟩ := unhide TW5
            go_wp2_with (at_builtin; refine append_cools rfl _ _ rfl w2.heap.size _ out rfl (unhide RA) _ [y] rfl (unhide LS) (unhide hb1) (unhide BB).size ?_; intro v' w9 hown hg; have H9 := hide (And.intro hown hg); clear hown hg f0 f1 f2 f3 f4 f5 f6 f7; go_frame)
            obtain ⟨hown, hg⟩ := unhide H9
            have B6 := hide (grow_on (unhide BB) (unhide RA).1 hg)
            have R6 := hide hown
            have TW6 := hide ((unhide TW2).below (unhide B6))
            clear H9 hown hg LS BA RA BB hb1
            go_wp2_with fail
            go_roundw
            case rel => exact ⟨k + 1, _, out ++ [y], by omega, by go_num, rfl, hnx, R6, B6⟩
            case measure => simp [intOf]; omega
    · obtain rfl : k = n := by omega
      have hd0 : l.drop k = [] := List.drop_eq_nil_of_le (by rw [← unhide HN]; exact Nat.le_refl _)
      rw [hd0] at hPe
      clear hd0
      cases dn with
      | true =>
        have hPo : P = out := by have := unhide hPe; unfold putF at this; simpa using this
        subst hPo
        obtain ⟨sa, sc, rfl⟩ := (unhide hrow).val
        by_cases h73 : 72 < P.length
        · have hfin := hide (unhide hbad 3 wr (by rw [unhide hput, if_pos h73]) (chain (unhide B2) (unhide hbel)))
          have hb : decide ((72 : Int) < ((P.length : Nat) : Int)) = true := by simp; omega
          generalize hm : P.length = m at *
          clear hput hbad hPe
          go_wp2_with fail
          exact unhide hfin
        · have hfin : Hid (PP (.returned (.tuple #[.slice sa P.length sc, .int .i64 0])) wr) := by
            show PP _ _
            rw [unhide HPP, unhide hput, if_neg h73]
            exact ⟨⟨_, rfl, (unhide hrow).mono (unhide B2).size⟩, chain (unhide B2) (unhide hbel)⟩
          have hb : decide ((72 : Int) < ((P.length : Nat) : Int)) = false := by simp; omega
          clear hput hbad hPe hrow
          generalize hm : P.length = m at *
          go_wp2_with fail
          exact unhide hfin
      | false =>
        have hPo : Hid (P = out ++ [x]) := by have := unhide hPe; unfold putF at this; show _ = _; simpa using this
        have hol : Hid (out.length ≤ P.length) := by show _ ≤ _; rw [unhide hPo]; simp
        have LS := hide (one_cW hbel x (unhide HX) (unhide HY).1 (unhide HY).2.1 (unhide HY).2.2)
        have BA := hide (boxW hbel (.cells #[.string Y0, .string Y1, .string Y2, .int .i64 x.2] 25))
        have RA := hide ((unhide hrow).below (unhide BA))
        have BB := hide (chain (unhide hbel) (unhide BA))
        have hb1 : Hid ((out.length + [x].length) * 56 ≤ 140737488355328) := by have := unhide hol; show _ ≤ _; simp; omega
        have f0 := cell_kept (unhide hbel) (unhide F2).1
        have f1 := cell_kept (unhide hbel) (unhide F2).2.1
        have f2 := cell_kept (unhide hbel) (unhide F2).2.2.1
        have f3 := cell_kept (unhide hbel) (unhide F2).2.2.2
        obtain ⟨m, hm⟩ : ∃ m, m = P.length := ⟨_, rfl⟩
        have HM := hide hm
        rw [← hm] at hput hPl
        clear hm hPe
        have hres : Hid (∀ (s : Value) (W : World), OwnC W w2.heap.size s P → Below w2.heap.size w2 W → ∃ sa sc, s = .slice sa m sc ∧ Hid (72 < m → PP (.returned (.tuple #[.slice none 0 0, .int .i64 3])) W) ∧ Hid (¬ 72 < m → PP (.returned (.tuple #[.slice sa m sc, .int .i64 0])) W)) := fun s W h1 h2 => by
          obtain ⟨sa, sc, rfl⟩ := h1.val
          rw [← unhide HM] at h1 ⊢
          refine ⟨sa, sc, rfl, fun h3 => unhide hbad 3 W (by rw [unhide hput, if_pos h3]) (chain (unhide B2) h2), fun h3 => ?_⟩
          show PP _ _
          rw [unhide HPP, unhide hput, if_neg h3]
          exact ⟨⟨_, rfl, h1.mono (unhide B2).size⟩, chain (unhide B2) h2⟩
        by_cases h73 : 72 < m
        · have hb : decide ((72 : Int) < (m : Int)) = true := by simp; omega
          go_wp2_with (at_builtin; refine append_cools rfl _ _ rfl w2.heap.size _ out rfl (unhide RA) _ [x] rfl (unhide LS) (unhide hb1) (unhide BB).size ?_; intro v' w9 hown hg; obtain ⟨sa, sc, hsv, h3, h4⟩ := unhide hres v' w9 (by rw [unhide hPo]; exact hown) (grow_on (unhide BB) (unhide RA).1 hg); subst hsv; have HF := hide (unhide h3 h73); clear hown hg f0 f1 f2 f3 h3 h4; go_frame)
          exact unhide HF
        · have hb : decide ((72 : Int) < (m : Int)) = false := by simp; omega
          go_wp2_with (at_builtin; refine append_cools rfl _ _ rfl w2.heap.size _ out rfl (unhide RA) _ [x] rfl (unhide LS) (unhide hb1) (unhide BB).size ?_; intro v' w9 hown hg; obtain ⟨sa, sc, hsv, h3, h4⟩ := unhide hres v' w9 (by rw [unhide hPo]; exact hown) (grow_on (unhide BB) (unhide RA).1 hg); subst hsv; have HF := hide (unhide h4 h73); clear hown hg f0 f1 f2 f3 h3 h4; go_frame)
          exact unhide HF
end Go.Proofs.Ytcpgodkgdceocaa
