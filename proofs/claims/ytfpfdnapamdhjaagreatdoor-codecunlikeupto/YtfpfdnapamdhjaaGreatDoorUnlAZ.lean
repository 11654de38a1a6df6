/- CodecUnlike: the opener, and the walk -/
import Derived.Test.YtfpfdnapamdhjaaGreatDoorDcAGZ
import Derived.Test.YtfpfdnapamdhjaaGreatDoorAmAGZ
import Derived.Test.YtfpfdnapamdhjaaGreatDoorO8UGZ
import Derived.SizedLaws
import Derived.BigQuiet
import Derived.Deep.QuietTactic
namespace Go.Proofs.YtfpfdnapamdhjaaGreatDoor.Val
section
variable {α : Type}
theorem cod_same (A : Cod α) {x y : α} (hx : A.ok x) (hy : A.ok y) (h : A.w x = A.w y) : x = y := by
  have h1 := A.back [] hx
  have h2 := A.back [] hy
  rw [h, h2] at h1
  injection h1 with h1
  injection h1 with h1
  exact h1.symm
theorem cod_same_iff (K : Kind α) {x y : α} (hx : K.chk x = 0) (hy : K.chk y = 0) : K.c.w x = K.c.w y ↔ x = y :=
  ⟨fun h => cod_same K.c (K.small x hx).1 (K.small y hy).1 h, fun h => by rw [h]⟩
end
end Go.Proofs.YtfpfdnapamdhjaaGreatDoor.Val
/- Layer 9: a claim opened -/
namespace Go.Proofs.YtfpfdnapamdhjaaGreatDoor
open Go.ChangeShapes Go.WideShapes Go.ChangeAt Go.RowKit Suf Val

section
variable {H : Type} {enc : TypeId × Value → H} {W : World} {base : Nat} {spare : Nat → Bool} {held : Bool}
set_option maxRecDepth 100000 in
theorem open_clm9 {v : Value} {d : DataW H} {p : List MemPlace} {r : Reach} {b0 : Nat} (hv : Value.okWide Tryz.prog W r b0 37 v) (h : DataW.Trod enc Tryz.prog W base spare held 37 v d p) (hz : ∀ k ∈ d.weights Tryz.prog 37, k ≤ reachBytes) :
    ∃ (x : VClaim) (c1 : Value), v = clmA x c1 ∧ ClmIn W x c1 := by
  obtain ⟨cs, rfl, hsz⟩ := okWide_struct Tryz.underlying37 hv
  obtain ⟨fuel, hf⟩ := h
  obtain ⟨x, hx⟩ := opens_clm _ _ _ hf hz
  obtain ⟨_, _, e0, ⟨rfl, s0⟩, _, _, rfl, ⟨rfl, s1⟩, _, _, rfl, rfl, _, _, rfl, ⟨_, _, rfl, ⟨rfl, o0⟩, _, _, rfl, ⟨rfl, o1⟩, ⟨rfl, o2⟩⟩, _, _, rfl, rfl, _, _, rfl, ⟨_, _, rfl, rfl, rfl⟩, _, _, rfl, ⟨c, rfl, l6, b6⟩, _, _, rfl, rfl, _, _, rfl, ⟨rfl, s8⟩, _, _, rfl, rfl, _, _, rfl, rfl, rfl⟩ := hx
  refine ⟨x, c, ?_, s0, s1, ⟨o0, o1, o2⟩, l6, s8⟩
  have hc : cs.toList = [.string (bytesT x.name), .string (bytesT x.pool), .int .i64 x.gen, .string (bytesT x.offer.1), .string (bytesT x.offer.2.1), .string (bytesT x.offer.2.2), .int .i64 x.price, .int .i64 x.cap.1, .int .i64 x.cap.2, c, .int .i64 x.tryN, .string (bytesT x.id), .int .i64 x.phase, .int .i64 x.born, .bool x.marked] := e0
  have : cs = #[.string (bytesT x.name), .string (bytesT x.pool), .int .i64 x.gen, .string (bytesT x.offer.1), .string (bytesT x.offer.2.1), .string (bytesT x.offer.2.2), .int .i64 x.price, .int .i64 x.cap.1, .int .i64 x.cap.2, c, .int .i64 x.tryN, .string (bytesT x.id), .int .i64 x.phase, .int .i64 x.born, .bool x.marked] := by
    apply Array.toList_inj.1
    exact hc
  rw [this]; rfl
end
end Go.Proofs.YtfpfdnapamdhjaaGreatDoor
/- CodecUnlike: the walk -/
namespace Go.Proofs.YtfpfdnapamdhjaaGreatDoor.codecUnlike
open Go.RowKit Suf Val

attribute [local go_sem] Am.eq2
theorem txt_beq9 (a b : Txt) : ((bytesT a).toList == (bytesT b).toList) = (a == b) := by rw [Lib.toList_data, Lib.toList_data]; rfl
/-- The two claims are the same, but for the offers that could stand in for theirs: of these, how many there are. -/
def sameC (x y : VClaim) : Prop := x.name = y.name ∧ x.pool = y.pool ∧ x.gen = y.gen ∧ x.offer = y.offer ∧ x.price = y.price ∧ x.cap = y.cap ∧ x.tryN = y.tryN ∧ x.id = y.id ∧ x.phase = y.phase ∧ x.born = y.born ∧ x.marked = y.marked ∧ x.opts.length = y.opts.length
instance (x y : VClaim) : Decidable (sameC x y) := by unfold sameC; infer_instance
theorem off_beq (a b : VOff) : ((((bytesT a.1).toList == (bytesT b.1).toList) && (((bytesT a.2.1).toList == (bytesT b.2.1).toList) && ((bytesT a.2.2).toList == (bytesT b.2.2).toList))) = true) ↔ a = b := by
  rw [txt_beq9, txt_beq9, txt_beq9]
  obtain ⟨a1, a2, a3⟩ := a
  obtain ⟨b1, b2, b3⟩ := b
  simp
def agree (x y : VClaim) (b : Bool) (j : Nat) : Prop := b = true ↔ (sameC x y ∧ x.opts.take j = y.opts.take j)
theorem agree_no {x y : VClaim} {j : Nat} (h : agree x y false j) : agree x y false (j + 1) :=
  ⟨fun e => (by cases e), fun ⟨hs, ht⟩ => h.2 ⟨hs, by
    have := congrArg (List.take j) ht
    rwa [List.take_take, List.take_take, Nat.min_eq_left (Nat.le_succ j)] at this⟩⟩
theorem agree_yes {x y : VClaim} {j : Nat} (h : agree x y true j) (hx : j < x.opts.length) (hy : j < y.opts.length) {r : Bool} (hr : r = true ↔ x.opts[j] = y.opts[j]) : agree x y r (j + 1) := by
  constructor
  · intro e
    refine ⟨(h.1 rfl).1, ?_⟩
    rw [List.take_succ_eq_append_getElem hx, List.take_succ_eq_append_getElem hy, (h.1 rfl).2, hr.1 e]
  · rintro ⟨_, ht⟩
    rw [List.take_succ_eq_append_getElem hx, List.take_succ_eq_append_getElem hy, (h.1 rfl).2] at ht
    exact hr.2 (by have := List.append_cancel_left ht; injection this)
theorem sameC_eq {x y : VClaim} : (sameC x y ∧ x.opts = y.opts) ↔ x = y := by
  constructor
  · rintro ⟨⟨g1, g2, g3, g4, g5, g6, g7, g8, g9, g10, g11, _⟩, ho⟩
    cases x; cases y
    simp only at g1 g2 g3 g4 g5 g6 g7 g8 g9 g10 g11 ho
    subst g1 g2 g3 g4 g5 g6 g7 g8 g9 g10 g11 ho
    rfl
  · rintro rfl
    exact ⟨⟨rfl, rfl, rfl, rfl, rfl, rfl, rfl, rfl, rfl, rfl, rfl, rfl⟩, rfl⟩
theorem agree_end {x y : VClaim} {b : Bool} (h : agree x y b x.opts.length) : b = true ↔ x = y := by
  unfold agree at h
  rw [h, ← sameC_eq]
  constructor
  · rintro ⟨hs, ht⟩
    refine ⟨hs, ?_⟩
    rwa [List.take_length, hs.2.2.2.2.2.2.2.2.2.2.2, List.take_length] at ht
  · rintro ⟨hs, ho⟩
    exact ⟨hs, by rw [ho]⟩
set_option maxRecDepth 100000 in
set_option maxHeartbeats 64000000 in
theorem walk (x y : VClaim) (u v : Value) (w : World) (hx : ClmIn w x u) (hy : ClmIn w y v) :
    Calls Tryz.prog 6 #[clmA x u, clmA y v] w fun e w' => e = .returned (.bool true) ∧ Below w.heap.size w w' := by
  have k1 : Hid (∀ V, Below w.heap.size w V → Calls Tryz.prog 8 #[.iface 37 (clmA x u)] V (EncP clmJ x V)) := fun V hb => enc_clm x u V (hx.below hb)
  have k2 : Hid (∀ V, Below w.heap.size w V → Calls Tryz.prog 8 #[.iface 37 (clmA y v)] V (EncP clmJ y V)) := fun V hb => enc_clm y v V (hy.below hb)
  have HX := hide hx
  have HY := hide hy
  obtain ⟨au, cu, hu⟩ := hx.ops.val
  obtain ⟨av, cv, hv⟩ := hy.ops.val
  obtain ⟨n1, hn1⟩ : ∃ n, n = x.opts.length := ⟨_, rfl⟩
  obtain ⟨n2, hn2⟩ : ∃ n, n = y.opts.length := ⟨_, rfl⟩
  rw [← hn1] at hu
  rw [← hn2] at hv
  subst hu hv
  unfold clmA at k1 k2 ⊢
  have N1 := hide hn1
  have N2 := hide hn2
  clear hx hy hn1 hn2
  obtain ⟨W1, hW1⟩ : ∃ W, W = (w.alloc (.cells #[.string (bytesT x.name), .string (bytesT x.pool), .int .i64 x.gen, .string (bytesT x.offer.1), .string (bytesT x.offer.2.1), .string (bytesT x.offer.2.2), .int .i64 x.price, .int .i64 x.cap.1, .int .i64 x.cap.2, .slice au n1 cu, .int .i64 x.tryN, .string (bytesT x.id), .int .i64 x.phase, .int .i64 x.born, .bool x.marked] 37)).alloc (.cells #[.string (bytesT y.name), .string (bytesT y.pool), .int .i64 y.gen, .string (bytesT y.offer.1), .string (bytesT y.offer.2.1), .string (bytesT y.offer.2.2), .int .i64 y.price, .int .i64 y.cap.1, .int .i64 y.cap.2, .slice av n2 cv, .int .i64 y.tryN, .string (bytesT y.id), .int .i64 y.phase, .int .i64 y.born, .bool y.marked] 37) := ⟨_, rfl⟩
  have HA0 : Hid (RowAt w w.heap.size #[.string (bytesT x.name), .string (bytesT x.pool), .int .i64 x.gen, .string (bytesT x.offer.1), .string (bytesT x.offer.2.1), .string (bytesT x.offer.2.2), .int .i64 x.price, .int .i64 x.cap.1, .int .i64 x.cap.2, .slice au n1 cu, .int .i64 x.tryN, .string (bytesT x.id), .int .i64 x.phase, .int .i64 x.born, .bool x.marked] 37 W1) := by
    show RowAt _ _ _ _ _
    rw [hW1]
    exact (row_new _ _ _).below (boxw _)
  have HB0 : Hid (RowAt w (w.heap.size + 1) #[.string (bytesT y.name), .string (bytesT y.pool), .int .i64 y.gen, .string (bytesT y.offer.1), .string (bytesT y.offer.2.1), .string (bytesT y.offer.2.2), .int .i64 y.price, .int .i64 y.cap.1, .int .i64 y.cap.2, .slice av n2 cv, .int .i64 y.tryN, .string (bytesT y.id), .int .i64 y.phase, .int .i64 y.born, .bool y.marked] 37 W1) := by
    show RowAt _ _ _ _ _
    rw [hW1]
    exact ⟨chain (boxb _) (boxb _), by have := heap_alloc_new (w.alloc (.cells #[.string (bytesT x.name), .string (bytesT x.pool), .int .i64 x.gen, .string (bytesT x.offer.1), .string (bytesT x.offer.2.1), .string (bytesT x.offer.2.2), .int .i64 x.price, .int .i64 x.cap.1, .int .i64 x.cap.2, .slice au n1 cu, .int .i64 x.tryN, .string (bytesT x.id), .int .i64 x.phase, .int .i64 x.born, .bool x.marked] 37)) (.cells #[.string (bytesT y.name), .string (bytesT y.pool), .int .i64 y.gen, .string (bytesT y.offer.1), .string (bytesT y.offer.2.1), .string (bytesT y.offer.2.2), .int .i64 y.price, .int .i64 y.cap.1, .int .i64 y.cap.2, .slice av n2 cv, .int .i64 y.tryN, .string (bytesT y.id), .int .i64 y.phase, .int .i64 y.born, .bool y.marked] 37); simpa using this⟩
  have GW := hide hW1
  clear hW1
  go_enter Tryz.func6, Tryz.ntmps6
  go_upto_region 1 with fail
  rw [← unhide GW]
  clear GW
  go_wp2_with fail
  refine (live9_any _).mono ?_
  rintro e w2 ⟨rfl, hb⟩
  have HA1 := hide ((unhide HA0).below hb)
  have HB1 := hide ((unhide HB0).below hb)
  clear hb HA0 HB0
  go_upto_region 2 with fail
  refine wp_region_list ?_
  refine wpList_load_row rfl 37 _ rfl w.heap.size rfl 37 _ _ _ (unhide HA1).row Tryz.underlying37 rfl (by kernel_rfl) ?_
  go_wp2_with fail
  refine (unhide k1 _ (unhide HA1).gr).mono ?_
  rintro e w3 ⟨hb, hp⟩
  have HA2 := hide ((unhide HA1).below hb)
  have HB2 := hide ((unhide HB1).below hb)
  clear hb HA1 HB1
  rcases hp with ⟨hz1, a1, m1, c1, rfl, hm1, ho1⟩ | ⟨hz, rfl⟩
  · have HL1 := hide (own_lst ho1 (by have := (clmJ.small x hz1).2; omega))
    have HZ1 := hide hz1
    have HM1 := hide hm1
    clear ho1 hz1 hm1
    go_upto_region 3 with fail
    refine wp_region_list ?_
    refine wpList_load_row rfl 37 _ rfl (w.heap.size + 1) rfl 37 _ _ _ (unhide HB2).row Tryz.underlying37 rfl (by kernel_rfl) ?_
    go_wp2_with fail
    refine (unhide k2 _ (unhide HB2).gr).mono ?_
    rintro e w4 ⟨hb, hp⟩
    have HA := hide ((unhide HA2).below hb)
    have HB := hide ((unhide HB2).below hb)
    have HC1 := hide hb
    clear hb HA2 HB2
    rcases hp with ⟨hz2, a2, m2, c2, rfl, hm2, ho2⟩ | ⟨hz, rfl⟩
    · have HL2 := hide (own_lst ho2 (by have := (clmJ.small y hz2).2; omega))
      have HZ2 := hide hz2
      have HM2 := hide hm2
      clear ho2 hz2 hm2
      go_upto_region 6 with fail
      have c0 := (unhide HA).at 0 (v := .string (bytesT x.name)) rfl
      have d0 := (unhide HB).at 0 (v := .string (bytesT y.name)) rfl
      have c1 := (unhide HA).at 1 (v := .string (bytesT x.pool)) rfl
      have d1 := (unhide HB).at 1 (v := .string (bytesT y.pool)) rfl
      have c2 := (unhide HA).at 2 (v := .int .i64 x.gen) rfl
      have d2 := (unhide HB).at 2 (v := .int .i64 y.gen) rfl
      have c3 := (unhide HA).at 3 (v := .string (bytesT x.offer.1)) rfl
      have d3 := (unhide HB).at 3 (v := .string (bytesT y.offer.1)) rfl
      have c4 := (unhide HA).at 4 (v := .string (bytesT x.offer.2.1)) rfl
      have d4 := (unhide HB).at 4 (v := .string (bytesT y.offer.2.1)) rfl
      have c5 := (unhide HA).at 5 (v := .string (bytesT x.offer.2.2)) rfl
      have d5 := (unhide HB).at 5 (v := .string (bytesT y.offer.2.2)) rfl
      have c6 := (unhide HA).at 6 (v := .int .i64 x.price) rfl
      have d6 := (unhide HB).at 6 (v := .int .i64 y.price) rfl
      have c7 := (unhide HA).at 7 (v := .int .i64 x.cap.1) rfl
      have d7 := (unhide HB).at 7 (v := .int .i64 y.cap.1) rfl
      have c8 := (unhide HA).at 8 (v := .int .i64 x.cap.2) rfl
      have d8 := (unhide HB).at 8 (v := .int .i64 y.cap.2) rfl
      have c9 := (unhide HA).at 9 (v := .slice au n1 cu) rfl
      have d9 := (unhide HB).at 9 (v := .slice av n2 cv) rfl
      have c10 := (unhide HA).at 10 (v := .int .i64 x.tryN) rfl
      have d10 := (unhide HB).at 10 (v := .int .i64 y.tryN) rfl
      have c11 := (unhide HA).at 11 (v := .string (bytesT x.id)) rfl
      have d11 := (unhide HB).at 11 (v := .string (bytesT y.id)) rfl
      have c12 := (unhide HA).at 12 (v := .int .i64 x.phase) rfl
      have d12 := (unhide HB).at 12 (v := .int .i64 y.phase) rfl
      have c13 := (unhide HA).at 13 (v := .int .i64 x.born) rfl
      have d13 := (unhide HB).at 13 (v := .int .i64 y.born) rfl
      have c14 := (unhide HA).at 14 (v := .bool x.marked) rfl
      have d14 := (unhide HB).at 14 (v := .bool y.marked) rfl
      obtain ⟨same, hsame⟩ : ∃ b : Bool, (b = true ↔ sameC x y) := ⟨decide (sameC x y), by simp⟩
      obtain ⟨p, hp⟩ : ∃ p, p = x.marked := ⟨_, rfl⟩
      obtain ⟨q, hq⟩ : ∃ p, p = y.marked := ⟨_, rfl⟩
      rw [← hp] at HA c14 ⊢
      rw [← hq] at HB d14 ⊢
      have HP := hide hp
      have HQ := hide hq
      clear hp hq
      go_cut [10] (fun s W => s = .bool same ∧ w4 = W)
      case first =>
        refine wp_region_list ?_
        try simp only [List.append_eq, List.cons_append, List.nil_append]
        clear k1 k2 HX HY HL1 HL2 HZ1 HZ2 HM1 HM2 HC1 HA HB
        have hnot := hide (fun h : ¬ sameC x y => (Bool.eq_false_iff.2 fun e => h (hsame.1 e) : same = false))
        have hyes := hide (fun h : sameC x y => (hsame.2 h : same = true))
        clear hsame
        by_cases h0 : x.name = y.name
        rotate_left
        · have s0 : ((bytesT x.name).toList == (bytesT y.name).toList) = false := by rw [txt_beq9]; exact beq_eq_false_iff_ne.2 h0
          obtain rfl := unhide hnot (fun h => h0 (by obtain ⟨g1, g2, g3, g4, g5, g6, g7, g8, g9, g10, g11, g12⟩ := h; first | exact g1))
          clear hnot hyes h0 c1 d1 c2 d2 c3 d3 c4 d4 c5 d5 c6 d6 c7 d7 c8 d8 c9 d9 c10 d10 c11 d11 c12 d12 c13 d13 c14 d14 N1 N2 HP HQ
          go_wp2_with fail
          go_meet
          exact ⟨rfl, rfl⟩
        have s0 : ((bytesT x.name).toList == (bytesT y.name).toList) = true := by rw [txt_beq9]; exact beq_iff_eq.2 h0
        have H0 := hide h0
        clear h0
        by_cases h1 : x.pool = y.pool
        rotate_left
        · have s1 : ((bytesT x.pool).toList == (bytesT y.pool).toList) = false := by rw [txt_beq9]; exact beq_eq_false_iff_ne.2 h1
          obtain rfl := unhide hnot (fun h => h1 (by obtain ⟨g1, g2, g3, g4, g5, g6, g7, g8, g9, g10, g11, g12⟩ := h; first | exact g2))
          clear hnot hyes h1 c2 d2 c3 d3 c4 d4 c5 d5 c6 d6 c7 d7 c8 d8 c9 d9 c10 d10 c11 d11 c12 d12 c13 d13 c14 d14 N1 N2 HP HQ
          go_wp2_with fail
          go_meet
          exact ⟨rfl, rfl⟩
        have s1 : ((bytesT x.pool).toList == (bytesT y.pool).toList) = true := by rw [txt_beq9]; exact beq_iff_eq.2 h1
        have H1 := hide h1
        clear h1
        by_cases h2 : x.gen = y.gen
        rotate_left
        · have s2 : (x.gen == y.gen) = false := beq_eq_false_iff_ne.2 h2
          obtain rfl := unhide hnot (fun h => h2 (by obtain ⟨g1, g2, g3, g4, g5, g6, g7, g8, g9, g10, g11, g12⟩ := h; first | exact g3))
          clear hnot hyes h2 c3 d3 c4 d4 c5 d5 c6 d6 c7 d7 c8 d8 c9 d9 c10 d10 c11 d11 c12 d12 c13 d13 c14 d14 N1 N2 HP HQ
          go_wp2_with fail
          go_meet
          exact ⟨rfl, rfl⟩
        have s2 : (x.gen == y.gen) = true := beq_iff_eq.2 h2
        have H2 := hide h2
        clear h2
        by_cases h3 : x.offer.1 = y.offer.1
        rotate_left
        · have s3 : ((bytesT x.offer.1).toList == (bytesT y.offer.1).toList) = false := by rw [txt_beq9]; exact beq_eq_false_iff_ne.2 h3
          obtain rfl := unhide hnot (fun h => h3 (by obtain ⟨g1, g2, g3, g4, g5, g6, g7, g8, g9, g10, g11, g12⟩ := h; first | exact congrArg (·.1) g4))
          clear hnot hyes h3 c6 d6 c7 d7 c8 d8 c9 d9 c10 d10 c11 d11 c12 d12 c13 d13 c14 d14 N1 N2 HP HQ
          go_wp2_with fail
          go_meet
          exact ⟨rfl, rfl⟩
        have s3 : ((bytesT x.offer.1).toList == (bytesT y.offer.1).toList) = true := by rw [txt_beq9]; exact beq_iff_eq.2 h3
        have H3 := hide h3
        clear h3
        by_cases h4 : x.offer.2.1 = y.offer.2.1
        rotate_left
        · have s4 : ((bytesT x.offer.2.1).toList == (bytesT y.offer.2.1).toList) = false := by rw [txt_beq9]; exact beq_eq_false_iff_ne.2 h4
          obtain rfl := unhide hnot (fun h => h4 (by obtain ⟨g1, g2, g3, g4, g5, g6, g7, g8, g9, g10, g11, g12⟩ := h; first | exact congrArg (·.2.1) g4))
          clear hnot hyes h4 c6 d6 c7 d7 c8 d8 c9 d9 c10 d10 c11 d11 c12 d12 c13 d13 c14 d14 N1 N2 HP HQ
          go_wp2_with fail
          go_meet
          exact ⟨rfl, rfl⟩
        have s4 : ((bytesT x.offer.2.1).toList == (bytesT y.offer.2.1).toList) = true := by rw [txt_beq9]; exact beq_iff_eq.2 h4
        have H4 := hide h4
        clear h4
        by_cases h5 : x.offer.2.2 = y.offer.2.2
        rotate_left
        · have s5 : ((bytesT x.offer.2.2).toList == (bytesT y.offer.2.2).toList) = false := by rw [txt_beq9]; exact beq_eq_false_iff_ne.2 h5
          obtain rfl := unhide hnot (fun h => h5 (by obtain ⟨g1, g2, g3, g4, g5, g6, g7, g8, g9, g10, g11, g12⟩ := h; first | exact congrArg (·.2.2) g4))
          clear hnot hyes h5 c6 d6 c7 d7 c8 d8 c9 d9 c10 d10 c11 d11 c12 d12 c13 d13 c14 d14 N1 N2 HP HQ
          go_wp2_with fail
          go_meet
          exact ⟨rfl, rfl⟩
        have s5 : ((bytesT x.offer.2.2).toList == (bytesT y.offer.2.2).toList) = true := by rw [txt_beq9]; exact beq_iff_eq.2 h5
        have H5 := hide h5
        clear h5
        by_cases h6 : x.price = y.price
        rotate_left
        · have s6 : (x.price == y.price) = false := beq_eq_false_iff_ne.2 h6
          obtain rfl := unhide hnot (fun h => h6 (by obtain ⟨g1, g2, g3, g4, g5, g6, g7, g8, g9, g10, g11, g12⟩ := h; first | exact g5))
          clear hnot hyes h6 c7 d7 c8 d8 c9 d9 c10 d10 c11 d11 c12 d12 c13 d13 c14 d14 N1 N2 HP HQ
          go_wp2_with fail
          go_meet
          exact ⟨rfl, rfl⟩
        have s6 : (x.price == y.price) = true := beq_iff_eq.2 h6
        have H6 := hide h6
        clear h6
        by_cases h7 : x.cap.1 = y.cap.1
        rotate_left
        · have s7 : (x.cap.1 == y.cap.1) = false := beq_eq_false_iff_ne.2 h7
          obtain rfl := unhide hnot (fun h => h7 (by obtain ⟨g1, g2, g3, g4, g5, g6, g7, g8, g9, g10, g11, g12⟩ := h; first | exact congrArg (·.1) g6))
          clear hnot hyes h7 c9 d9 c10 d10 c11 d11 c12 d12 c13 d13 c14 d14 N1 N2 HP HQ
          go_wp2_with fail
          go_meet
          exact ⟨rfl, rfl⟩
        have s7 : (x.cap.1 == y.cap.1) = true := beq_iff_eq.2 h7
        have H7 := hide h7
        clear h7
        by_cases h8 : x.cap.2 = y.cap.2
        rotate_left
        · have s8 : (x.cap.2 == y.cap.2) = false := beq_eq_false_iff_ne.2 h8
          obtain rfl := unhide hnot (fun h => h8 (by obtain ⟨g1, g2, g3, g4, g5, g6, g7, g8, g9, g10, g11, g12⟩ := h; first | exact congrArg (·.2) g6))
          clear hnot hyes h8 c9 d9 c10 d10 c11 d11 c12 d12 c13 d13 c14 d14 N1 N2 HP HQ
          go_wp2_with fail
          go_meet
          exact ⟨rfl, rfl⟩
        have s8 : (x.cap.2 == y.cap.2) = true := beq_iff_eq.2 h8
        have H8 := hide h8
        clear h8
        by_cases h9 : x.tryN = y.tryN
        rotate_left
        · have s9 : (x.tryN == y.tryN) = false := beq_eq_false_iff_ne.2 h9
          obtain rfl := unhide hnot (fun h => h9 (by obtain ⟨g1, g2, g3, g4, g5, g6, g7, g8, g9, g10, g11, g12⟩ := h; first | exact g7))
          clear hnot hyes h9 c11 d11 c12 d12 c13 d13 c14 d14 N1 N2 HP HQ
          go_wp2_with fail
          go_meet
          exact ⟨rfl, rfl⟩
        have s9 : (x.tryN == y.tryN) = true := beq_iff_eq.2 h9
        have H9 := hide h9
        clear h9
        by_cases h10 : x.id = y.id
        rotate_left
        · have s10 : ((bytesT x.id).toList == (bytesT y.id).toList) = false := by rw [txt_beq9]; exact beq_eq_false_iff_ne.2 h10
          obtain rfl := unhide hnot (fun h => h10 (by obtain ⟨g1, g2, g3, g4, g5, g6, g7, g8, g9, g10, g11, g12⟩ := h; first | exact g8))
          clear hnot hyes h10 c12 d12 c13 d13 c14 d14 N1 N2 HP HQ
          go_wp2_with fail
          go_meet
          exact ⟨rfl, rfl⟩
        have s10 : ((bytesT x.id).toList == (bytesT y.id).toList) = true := by rw [txt_beq9]; exact beq_iff_eq.2 h10
        have H10 := hide h10
        clear h10
        by_cases h11 : x.phase = y.phase
        rotate_left
        · have s11 : (x.phase == y.phase) = false := beq_eq_false_iff_ne.2 h11
          obtain rfl := unhide hnot (fun h => h11 (by obtain ⟨g1, g2, g3, g4, g5, g6, g7, g8, g9, g10, g11, g12⟩ := h; first | exact g9))
          clear hnot hyes h11 c13 d13 c14 d14 N1 N2 HP HQ
          go_wp2_with fail
          go_meet
          exact ⟨rfl, rfl⟩
        have s11 : (x.phase == y.phase) = true := beq_iff_eq.2 h11
        have H11 := hide h11
        clear h11
        by_cases h12 : x.born = y.born
        rotate_left
        · have s12 : (x.born == y.born) = false := beq_eq_false_iff_ne.2 h12
          obtain rfl := unhide hnot (fun h => h12 (by obtain ⟨g1, g2, g3, g4, g5, g6, g7, g8, g9, g10, g11, g12⟩ := h; first | exact g10))
          clear hnot hyes h12 c14 d14 N1 N2 HP HQ
          go_wp2_with fail
          go_meet
          exact ⟨rfl, rfl⟩
        have s12 : (x.born == y.born) = true := beq_iff_eq.2 h12
        have H12 := hide h12
        clear h12
        have hp := unhide HP
        have hq := unhide HQ
        have EQ : Hid (p = q → n1 = n2 → same = true) := fun e1 e2 => unhide hyes ⟨unhide H0, unhide H1, unhide H2, Prod.ext (unhide H3) (Prod.ext (unhide H4) (unhide H5)), unhide H6, Prod.ext (unhide H7) (unhide H8), unhide H9, unhide H10, unhide H11, unhide H12, by rw [← hp, ← hq]; exact e1, by rw [← unhide N1, ← unhide N2]; exact e2⟩
        have NO : Hid ((¬ p = q ∨ ¬ n1 = n2) → same = false) := fun h => unhide hnot fun g => by
          rcases h with h | h
          · exact h (by rw [hp, hq]; exact g.2.2.2.2.2.2.2.2.2.2.1)
          · exact h (by rw [unhide N1, unhide N2]; exact g.2.2.2.2.2.2.2.2.2.2.2)
        clear hp hq HP HQ hnot hyes H0 H1 H2 H3 H4 H5 H6 H7 H8 H9 H10 H11 H12 N1 N2
        by_cases hn : n1 = n2
        · have sn : ((n1 : Int) == (n2 : Int)) = true := beq_iff_eq.2 (by rw [hn])
          cases p <;> cases q
          · obtain rfl := unhide EQ rfl hn
            clear hn EQ NO
            go_wp2_with fail
            go_meet
            exact ⟨rfl, rfl⟩
          · obtain rfl := unhide NO (Or.inl (by decide))
            clear hn EQ NO
            go_wp2_with fail
            go_meet
            exact ⟨rfl, rfl⟩
          · obtain rfl := unhide NO (Or.inl (by decide))
            clear hn EQ NO
            go_wp2_with fail
            go_meet
            exact ⟨rfl, rfl⟩
          · obtain rfl := unhide EQ rfl hn
            clear hn EQ NO
            go_wp2_with fail
            go_meet
            exact ⟨rfl, rfl⟩
        · have sn : ((n1 : Int) == (n2 : Int)) = false := beq_eq_false_iff_ne.2 (by omega)
          obtain rfl := unhide NO (Or.inr hn)
          clear hn EQ NO
          cases p <;> cases q
          all_goals
            go_wp2_with fail
            go_meet
            exact ⟨rfl, rfl⟩
      obtain ⟨rfl, rfl⟩ := hcut
      have ag0 : Hid (agree x y same 0) := ⟨fun e => ⟨hsame.1 e, rfl⟩, fun e => hsame.2 e.1⟩
      clear hsame k1 k2 c0 c1 c2 c3 c4 c5 c6 c7 c8 c10 c11 c12 c13 c14 d0 d1 d2 d3 d4 d5 d6 d7 d8 d9 d10 d11 d12 d13 d14
      have hb1 : n1 ≤ 17592186044416 := by rw [unhide N1]; exact (unhide HX).ops.len
      have hb2 : n2 ≤ 17592186044416 := by rw [unhide N2]; exact (unhide HY).ops.len
      go_wp2_with fail
      clear c9
      go_loopw [10, 119] (fun s i W => ∃ (j : Nat) (b : Bool), j ≤ n1 ∧ i = .int .i64 j ∧ s = .bool b ∧ Hid (agree x y b j) ∧ Hid (Below w4.heap.size w4 W)) (fun _ i _ => n1 - (intOf i).toNat)
      case atStart => exact ⟨0, same, Nat.zero_le _, rfl, rfl, ag0, Below.refl _ _⟩
      case round =>
        clear ag0
        obtain ⟨j, b, hj, rfl, rfl, AG, BB⟩ := hrel
        by_cases hlt : j < n1
        · have c9 := ((unhide HA).below (unhide BB)).at 9 (v := .slice au n1 cu) rfl
          have d9 := ((unhide HB).below (unhide BB)).at 9 (v := .slice av n2 cv) rfl
          have hlx : j < x.opts.length := by rw [← unhide N1]; exact hlt
          cases b
          · have AG2 := hide (agree_no (unhide AG))
            clear AG
            go_wp2_with fail
            go_quiet (fail)
            go_wp2_with fail
            exact ⟨⟨j + 1, false, by omega, by go_num, rfl, AG2, below_drewN (unhide BB) nq⟩, by simp [intOf]; omega⟩
          · have hnn : n1 = n2 := by rw [unhide N1, unhide N2]; exact ((unhide AG).1 rfl).1.2.2.2.2.2.2.2.2.2.2.2
            have hly : j < y.opts.length := by rw [← unhide N2, ← hnn]; exact hlt
            have hd : decide ((j : Int) < (n2 : Int)) = true := decide_eq_true (by omega)
            obtain ⟨bx, ox, rfl, hax⟩ := ((unhide HX).ops.below ((unhide HA).below (unhide BB)).gr).at hlx
            obtain ⟨by', oy, rfl, hay⟩ := ((unhide HY).ops.below ((unhide HA).below (unhide BB)).gr).at hly
            obtain ⟨⟨f0, q0⟩, ⟨f1, q1⟩, ⟨f2, q2⟩⟩ := off_at.1 hax
            obtain ⟨⟨g0, q3⟩, ⟨g1, q4⟩, ⟨g2, q5⟩⟩ := off_at.1 hay
            clear q0 q1 q2 q3 q4 q5
            have hr := off_beq x.opts[j] y.opts[j]
            obtain ⟨xa, hxa⟩ : ∃ o, o = x.opts[j] := ⟨_, rfl⟩
            obtain ⟨ya, hya⟩ : ∃ o, o = y.opts[j] := ⟨_, rfl⟩
            rw [← hxa] at hr f0 f1 f2
            rw [← hya] at hr g0 g1 g2
            have AG2 : Hid (∀ r : Bool, (r = true ↔ xa = ya) → agree x y r (j + 1)) := fun r h => agree_yes (unhide AG) hlx hly (by rw [← hxa, ← hya]; exact h)
            have HR := hide hr
            have i0 : (0 : Int) ≤ (j : Int) := by omega
            have i1 : (j : Int) < (n1 : Int) := by omega
            have i2 : (j : Int) < (n2 : Int) := by omega
            clear AG hax hay hr hxa hya hlx hly hnn
            change wr.cell? ⟨bx, ox + j * 3, none⟩ = some (.string (bytesT xa.1)) at f0
            change wr.cell? ⟨bx, ox + j * 3 + 1, none⟩ = some (.string (bytesT xa.2.1)) at f1
            change wr.cell? ⟨bx, ox + j * 3 + 2, none⟩ = some (.string (bytesT xa.2.2)) at f2
            change wr.cell? ⟨by', oy + j * 3, none⟩ = some (.string (bytesT ya.1)) at g0
            change wr.cell? ⟨by', oy + j * 3 + 1, none⟩ = some (.string (bytesT ya.2.1)) at g1
            change wr.cell? ⟨by', oy + j * 3 + 2, none⟩ = some (.string (bytesT ya.2.2)) at g2
            obtain ⟨r0, hr0⟩ : ∃ r, r = ((bytesT xa.1).toList == (bytesT ya.1).toList) := ⟨_, rfl⟩
            obtain ⟨r1, hr1⟩ : ∃ r, r = ((bytesT xa.2.1).toList == (bytesT ya.2.1).toList) := ⟨_, rfl⟩
            obtain ⟨r2, hr2⟩ : ∃ r, r = ((bytesT xa.2.2).toList == (bytesT ya.2.2).toList) := ⟨_, rfl⟩
            have HR2 : Hid ((r0 && (r1 && r2)) = true ↔ xa = ya) := by
              show _ ↔ _
              rw [hr0, hr1, hr2]
              exact unhide HR
            have e0 := hr0.symm
            have e1 := hr1.symm
            have e2 := hr2.symm
            clear HR hr0 hr1 hr2
            cases r0 <;> cases r1 <;> cases r2
            all_goals
              go_wp2_with fail
              go_quiet (fail)
              go_wp2_with fail
              exact ⟨⟨j + 1, _, by omega, by go_num, rfl, unhide AG2 _ (unhide HR2), below_drewN (unhide BB) nq⟩, by simp [intOf]; omega⟩
        · obtain rfl : j = n1 := by omega
          have hbe : b = true ↔ clmJ.c.w x = clmJ.c.w y := by
            have h1 := unhide AG
            rw [show j = x.opts.length from unhide N1] at h1
            rw [agree_end h1]
            exact (cod_same_iff clmJ (unhide HZ1) (unhide HZ2)).symm
          have hs : ((bytesT (clmJ.c.w x)).toList == (bytesT (clmJ.c.w y)).toList) = b := by rw [txt_beq9, Bool.eq_iff_iff, beq_iff_eq, hbe]
          have hcv1 := conv_lst (unhide HL1) (chain (unhide HC1) (unhide BB))
          have hcv2 := conv_lst (unhide HL2) (unhide BB)
          have hbl := hide (chain (unhide HA).gr (unhide BB))
          obtain ⟨X, hX⟩ : ∃ X, X = bytesT (clmJ.c.w x) := ⟨_, rfl⟩
          obtain ⟨Y, hY⟩ : ∃ Y, Y = bytesT (clmJ.c.w y) := ⟨_, rfl⟩
          rw [← hX] at hcv1 hs
          rw [← hY] at hcv2 hs
          clear hX hY hbe AG BB HL1 HL2 HC1 HZ1 HZ2 HM1 HM2 HA HB HX HY N1 N2 hb1 hb2 hlt hj
          cases b
          · go_wp2_with fail
            go_ret
            exact ⟨rfl, unhide hbl⟩
          · go_wp2_with fail
            go_ret
            exact ⟨rfl, unhide hbl⟩
    · have hbl := hide (unhide HA).gr
      obtain ⟨z, hzz⟩ : ∃ z, z = clmJ.chk y := ⟨_, rfl⟩
      rw [← hzz] at hz ⊢
      have hzb := bne_iff_ne.2 hz
      clear hz hzz HA HB HL1 HZ1 HM1 HC1 HX HY N1 N2 k1 k2
      go_wp2_with fail
      go_ret
      exact ⟨rfl, unhide hbl⟩
  · obtain ⟨z, hzz⟩ : ∃ z, z = clmJ.chk x := ⟨_, rfl⟩
    rw [← hzz] at hz ⊢
    have hzb := bne_iff_ne.2 hz
    clear hz hzz
    go_upto_region 3 with fail
    refine wp_region_list ?_
    refine wpList_load_row rfl 37 _ rfl (w.heap.size + 1) rfl 37 _ _ _ (unhide HB2).row Tryz.underlying37 rfl (by kernel_rfl) ?_
    go_wp2_with fail
    refine (unhide k2 _ (unhide HB2).gr).mono ?_
    rintro e w4 ⟨hb, hp⟩
    have hbl := hide (chain (unhide HB2).gr hb)
    clear hb HA2 HB2 HX HY N1 N2 k1 k2
    rcases hp with ⟨hz2, a2, m2, c2, rfl, hm2, ho2⟩ | ⟨hz2, rfl⟩
    · clear hz2 hm2 ho2
      go_wp2_with fail
      go_ret
      exact ⟨rfl, unhide hbl⟩
    · clear hz2
      go_wp2_with fail
      go_ret
      exact ⟨rfl, unhide hbl⟩
end Go.Proofs.YtfpfdnapamdhjaaGreatDoor.codecUnlike
