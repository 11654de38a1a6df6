/- Layer 6: slices.SortedFunc of a map's keys; contract of ordered. -/
import Derived.Test.YtepcnfnmphgccaaGreatDoorCuBG
namespace Go.Proofs.YtepcnfnmphgccaaGreatDoor
open Go.RowKit Suf Val Go.Maps Go.Sort

theorem enters_cmpO : ∀ args w, (callFunc 57 args).run Tryz.prog w = .ok (.enter 57 args) w := enters_of Tryz.func57 (by kernel_rfl) rfl
theorem aggO (w : World) : (isAgg 24).run Tryz.prog w = .ok true w := by kernel_rfl
theorem sizeO (w : World) : (Go.sizeOf 24).run Tryz.prog w = .ok 3 w := by kernel_rfl
theorem short_nil : short [] := by unfold short; simp
def KO0 : KO := ⟨([], [], []), short_nil, short_nil, short_nil⟩
def cfK6 (pr : VOff → Int) (x y : KO) : Int := cfO pr x.1 y.1
theorem lt_cfK6 (pr : VOff → Int) (x y : KO) : Go.Proofs.ltOf (cfK6 pr) x y = aheadO pr x.1 y.1 := lt_cfO pr x.1 y.1
theorem swoO (pr : VOff → Int) : Go.Sort.SWO (Go.Proofs.ltOf (cfK6 pr)) where
  irrefl x := by rw [lt_cfK6]; exact aheadO_irrefl _ _
  trans x y z h1 h2 := by rw [lt_cfK6] at *; exact aheadO_trans _ _ _ _ h1 h2
  ntrans x y z h1 h2 := by
    rw [lt_cfK6] at *
    cases h : aheadO pr x.1 z.1 with
    | false => rfl
    | true =>
      rcases aheadO_total pr y.1 z.1 with hl | hl | hl
      · rw [h2] at hl; cases hl
      · rw [hl] at h1; rw [h1] at h; cases h
      · have := aheadO_trans _ _ _ _ h hl; rw [h1] at this; cases this
def encK6 (x : KO) : List Value := encL x.1
theorem flat_K6 (xs : List KO) : xs.flatMap encK6 = flatO (xs.map (·.1)) := by
  unfold flatO
  induction xs with
  | nil => rfl
  | cons x l ih => rw [List.flatMap_cons, List.map_cons, List.flatMap_cons, ih]; rfl
theorem srt_of {pr : VOff → Int} {l : List VOff} (hn : l.Nodup) (hp : l.Pairwise fun a b => aheadO pr b a = false) : Srt (aheadO pr) l := by
  refine (hn.and hp).imp ?_
  rintro a b ⟨h1, h2⟩
  rcases aheadO_total pr a b with h | h | h
  · exact h
  · exact absurd h h1
  · rw [h2] at h; cases h
theorem own_ne {w : World} {base : Nat} {T : TypeId} {sz : Nat} {v : Value} {n : Nat} {xs : List Value} (h : w.ownsRow base T sz v n xs) {k : Nat} (hk : k < base) : some k ≠ v.ownBlock := fun e => by
  have := (h.lt k e.symm).1
  omega
set_option maxHeartbeats 4000000 in
theorem sortedF_any (pr : VOff → Int) (f : VOff → Option Value) (b n Bm B : Nat) (w : World) (hm : MapK offT w b f n) (S : List VOff) (hn : S.length ≤ 1048576) (hcov : ∀ x, okO x → (f x).isSome = true → x ∈ S) (hBm : Bm < w.heap.size) (hB : B < w.heap.size) (cm : w.cell? ⟨Bm, 0, none⟩ = some (.map (some b))) (cb : w.cell? ⟨B, 0, none⟩ = some (.map (some b)))
    (hf : ∀ o, okO o → ∃ a1 a2 q ua un uc, (f o).getD zeroRow = .agg #[.int .i64 a1, .int .i64 a2, .int .i64 (pr o), .bool q, .slice ua un uc]) :
    Calls Tryz.prog 55 #[.func (.func 79) #[] #[.pointer (some ⟨Bm, 0, none⟩)], .func (.func 57) #[] #[.pointer (some ⟨B, 0, none⟩)]] w fun e w' => ∃ (v : Value) (l : List VOff), e = .returned v ∧ Srt (aheadO pr) l ∧ (∀ o, o ∈ l ↔ okO o ∧ (f o).isSome = true) ∧ w'.ownsRow w.heap.size 24 3 v l.length (flatO l) ∧ l.length ≤ 1048576 ∧ Below w.heap.size w w' := by
  have hcol := hide (collectK_any Bm b n f w hBm cm hm S hn hcov)
  have hlt := hm.lt
  have HM := hide hm
  have HF := hide hf
  clear hm hf hcov
  go_enter Tryz.func55, Tryz.ntmps55
  go_wp2_with fail
  refine (unhide hcol).mono ?_
  rintro e w1 ⟨v, l, rfl, hnd, hmem, hrow, hlen0, hw1⟩
  have B1 := hide hw1
  have HR := hide hrow
  have hlen : l.length ≤ 1048576 := Nat.le_trans hlen0 hn
  obtain ⟨xs, hxs⟩ : ∃ xs : List KO, xs.map (·.1) = l := ⟨l.attachWith okO (fun x hx => ((hmem x).1 hx).1), by first | exact List.attachWith_map_subtype_val _ | exact List.attachWith_map_val _ | (simp; exact List.attach_map_subtype_val l)⟩
  have hxl : xs.length = l.length := by rw [← hxs]; simp
  obtain ⟨xa, xc, rfl⟩ : ∃ xa xc, v = .slice xa l.length xc := by
    rcases hrow.2 with ⟨e1, e2⟩ | ⟨g, cap, cur, e1, _⟩
    · rw [e2]; exact ⟨_, _, e1⟩
    · exact ⟨_, _, e1⟩
  haveI : Inhabited KO := ⟨KO0⟩
  have hsort := hide (sortG_any (α := KO) (enc := encK6) Tryz.sortO aggO sizeO (fun _ => rfl) (by decide) (fun x v hv => by
      unfold encK6 encL at hv
      simp only [List.mem_cons, List.not_mem_nil, or_false] at hv
      rcases hv with rfl | rfl | rfl <;> rfl) (cfK6 pr) (swoO pr) 57 #[.pointer (some ⟨B, 0, none⟩)] xa l.length xc w.heap.size 24 xs w1 (by rw [flat_K6, hxs]; exact hrow) hxl (by omega) enters_cmpO (fun W hg x y => by
        have hmW : MapK offT W b f n := ((unhide HM).below hw1).kept hg (own_ne hrow hlt)
        have hcB : W.cell? ⟨B, 0, none⟩ = some (.map (some b)) := by
          rw [World.grownBy.cell_far hg _ (Nat.lt_of_lt_of_le hB hw1.size) (own_ne hrow hB)]
          exact cell_kept hw1 cb
        exact cmpO_closure pr f b n B x.1 y.1 x.2 y.2 W hmW hcB (unhide HF)))
  have hfin : Hid (∀ (xs' : List KO) (w2 : World), xs'.Perm xs → (xs'.Pairwise fun a b => Go.Proofs.ltOf (cfK6 pr) b a = false) → w2.ownsRow w.heap.size 24 3 (.slice xa l.length xc) l.length (xs'.flatMap encK6) → w1.grownBy w2 (Value.slice xa l.length xc).ownBlock →
      ∃ (v : Value) (l' : List VOff), Ending.returned (.slice xa l.length xc) = .returned v ∧ Srt (aheadO pr) l' ∧ (∀ o, o ∈ l' ↔ okO o ∧ (f o).isSome = true) ∧ w2.ownsRow w.heap.size 24 3 v l'.length (flatO l') ∧ l'.length ≤ 1048576 ∧ Below w.heap.size w w2) := fun xs' w2 hp hs hr hg => by
    have hpl : (xs'.map (·.1)).Perm l := by rw [← hxs]; exact hp.map _
    refine ⟨_, xs'.map (·.1), rfl, srt_of (hpl.nodup_iff.2 hnd) ?_, fun o => (hpl.mem_iff).trans (hmem o), ?_, by rw [hpl.length_eq]; exact hlen, grow_on hw1 hrow hg⟩
    · rw [List.pairwise_map]
      exact hs.imp fun {a b} h => by rw [lt_cfK6] at h; exact h
    · rw [hpl.length_eq, ← flat_K6]; exact hr
  clear hrow hw1 hxs hxl hnd hmem HM HF cm cb hcol hlen HR B1
  obtain ⟨m, hm⟩ : ∃ m, m = l.length := ⟨_, rfl⟩
  rw [← hm] at hsort hfin ⊢
  clear hm
  go_wp2_with fail
  refine (unhide hsort).mono ?_
  rintro e w2 ⟨rfl, xs', hp, hs, hr, hg⟩
  have h := unhide hfin xs' w2 hp hs hr hg
  clear hp hs hr hg hfin hsort
  have H := hide h
  clear h
  go_wp2_with fail
  go_ret
  exact unhide H

set_option maxHeartbeats 1000000 in
theorem keysC_any (b : Nat) (w : World) : Calls Tryz.prog 56 #[.map (some b)] w fun e w' => e = .returned (.func (.func 79) #[] #[.pointer (some ⟨w.heap.size, 0, none⟩)]) ∧ w' = w.alloc (.cells #[.map (some b)] 76) := by
  go_enter Tryz.func56, Tryz.ntmps56
  go_wp2_with fail
  go_ret
  exact ⟨rfl, rfl⟩
set_option maxHeartbeats 4000000 in
theorem ordered_any (pr : VOff → Int) (f : VOff → Option Value) (b n : Nat) (w : World) (hm : MapK offT w b f n) (S : List VOff) (hn : S.length ≤ 1048576) (hcov : ∀ x, okO x → (f x).isSome = true → x ∈ S)
    (hf : ∀ o, okO o → ∃ a1 a2 q ua un uc, (f o).getD zeroRow = .agg #[.int .i64 a1, .int .i64 a2, .int .i64 (pr o), .bool q, .slice ua un uc]) :
    Calls Tryz.prog 37 #[.map (some b)] w fun e w' => ∃ (v : Value) (l : List VOff), e = .returned v ∧ Srt (aheadO pr) l ∧ (∀ o, o ∈ l ↔ okO o ∧ (f o).isSome = true) ∧ w'.ownsRow w.heap.size 24 3 v l.length (flatO l) ∧ l.length ≤ 1048576 ∧ Below w.heap.size w w' := by
  obtain ⟨W0, hW0⟩ : ∃ W, W = w.alloc (.cells #[.map (some b)] 76) := ⟨_, rfl⟩
  have hs0 : W0.heap.size = w.heap.size + 1 := by rw [hW0]; simp
  have hc0 : W0.cell? ⟨w.heap.size, 0, none⟩ = some (.map (some b)) := by rw [hW0]; simp [go_sem]
  have hb0 : Below w.heap.size w W0 := by rw [hW0]; exact boxb _
  obtain ⟨W1, hW1⟩ : ∃ W, W = W0.alloc (.cells #[.map (some b)] 76) := ⟨_, rfl⟩
  have hb1 : Below W0.heap.size W0 W1 := by rw [hW1]; exact boxb _
  have hc1 : W1.cell? ⟨W0.heap.size, 0, none⟩ = some (.map (some b)) := by rw [hW1]; simp [go_sem]
  have hs1 : W1.heap.size = W0.heap.size + 1 := by rw [hW1]; simp
  have hkey := hide (keysC_any b W0)
  have hsf := hide (sortedF_any pr f b n W0.heap.size w.heap.size W1 ((hm.below hb0).below hb1) S hn hcov (by omega) (by omega) hc1 (cell_kept hb1 hc0) hf)
  have hfin : Hid (∀ (w2 : World) (v : Value) (l : List VOff), W1.heap.size ≤ w2.heap.size → w2.ownsRow W1.heap.size 24 3 v l.length (flatO l) → Below W1.heap.size W1 w2 → w2.ownsRow w.heap.size 24 3 v l.length (flatO l) ∧ Below w.heap.size w w2) := fun w2 v l _ hr hb => by
    refine ⟨?_, chain hb0 (chain hb1 hb)⟩
    refine ⟨hr.1, ?_⟩
    rcases hr.2 with h | ⟨g, cap, cur, e, hg, h⟩
    · exact Or.inl h
    · exact Or.inr ⟨g, cap, cur, e, by omega, h⟩
  have G0 := hide hW0
  have G1 := hide hW1
  rw [← hW1] at hkey
  clear hW0 hW1 hb0 hb1 hc1 hs1 hm hf hcov
  go_enter Tryz.func37, Tryz.ntmps37
  go_wp2_with fail
  rw [← unhide G0]
  refine (unhide hkey).mono ?_
  rintro e w1 ⟨rfl, hw1⟩
  subst hw1
  clear hc0 hs0 hkey G1
  go_wp2_with fail
  refine (unhide hsf).mono ?_
  rintro e w2 ⟨v, l, rfl, h1, h2, h3, h4, h5⟩
  obtain ⟨h6, h7⟩ := unhide hfin w2 v l h5.size h3 h5
  have H1 := hide h1
  have H2 := hide h2
  have H6 := hide h6
  have H7 := hide h7
  clear h1 h2 h3 h5 h6 h7 hsf hfin
  obtain ⟨va, vc, rfl⟩ : ∃ va vc, v = .slice va l.length vc := by
    rcases (unhide H6).2 with ⟨e1, e2⟩ | ⟨g, cap, cur, e1, _⟩
    · rw [e2]; exact ⟨_, _, e1⟩
    · exact ⟨_, _, e1⟩
  go_wp2_with fail
  go_ret
  exact ⟨_, l, rfl, unhide H1, unhide H2, unhide H6, h4, unhide H7⟩
end Go.Proofs.YtepcnfnmphgccaaGreatDoor
