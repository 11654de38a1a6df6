/- Layer 4: contract of rising: the sets of a map by their keys, byte by byte. -/
import Derived.Test.YtnkcbmlobikjkaaGreatDoorRqH
namespace Go.Proofs.YtnkcbmlobikjkaaGreatDoor
open Go.RowKit Suf Val Go.Maps

set_option maxHeartbeats 2000000 in
theorem cmp_closure (x y : SK) (W : World) : Calls Tryz.prog 49 #[.agg (encS x).toArray, .agg (encS y).toArray] W fun e w' => e = .returned (.int .i64 (cfK x y)) ∧ ∃ q os', w' = Go.Sort.grow (W.drewN q) os' := by
  have hcon := fun W' => Tryz.strings_Compare (bytesT x.2.1) (bytesT y.2.1) W'
  have hr : Lib.compareBytes (bytesT x.2.1).data.toList (bytesT y.2.1).data.toList = cfK x y := rfl
  rw [hr] at hcon
  generalize cfK x y = r at hcon ⊢
  clear hr
  obtain ⟨⟨xa, xn, xc⟩, xk, xm, xo, xq, xv, xl, xh⟩ := x
  obtain ⟨⟨ya, yn, yc⟩, yk, ym, yo, yq, yv, yl, yh⟩ := y
  show Calls Tryz.prog 49 #[.agg #[.string (bytesT xk), .bool xm, .bool xo, .bool xq, .slice xa xn xc, .int .i64 xl, .int .i64 xh], .agg #[.string (bytesT yk), .bool ym, .bool yo, .bool yq, .slice ya yn yc, .int .i64 yl, .int .i64 yh]] W _
  simp only at hcon
  go_enter Tryz.func49, Tryz.ntmps49
  go_wp2_with (go_at_call 50; refine (hcon _).mono ?_; rintro e w' ⟨rfl, rfl⟩)
  go_ret
  exact ⟨rfl, 0, _, by rw [Go.Sort.alloc_eq_grow, Go.Sort.alloc_eq_grow, Go.Sort.grow_grow]; rfl⟩
theorem cmp_lays (blk off size : Nat) (w : World) : CmpLays Tryz.prog 49 #[] encS 7 cfK blk off size w := fun _ _ _ _ x y => cmp_closure x y _
theorem enters_cmp : ∀ args w, (callFunc 49 args).run Tryz.prog w = .ok (.enter 49 args) w := enters_of Tryz.func49 (by kernel_rfl) rfl
theorem aggK (w : World) : (isAgg 44).run Tryz.prog w = .ok true w := by kernel_rfl
theorem sizeK (w : World) : (Go.sizeOf 44).run Tryz.prog w = .ok 7 w := by kernel_rfl
theorem ofV : ∀ xs : List VKS, (∀ y ∈ xs, ∃ a n c, y.1 = .slice a n c) → ∃ d : List SK, d.map toV = xs
  | [], _ => ⟨[], rfl⟩
  | y :: l, h => by
    obtain ⟨d, hd⟩ := ofV l fun z hz => h z (List.mem_cons_of_mem _ hz)
    obtain ⟨a, n, c, e⟩ := h y (by simp)
    obtain ⟨u, k, ⟨m, o, q, v, lo, hi⟩⟩ := y
    simp only at e
    subst e
    exact ⟨((a, n, c), k, m, o, q, v, lo, hi) :: d, by rw [List.map_cons, hd]; rfl⟩
theorem perm_list {d d' : Array SK} (h : Go.Sort.PermIn 0 d.size d d') : (d'.toList.map toV).Perm (d.toList.map toV) := by
  obtain ⟨hs, _, hp⟩ := h
  have e1 : (d'.extract 0 d.size).toList = d'.toList := by rw [← hs]; simp
  have e2 : (d.extract 0 d.size).toList = d.toList := by simp
  rw [e1, e2] at hp
  exact hp.map _
theorem sorted_list {d' : Array SK} {n : Nat} (hn : d'.size = n) (h : Go.Sort.SortedIn (ltOf cfK) 0 n d') : (d'.toList.map toV).Pairwise fun a b => lt b.2.1 a.2.1 = false := by
  rw [List.pairwise_map]
  refine List.pairwise_iff_getElem.2 fun i j hi hj hij => ?_
  have h1 := h i j (Nat.zero_le _) hij (by simpa [← hn] using hj)
  have hi' : i < d'.size := by simpa using hi
  have hj' : j < d'.size := by simpa using hj
  rw [getElem!_pos d' i hi', getElem!_pos d' j hj', lt_cfK] at h1
  rw [Array.getElem_toList, Array.getElem_toList]
  exact h1

/-- slices.SortFunc at this row. -/
theorem sort_any (xa : Option Addr) (xn xc base : Nat) (xs : List VKS) (w : World) (hrow : w.ownsRow base 44 7 (.slice xa xn xc) xn (flatK xs)) (hl : xs.length = xn) (hs : ∀ y ∈ xs, ∃ a n c, y.1 = .slice a n c) (h16 : xn ≤ 16) :
    Calls Tryz.prog 48 #[.slice xa xn xc, .func (.func 49) #[] #[]] w fun e w' => e = .returned (.tuple #[]) ∧ ∃ xs', xs'.Perm xs ∧ (xs'.Pairwise fun a b => lt b.2.1 a.2.1 = false) ∧ w'.ownsRow base 44 7 (.slice xa xn xc) xn (flatK xs') ∧ w.grownBy w' (Value.slice xa xn xc).ownBlock := by
  obtain ⟨d, hd⟩ := ofV xs hs
  have hdl : d.toArray.size = xn := by rw [← hl, ← hd]; simp
  by_cases h0 : xn = 0
  · subst h0
    obtain rfl : xs = [] := List.eq_nil_of_length_eq_zero hl
    refine (AnyF.slices_SortFunc_none { Tryz.sortK with } xa xc _ w).mono ?_
    rintro e w' ⟨rfl, rfl⟩
    exact ⟨rfl, [], List.Perm.refl _, List.Pairwise.nil, hrow, grown_refl _ _⟩
  · have hrow' := hrow
    rcases hrow.2 with ⟨_, hn⟩ | ⟨g, cap, cur, e, _, hg, _⟩
    · exact absurd hn h0
    · injection e with e1 e2 e3
      subst e1 e3
      have hlt : g < w.heap.size := (Array.getElem?_eq_some_iff.1 hg).1
      have hrow2 : w.ownsRow base 44 7 (.slice (some ⟨g, 0, none⟩) d.toArray.size xc) d.toArray.size (flatK (d.toArray.toList.map toV)) := by
        rw [hdl]
        rw [show d.toArray.toList.map toV = xs from hd]
        exact hrow'
      have hcon := AnyQ.slices_SortFunc Tryz.sortK 7 aggK sizeK encS encS_len encS_one cfK swoK 49 #[] g 0 xc d.toArray w enters_cmp (cmp_lays _ _ _ _) (holds_row hrow2) hlt (by rw [hdl]; omega)
      rw [hdl] at hcon
      refine (show Calls Tryz.prog 48 _ _ _ from hcon).mono ?_
      rintro e w' ⟨rfl, d', m, os, hp, hso, rfl⟩
      have hps : d'.size = d.toArray.size := by rw [hdl]; rw [← hdl] at hp; exact hp.1.trans hdl
      refine ⟨rfl, d'.toList.map toV, ?_, sorted_list (by rw [hps, hdl]) hso, ?_, grown_sortK d'⟩
      · have h2 := perm_list (d := d.toArray) (d' := d') (by rw [hdl]; exact hp)
        rw [show d.toArray.toList.map toV = xs from hd] at h2
        exact h2
      · have h2 := row_sortK (n := m) (os := os) hps hrow2
        rw [hdl] at h2
        exact h2
end Go.Proofs.YtnkcbmlobikjkaaGreatDoor
