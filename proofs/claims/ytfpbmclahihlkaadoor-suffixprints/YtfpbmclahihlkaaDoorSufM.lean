/- Layer 2, plain mathematics alone: the digits ahead of a text and what is behind them, against the document's way of reading. -/
import Derived.Test.YtfpbmclahihlkaaDoorSufB
namespace Go.Proofs.YtfpbmclahihlkaaDoor
open Suf

/-- The digits ahead of a text; what is behind them. -/
def lead (l : List UInt8) : List UInt8 := l.takeWhile dig
def rest (l : List UInt8) : List UInt8 := l.dropWhile dig
theorem lead_rest (l : List UInt8) : lead l ++ rest l = l := List.takeWhile_append_dropWhile
theorem rest_drop (l : List UInt8) : rest l = l.drop (lead l).length := by
  have := congrArg (List.drop (lead l).length) (lead_rest l)
  rw [List.drop_left] at this; exact this
theorem lead_app (d r : List UInt8) (hd : d.all dig = true) (hr : ∀ c, r.head? = some c → dig c = false) : lead (d ++ r) = d ∧ rest (d ++ r) = r := by
  have h := List.all_eq_true.1 hd
  unfold lead rest
  rw [List.takeWhile_append_of_pos h, List.dropWhile_append_of_pos h]
  cases r with
  | nil => simp
  | cons c r =>
    have := hr c rfl
    rw [List.takeWhile_cons, List.dropWhile_cons, this]; simp
theorem lead_all (d : List UInt8) (hd : d.all dig = true) : lead d = d ∧ rest d = [] := by
  have := lead_app d [] hd (fun c h => by cases h)
  rw [List.append_nil] at this; exact this
theorem none_head {r : List UInt8} {b : UInt8} (t : List UInt8) (hr : r = b :: t) (hb : dig b = false) : ∀ c, r.head? = some c → dig c = false := by
  subst hr; intro c h; simp at h; subst h; exact hb

/-- CPUs, read from the front. -/
def qCPU (l : List UInt8) : Int × Int := if digs (lead l) then (if rest l = [] then times (val (lead l)) 1000 else if rest l = [109] then times (val (lead l)) 1 else form) else form
theorem lastIs_true (l : List UInt8) (c : UInt8) (h : lastIs l c = true) : l = l.dropLast ++ [c] := by
  unfold lastIs at h
  have h' := beq_iff_eq.1 h
  obtain ⟨ys, hy⟩ := List.getLast?_eq_some_iff.1 h'
  rw [hy, List.dropLast_concat]
theorem cpu_front (l : List UInt8) : pCPU l = qCPU l := by
  unfold pCPU
  by_cases h : lastIs l 109 = true
  · rw [if_pos h]
    have e := lastIs_true l 109 h
    generalize l.dropLast = d at e
    subst e
    by_cases hd : digs d = true
    · have := lead_app d [109] (digs_all d hd) (none_head [] rfl (by decide))
      rw [if_pos hd]; unfold qCPU
      rw [this.1, this.2, if_pos hd, if_neg (by simp), if_pos rfl]
    · rw [if_neg hd]
      unfold qCPU
      by_cases hl : digs (lead (d ++ [109])) = true
      · rw [if_pos hl]
        by_cases h0 : rest (d ++ [109]) = []
        · exfalso
          have e := lead_rest (d ++ [109])
          rw [h0, List.append_nil] at e
          have hm : (109 : UInt8) ∈ lead (d ++ [109]) := by rw [e]; simp
          have := digs_no _ 109 (by decide) hm
          rw [hl] at this; cases this
        · rw [if_neg h0]
          by_cases h1 : rest (d ++ [109]) = [109]
          · exfalso
            have e := lead_rest (d ++ [109])
            rw [h1] at e
            have := List.append_cancel_right e
            rw [this] at hl; exact hd hl
          · rw [if_neg h1]
      · rw [if_neg hl]
  · rw [if_neg h]
    by_cases hd : digs l = true
    · have := lead_all l (digs_all l hd)
      rw [if_pos hd]; unfold qCPU
      rw [this.1, this.2, if_pos hd, if_pos rfl]
    · rw [if_neg hd]
      unfold qCPU
      by_cases hl : digs (lead l) = true
      · rw [if_pos hl]
        by_cases h0 : rest l = []
        · exfalso
          have e := lead_rest l
          rw [h0, List.append_nil] at e
          rw [e] at hl; exact hd hl
        · rw [if_neg h0]
          by_cases h1 : rest l = [109]
          · exfalso
            have e := lead_rest l
            rw [h1] at e
            apply h
            rw [← e, lastIs_snoc]; rfl
          · rw [if_neg h1]
      · rw [if_neg hl]

/-- Bytes, read from the front. -/
def qBytes (l : List UInt8) : Int × Int :=
  if digs (lead l) then (if rest l = suf 4 then times (val (lead l)) (1024 ^ 4) else if rest l = suf 3 then times (val (lead l)) (1024 ^ 3) else if rest l = suf 2 then times (val (lead l)) (1024 ^ 2) else if rest l = suf 1 then times (val (lead l)) (1024 ^ 1) else if rest l = suf 0 then times (val (lead l)) (1024 ^ 0) else form) else form
theorem suf_head (k : Nat) (hk : k ≤ 4) : ∀ c, (suf k).head? = some c → dig c = false := by
  match k, hk with
  | 0, _ => intro c h; cases h
  | 1, _ => exact none_head [105] rfl (by decide)
  | 2, _ => exact none_head [105] rfl (by decide)
  | 3, _ => exact none_head [105] rfl (by decide)
  | 4, _ => exact none_head [105] rfl (by decide)
theorem ends_split (l e : List UInt8) (h : endsW l e = true) : l = front l e ++ e := by
  unfold endsW at h; rw [decide_eq_true_eq] at h
  unfold front
  have := List.take_append_drop (l.length - e.length) l
  rw [h.2] at this; exact this.symm
theorem pB_none (l : List UInt8) (hn : ∀ d k, k ≤ 4 → digs d = true → l = d ++ suf k → False) : ∀ i, i ≤ 4 → pB l i = form
  | 0, _ => by
    show (if digs l then times (val l) 1 else form) = form
    by_cases h : digs l = true
    · exact (hn l 0 (by omega) h (List.append_nil l).symm).elim
    · rw [if_neg h]
  | i + 1, hi => by
    show (if endsW l (suf (i + 1)) && digs (front l (suf (i + 1))) then _ else pB l i) = form
    by_cases h : (endsW l (suf (i + 1)) && digs (front l (suf (i + 1)))) = true
    · rw [Bool.and_eq_true] at h
      exact (hn _ (i + 1) hi h.2 (ends_split l _ h.1)).elim
    · rw [if_neg h]; exact pB_none l hn i (by omega)
theorem qBytes_read (d : List UInt8) (hd : digs d = true) (k : Nat) (hk : k ≤ 4) : qBytes (d ++ suf k) = times (val d) (1024 ^ k) := by
  have := lead_app d (suf k) (digs_all d hd) (suf_head k hk)
  unfold qBytes
  rw [this.1, this.2, if_pos hd]
  match k, hk with
  | 0, _ => rw [if_neg (by decide), if_neg (by decide), if_neg (by decide), if_neg (by decide), if_pos rfl]
  | 1, _ => rw [if_neg (by decide), if_neg (by decide), if_neg (by decide), if_pos rfl]
  | 2, _ => rw [if_neg (by decide), if_neg (by decide), if_pos rfl]
  | 3, _ => rw [if_neg (by decide), if_pos rfl]
  | 4, _ => rw [if_pos rfl]
theorem bytes_front (l : List UInt8) : pBytes l = qBytes l := by
  by_cases h : ∃ d k, k ≤ 4 ∧ digs d = true ∧ l = d ++ suf k
  · obtain ⟨d, k, hk, hd, rfl⟩ := h
    rw [pBytes_read d hd k hk, qBytes_read d hd k hk]
  · have hn : ∀ d k, k ≤ 4 → digs d = true → l = d ++ suf k → False := fun d k h1 h2 h3 => h ⟨d, k, h1, h2, h3⟩
    rw [show pBytes l = pB l 4 from rfl, pB_none l hn 4 (Nat.le_refl _)]
    unfold qBytes
    by_cases hl : digs (lead l) = true
    · have e := lead_rest l
      have no : ∀ k, k ≤ 4 → ¬ rest l = suf k := fun k hk c => hn (lead l) k hk hl (by rw [← c]; exact e.symm)
      rw [if_pos hl, if_neg (no 4 (by omega)), if_neg (no 3 (by omega)), if_neg (no 2 (by omega)), if_neg (no 1 (by omega)), if_neg (no 0 (by omega))]
    · rw [if_neg hl]

/-- What stands behind the dollars: how many micro-dollars it is. -/
def partsR (l : List UInt8) : Option Nat :=
  match l with
  | [] => some 0
  | c :: r => if (c == 46) && (decide (1 ≤ r.length ∧ r.length ≤ 6) && r.all dig) then some (Suf.part r) else none
theorem partsR_nil : partsR [] = some 0 := rfl
theorem partsR_cons (c : UInt8) (r : List UInt8) : partsR (c :: r) = if (c == 46) && (decide (1 ≤ r.length ∧ r.length ≤ 6) && r.all dig) then some (Suf.part r) else none := rfl
/-- Dollars, read from the front. -/
def qMoney (l : List UInt8) : Int × Int :=
  if digs (lead l) then (match partsR (rest l) with | some v => money (val (lead l)) v | none => form) else form
theorem point_split (l : List UInt8) (h : pointed l = true) : l = whole l ++ 46 :: behind l := by
  unfold pointed at h
  unfold whole behind
  induction l with
  | nil => cases h
  | cons c l ih =>
    by_cases hc : c = 46
    · subst hc; simp
    · have hm : l.contains 46 = true := by
        rw [List.contains_cons] at h
        rcases Bool.or_eq_true _ _ ▸ h with h | h
        · exact absurd (beq_iff_eq.1 h).symm hc
        · exact h
      have hne : (c != 46) = true := bne_iff_ne.2 hc
      rw [List.takeWhile_cons, List.dropWhile_cons, if_pos hne, if_pos hne, List.cons_append, ← ih hm]
theorem money_front (l : List UInt8) : pMoney l = qMoney l := by
  by_cases hA : ∃ d r, digs d = true ∧ l = d ++ 46 :: r
  · obtain ⟨d, r, hd, rfl⟩ := hA
    have ha := digs_all d hd
    have hw := whole_at d r ha
    have hf := lead_app d (46 :: r) ha (none_head r rfl (by decide))
    unfold pMoney qMoney
    rw [pointed_at, hw.1, hw.2, hf.1, hf.2, hd, if_pos rfl, if_pos rfl, Bool.true_and, partsR_cons]
    by_cases h : (decide (1 ≤ r.length ∧ r.length ≤ 6) && r.all dig) = true
    · rw [if_pos h, h, beq_self_eq_true, Bool.true_and, if_pos rfl]
    · rw [if_neg h, eq_false_of_ne_true h, Bool.and_false, if_neg (by decide)]
  · by_cases hd : digs l = true
    · have ha := digs_all l hd
      have hf := lead_all l ha
      unfold pMoney qMoney
      rw [pointed_no l ha, hf.1, hf.2, hd, if_neg (by decide), if_pos rfl, if_pos rfl, partsR_nil]
    · have e := lead_rest l
      have h1 : pMoney l = form := by
        unfold pMoney
        by_cases hp : pointed l = true
        · rw [if_pos hp]
          have hs := point_split l hp
          by_cases hw : digs (whole l) = true
          · exact (hA ⟨_, _, hw, hs⟩).elim
          · rw [eq_false_of_ne_true hw, Bool.false_and, if_neg (by decide)]
        · rw [if_neg hp, if_neg hd]
      rw [h1]
      unfold qMoney
      by_cases hl : digs (lead l) = true
      · rw [if_pos hl]
        cases hr : rest l with
        | nil => rw [hr, List.append_nil] at e; rw [e] at hl; exact absurd hl hd
        | cons c r =>
          rw [partsR_cons]
          by_cases hc : c = 46
          · subst hc; rw [hr] at e; exact (hA ⟨_, _, hl, e.symm⟩).elim
          · rw [beq_eq_false_iff_ne.2 hc, Bool.false_and, if_neg (by decide)]
      · rw [if_neg hl]
theorem part_bound (r : List UInt8) (h : r.length ≤ 6) (ha : r.all dig = true) (hv : ∀ l : List UInt8, l.all dig = true → val l < 10 ^ l.length) : Suf.part r < 1000000 := by
  unfold Suf.part
  have h1 : (r ++ List.replicate (6 - r.length) 48).all dig = true := by
    rw [List.all_append, ha, Bool.true_and, List.all_eq_true]
    intro x hx; rw [List.eq_of_mem_replicate hx]; decide
  have := hv _ h1
  rw [List.length_append, List.length_replicate, show r.length + (6 - r.length) = 6 by omega] at this
  exact this

end Go.Proofs.YtfpbmclahihlkaaDoor
