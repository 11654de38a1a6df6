/- Layer 3, plain mathematics alone: where two sets meet; what a requirement admits. No program is named. -/
import Derived.Test.YtcpgodkgdceocaaValD
namespace Go.Proofs.Ytcpgodkgdceocaa.Val
open Suf

def zeroS : VSet := ⟨false, false, false, [], 0, 0⟩
def listedS (l : List Txt) (b : VSet) : VSet := ⟨false, false, false, l.filter (hasB b), 0, 0⟩
def butS (l : List Txt) : Option VSet := if l.length ≤ 64 then some ⟨false, true, false, l, 0, 0⟩ else none
def bothLo (a b : Int) : Int := if a < b then b else a
def bothHi (a b : Int) : Int := if b < a then b else a
/-- Where two sets that may be meet, but for Miss. -/
def meetO (a b : VSet) : Option VSet :=
  if a.no = false then some (listedS a.vals b)
  else if b.no = false then some (listedS b.vals a)
  else if a.num = false ∧ b.num = false then butS (rising (a.vals ++ b.vals))
  else if a.num = false then numbersO b.lo b.hi (rising (a.vals ++ b.vals))
  else if b.num = false then numbersO a.lo a.hi (rising (a.vals ++ b.vals))
  else numbersO (bothLo a.lo b.lo) (bothHi a.hi b.hi) (rising (a.vals ++ b.vals))
def setMiss (s : VSet) (m : Bool) : VSet := ⟨m, s.no, s.num, s.vals, s.lo, s.hi⟩
/-- The answer of Meet: a set and an error. -/
def meetR (a b : VSet) : VSet × Int :=
  if checkB a = false then (zeroS, 1) else if checkB b = false then (zeroS, 1)
  else match meetO a b with | some s => (setMiss s (a.miss && b.miss), 0) | none => (zeroS, 3)

theorem check_miss (s : VSet) (m : Bool) : checkB (setMiss s m) = checkB s := rfl
theorem in_miss (s : VSet) (m : Bool) (v : Txt) : inB (setMiss s m) v = inB s v := rfl
theorem has_in {s : VSet} (h : checkB s = true) (v : Txt) (hv : valueB v = true) : hasB s v = inB s v := by unfold hasB; rw [h, hv]; rfl
theorem listed_spec {a b : VSet} (ha : checkB a = true) (hl : isList a) (hb : checkB b = true) :
    checkB (listedS a.vals b) = true ∧ ∀ v, valueB v = true → (inB (listedS a.vals b) v = true ↔ inB a v = true ∧ inB b v = true) := by
  obtain ⟨oa, _⟩ := (check_iff a).1 ha
  obtain ⟨la, va, ua⟩ := (ordered_iff _).1 oa
  have hl2 : isList (listedS a.vals b) := ⟨rfl, rfl, rfl, rfl⟩
  refine ⟨(check_iff _).2 ⟨(ordered_iff _).2 ⟨?_, fun v hv => va v (List.mem_filter.1 hv).1, up_filter _ ua⟩, Or.inl hl2⟩, fun v hv => ?_⟩
  · have := List.length_filter_le (hasB b) a.vals
    show (a.vals.filter (hasB b)).length ≤ 64
    omega
  · rw [in_list hl2, in_list hl]
    show v ∈ a.vals.filter (hasB b) ↔ _
    rw [List.mem_filter, has_in hb v hv]
theorem no_list {s : VSet} (h : checkB s = true) (hn : s.no = false) : isList s := by
  rcases ((check_iff s).1 h).2 with w | w | w
  · exact w
  · rw [w.1] at hn; cases hn
  · rw [w.1] at hn; cases hn
theorem no_but {s : VSet} (h : checkB s = true) (hn : ¬ s.no = false) (hm : s.num = false) : isBut s := by
  rcases ((check_iff s).1 h).2 with w | w | w
  · exact absurd w.1 hn
  · exact w
  · rw [w.2.1] at hm; cases hm
theorem no_nums {s : VSet} (h : checkB s = true) (hm : ¬ s.num = false) : isNums s := by
  rcases ((check_iff s).1 h).2 with w | w | w
  · exact absurd w.2.1 hm
  · exact absurd w.2.1 hm
  · exact w
theorem mem_both (a b : List Txt) (v : Txt) : v ∉ rising (a ++ b) ↔ v ∉ a ∧ v ∉ b := by
  rw [mem_rising, List.mem_append]; exact not_or
/-- What is told may be; it has what both have. -/
theorem meetO_spec {a b c : VSet} (ha : checkB a = true) (hb : checkB b = true) (h : meetO a b = some c) :
    checkB c = true ∧ ∀ v, valueB v = true → (inB c v = true ↔ inB a v = true ∧ inB b v = true) := by
  unfold meetO at h
  by_cases ha0 : a.no = false
  · rw [if_pos ha0] at h
    injection h with h; subst h
    exact listed_spec ha (no_list ha ha0) hb
  · rw [if_neg ha0] at h
    by_cases hb0 : b.no = false
    · rw [if_pos hb0] at h
      injection h with h; subst h
      have := listed_spec hb (no_list hb hb0) ha
      exact ⟨this.1, fun v hv => (this.2 v hv).trans And.comm⟩
    · rw [if_neg hb0] at h
      by_cases ha1 : a.num = false
      · have wa := no_but ha ha0 ha1
        by_cases hb1 : b.num = false
        · have wb := no_but hb hb0 hb1
          rw [if_pos ⟨ha1, hb1⟩] at h
          unfold butS at h
          by_cases hl : (rising (a.vals ++ b.vals)).length ≤ 64
          · rw [if_pos hl] at h
            injection h with h; subst h
            have w : isBut ⟨false, true, false, rising (a.vals ++ b.vals), 0, 0⟩ := ⟨rfl, rfl, rfl, rfl⟩
            refine ⟨(check_iff _).2 ⟨(ordered_iff _).2 ⟨hl, fun v hv => ?_, up_rising _⟩, Or.inr (Or.inl w)⟩, fun v _ => ?_⟩
            · rw [mem_rising, List.mem_append] at hv
              rcases hv with hv | hv
              · exact ((ordered_iff _).1 ((check_iff a).1 ha).1).2.1 v hv
              · exact ((ordered_iff _).1 ((check_iff b).1 hb).1).2.1 v hv
            · rw [in_but w, in_but wa, in_but wb]; exact mem_both _ _ _
          · rw [if_neg hl] at h; cases h
        · have wb := no_nums hb hb1
          rw [if_neg (fun c => hb1 c.2), if_pos ha1] at h
          obtain ⟨x, _, z⟩ := numbers_spec _ _ _ wb.2.2.1 wb.2.2.2.1 c h
          refine ⟨x, fun v _ => ?_⟩
          rw [z, in_but wa, in_nums wb, mem_both]
          exact ⟨fun ⟨⟨p, q⟩, r⟩ => ⟨p, q, r⟩, fun ⟨p, q, r⟩ => ⟨⟨p, q⟩, r⟩⟩
      · have wa := no_nums ha ha1
        rw [if_neg (fun c => ha1 c.1), if_neg ha1] at h
        by_cases hb1 : b.num = false
        · have wb := no_but hb hb0 hb1
          rw [if_pos hb1] at h
          obtain ⟨x, _, z⟩ := numbers_spec _ _ _ wa.2.2.1 wa.2.2.2.1 c h
          refine ⟨x, fun v _ => ?_⟩
          rw [z, in_but wb, in_nums wa, mem_both]
          exact ⟨fun ⟨⟨p, q⟩, r⟩ => ⟨⟨p, r⟩, q⟩, fun ⟨⟨p, r⟩, q⟩ => ⟨⟨p, q⟩, r⟩⟩
        · have wb := no_nums hb hb1
          rw [if_neg hb1] at h
          have b0 : -2147483648 ≤ bothLo a.lo b.lo := by
            have := wa.2.2.1; have := wb.2.2.1; unfold bothLo; split <;> omega
          have b1 : bothHi a.hi b.hi ≤ 2147483648 := by
            have := wa.2.2.2.1; have := wb.2.2.2.1; unfold bothHi; split <;> omega
          obtain ⟨x, _, z⟩ := numbers_spec _ _ _ b0 b1 c h
          refine ⟨x, fun v _ => ?_⟩
          rw [z, in_nums wa, in_nums wb, mem_both]
          have elo : ∀ n, bothLo a.lo b.lo ≤ n ↔ a.lo ≤ n ∧ b.lo ≤ n := fun n => by unfold bothLo; split <;> omega
          have ehi : ∀ n, n ≤ bothHi a.hi b.hi ↔ n ≤ a.hi ∧ n ≤ b.hi := fun n => by unfold bothHi; split <;> omega
          constructor
          · rintro ⟨⟨p, q⟩, n, e, r, t⟩
            rw [elo] at r; rw [ehi] at t
            exact ⟨⟨p, n, e, r.1, t.1⟩, ⟨q, n, e, r.2, t.2⟩⟩
          · rintro ⟨⟨p, n, e, r, t⟩, ⟨q, m, f, r2, t2⟩⟩
            rw [e] at f; injection f with f; subst f
            exact ⟨⟨p, q⟩, n, e, (elo n).2 ⟨r, r2⟩, (ehi n).2 ⟨t, t2⟩⟩
theorem numbers_miss {lo hi : Int} {but : List Txt} {s : VSet} (h : numbersO lo hi but = some s) : s.miss = false := by
  unfold numbersO numsAt at h
  split at h
  · injection h with h; subst h; rfl
  · split at h
    · cases h
    · injection h with h; subst h; rfl
theorem meetO_miss {a b c : VSet} (h : meetO a b = some c) : c.miss = false := by
  unfold meetO at h
  split at h
  · injection h with h; subst h; rfl
  · split at h
    · injection h with h; subst h; rfl
    · split at h
      · unfold butS at h
        split at h
        · injection h with h; subst h; rfl
        · cases h
      · split at h
        · exact numbers_miss h
        · split at h
          · exact numbers_miss h
          · exact numbers_miss h
theorem turn_mem (a b : List Txt) (x : Txt) : x ∈ rising (a ++ b) ↔ x ∈ rising (b ++ a) := by
  rw [mem_rising, mem_rising, List.mem_append, List.mem_append]; exact Or.comm
/-- The order of two doesn't matter. -/
theorem meetO_comm {a b : VSet} (ha : checkB a = true) (hb : checkB b = true) : meetO a b = meetO b a := by
  have hr : rising (a.vals ++ b.vals) = rising (b.vals ++ a.vals) := rising_congr fun x => by rw [List.mem_append, List.mem_append]; exact Or.comm
  by_cases ha0 : a.no = false
  · by_cases hb0 : b.no = false
    · have e1 : meetO a b = some (listedS a.vals b) := by unfold meetO; rw [if_pos ha0]
      have e2 : meetO b a = some (listedS b.vals a) := by unfold meetO; rw [if_pos hb0]
      have s1 := meetO_spec ha hb e1
      have s2 := meetO_spec hb ha e2
      rw [e1, e2]
      refine congrArg some (set_ext s1.1 s2.1 rfl fun v hv => ?_)
      rw [Bool.eq_iff_iff, s1.2 v hv, s2.2 v hv]; exact And.comm
    · unfold meetO; rw [if_pos ha0, if_neg hb0, if_pos ha0]
  · by_cases hb0 : b.no = false
    · unfold meetO; rw [if_neg ha0, if_pos hb0, if_pos hb0]
    · unfold meetO
      rw [if_neg ha0, if_neg hb0, if_neg hb0, if_neg ha0, hr]
      by_cases ha1 : a.num = false
      · by_cases hb1 : b.num = false
        · rw [if_pos ⟨ha1, hb1⟩, if_pos ⟨hb1, ha1⟩]
        · rw [if_neg (fun c => hb1 c.2), if_pos ha1, if_neg (fun c => hb1 c.1), if_neg hb1, if_pos ha1]
      · by_cases hb1 : b.num = false
        · rw [if_neg (fun c => ha1 c.1), if_neg ha1, if_pos hb1, if_neg (fun c => ha1 c.2), if_pos hb1]
        · rw [if_neg (fun c => ha1 c.1), if_neg ha1, if_neg hb1, if_neg (fun c => ha1 c.2), if_neg hb1, if_neg ha1]
          have e1 : bothLo a.lo b.lo = bothLo b.lo a.lo := by unfold bothLo; split <;> split <;> omega
          have e2 : bothHi a.hi b.hi = bothHi b.hi a.hi := by unfold bothHi; split <;> split <;> omega
          rw [e1, e2]
theorem meetR_comm (a b : VSet) : meetR a b = meetR b a := by
  unfold meetR
  cases ha : checkB a <;> cases hb : checkB b <;> simp
  rw [meetO_comm ha hb, Bool.and_comm]
/-- Numbers with what stands between them left out are told. -/
theorem numbers_told {s : VSet} (h : checkB s = true) (w : isNums s) (but : List Txt) (hbut : ∀ x, x ∈ but ↔ x ∈ s.vals) : ∃ c, numbersO s.lo s.hi but = some c := by
  obtain ⟨_, _, h0, h1, h2, h3, h4⟩ := id w
  obtain ⟨l1, l2, l3, l4⟩ := lo_spec s.lo s.hi but (by omega)
  obtain ⟨g1, g2, g3, g4⟩ := hi_spec s.lo s.hi but (by omega)
  have nlo : decZ s.lo ∉ but := fun c => by
    obtain ⟨n, e, hn, _⟩ := h4 _ ((hbut _).1 c)
    rw [numO_dec s.lo h0 (by omega)] at e; injection e with e; omega
  have nhi : decZ s.hi ∉ but := fun c => by
    obtain ⟨n, e, _, hn⟩ := h4 _ ((hbut _).1 c)
    rw [numO_dec s.hi (by omega) h1] at e; injection e with e; omega
  have elo : loOf s.lo s.hi but = s.lo := by
    apply Classical.byContradiction
    intro c
    exact nlo (l3 s.lo (Int.le_refl _) (by omega))
  have ehi : hiOf s.lo s.hi but = s.hi := by
    apply Classical.byContradiction
    intro c
    exact nhi (g3 s.hi (Int.le_refl _) (by omega))
  have hv : (valsOf s.lo s.hi but).length ≤ 64 := by
    have e : valsOf s.lo s.hi but = s.vals := up_ext (up_rising _) ((ordered_iff _).1 ((check_iff s).1 h).1).2.2 fun x => by
      rw [mem_valsOf, hbut]
      exact ⟨fun c => c.1, fun c => ⟨c, h4 x c⟩⟩
    rw [e]; exact ((ordered_iff _).1 ((check_iff s).1 h).1).1
  unfold numbersO numsAt
  rw [elo, ehi]
  split
  · exact ⟨_, rfl⟩
  · rw [if_neg (by omega)]; exact ⟨_, rfl⟩
/-- A set meets itself in itself. -/
theorem meetO_self {a : VSet} (ha : checkB a = true) : ∃ c, meetO a a = some c ∧ setMiss c a.miss = a := by
  have hself : ∀ x, x ∈ rising (a.vals ++ a.vals) ↔ x ∈ a.vals := fun x => by rw [mem_rising, List.mem_append]; exact or_self_iff
  have told : ∃ c, meetO a a = some c := by
    unfold meetO
    by_cases ha0 : a.no = false
    · rw [if_pos ha0]; exact ⟨_, rfl⟩
    · rw [if_neg ha0, if_neg ha0]
      by_cases ha1 : a.num = false
      · rw [if_pos ⟨ha1, ha1⟩]
        have e : rising (a.vals ++ a.vals) = a.vals := up_ext (up_rising _) ((ordered_iff _).1 ((check_iff a).1 ha).1).2.2 hself
        unfold butS
        rw [e, if_pos ((ordered_iff _).1 ((check_iff a).1 ha).1).1]; exact ⟨_, rfl⟩
      · rw [if_neg (fun c => ha1 c.1), if_neg ha1, if_neg ha1]
        have e1 : bothLo a.lo a.lo = a.lo := by unfold bothLo; split <;> rfl
        have e2 : bothHi a.hi a.hi = a.hi := by unfold bothHi; split <;> rfl
        rw [e1, e2]
        exact numbers_told ha (no_nums ha ha1) _ hself
  obtain ⟨c, hc⟩ := told
  have hs := meetO_spec ha ha hc
  refine ⟨c, hc, set_ext (s := setMiss c a.miss) (t := a) hs.1 ha rfl fun v hv => ?_⟩
  rw [Bool.eq_iff_iff, in_miss, hs.2 v hv]; exact and_self_iff
theorem meetR_self {a : VSet} (ha : checkB a = true) : meetR a a = (a, 0) := by
  obtain ⟨c, hc, e⟩ := meetO_self ha
  unfold meetR
  rw [if_neg (by rw [ha]; decide), if_neg (by rw [ha]; decide), hc, Bool.and_self]
  simp only [e]
theorem meetR_ok {a b c : VSet} (h : meetR a b = (c, 0)) : checkB a = true ∧ checkB b = true ∧ ∃ d, meetO a b = some d ∧ c = setMiss d (a.miss && b.miss) := by
  unfold meetR at h
  cases ha : checkB a <;> cases hb : checkB b <;> simp [ha, hb] at h
  refine ⟨rfl, rfl, ?_⟩
  cases hm : meetO a b with
  | none => rw [hm] at h; simp at h
  | some d => rw [hm] at h; simp at h; exact ⟨d, rfl, h.symm⟩
/-- What is told: it may be, has what both have, and may miss if both may. -/
theorem meetR_spec {a b c : VSet} (h : meetR a b = (c, 0)) : checkB c = true ∧ c.miss = (a.miss && b.miss) ∧ ∀ v, hasB c v = (hasB a v && hasB b v) := by
  obtain ⟨ha, hb, d, hd, rfl⟩ := meetR_ok h
  have hs := meetO_spec ha hb hd
  have hc : checkB (setMiss d (a.miss && b.miss)) = true := hs.1
  refine ⟨hc, rfl, fun v => ?_⟩
  cases hv : valueB v with
  | false => unfold hasB; rw [hv]; simp
  | true =>
    rw [has_in hc v hv, has_in ha v hv, has_in hb v hv, in_miss, Bool.eq_iff_iff, Bool.and_eq_true]
    exact hs.2 v hv
/-- Which two are taken first doesn't matter, where all is told. -/
theorem meetR_assoc {a b c ab bc x y : VSet} (h1 : meetR a b = (ab, 0)) (h2 : meetR b c = (bc, 0)) (h3 : meetR ab c = (x, 0)) (h4 : meetR a bc = (y, 0)) : x = y := by
  obtain ⟨_, m1, s1⟩ := meetR_spec h1
  obtain ⟨_, m2, s2⟩ := meetR_spec h2
  obtain ⟨c3, m3, s3⟩ := meetR_spec h3
  obtain ⟨c4, m4, s4⟩ := meetR_spec h4
  refine set_ext c3 c4 (by rw [m3, m4, m1, m2, Bool.and_assoc]) fun v hv => ?_
  rw [← has_in c3 v hv, ← has_in c4 v hv, s3, s4, s1, s2, Bool.and_assoc]

/-! What a requirement admits. -/
structure VReq where
  key : Txt
  op : Int
  vals : List Txt
  n : Int
def nodupB : List Txt → List Txt → Bool
  | _, [] => true
  | seen, v :: l => !seen.contains v && nodupB (seen ++ [v]) l
def wrongR (r : VReq) : Int :=
  if nameB r.key = false then 7
  else if r.op < 1 ∨ 6 < r.op ∨ (decide (r.op = 1 ∨ r.op = 2) != decide (0 < r.vals.length)) = true ∨ (¬ (r.op = 5 ∨ r.op = 6) ∧ ¬ r.n = 0) ∨ r.n < -2147483648 ∨ 2147483648 < r.n then 30
  else if 8 < r.vals.length then 3
  else if r.vals.all valueB = false then 20
  else if nodupB [] r.vals = false then 6
  else 0
def ofSet (r : VReq) : VSet :=
  if r.op = 1 then ⟨false, false, false, rising r.vals, 0, 0⟩
  else if r.op = 2 then ⟨true, true, false, rising r.vals, 0, 0⟩
  else if r.op = 3 then ⟨false, true, false, [], 0, 0⟩
  else if r.op = 4 then ⟨true, false, false, [], 0, 0⟩
  else if r.op = 5 then (numbersO (r.n + 1) 2147483648 []).getD zeroS
  else (numbersO (-2147483648) (r.n - 1) []).getD zeroS
def ofR (r : VReq) : VSet × Int := if wrongR r = 0 then (ofSet r, 0) else (zeroS, wrongR r)
theorem numbers_nil (lo hi : Int) : ∃ c, numbersO lo hi [] = some c := by
  unfold numbersO numsAt
  have e : ∀ l i, valsOf l i [] = [] := fun _ _ => rfl
  rw [e]
  split
  · exact ⟨_, rfl⟩
  · rw [if_neg (by decide)]; exact ⟨_, rfl⟩
/-- What the words of a requirement say. -/
def wantR (r : VReq) (v : Txt) : Bool :=
  if r.op = 1 then r.vals.contains v
  else if r.op = 2 then valueB v && !r.vals.contains v
  else if r.op = 3 then valueB v
  else if r.op = 5 then (match numO v with | some n => decide (r.n < n) | none => false)
  else if r.op = 6 then (match numO v with | some n => decide (n < r.n) | none => false)
  else false
theorem wrong_ok {r : VReq} (h : wrongR r = 0) : 1 ≤ r.op ∧ r.op ≤ 6 ∧ -2147483648 ≤ r.n ∧ r.n ≤ 2147483648 ∧ r.vals.length ≤ 8 ∧ ∀ v ∈ r.vals, valueB v = true := by
  unfold wrongR at h
  split at h
  · cases h
  · split at h
    · cases h
    · rename_i h2
      split at h
      · cases h
      · split at h
        · cases h
        · rename_i h4
          refine ⟨by omega, by omega, by omega, by omega, by omega, ?_⟩
          have : r.vals.all valueB = true := by simpa using h4
          exact List.all_eq_true.1 this
theorem list_check (l : List Txt) (m : Bool) (h8 : l.length ≤ 8) (hv : ∀ v ∈ l, valueB v = true) (n : Bool) : checkB ⟨m, n, false, rising l, 0, 0⟩ = true := by
  refine (check_iff _).2 ⟨(ordered_iff _).2 ⟨?_, fun v hx => hv v ((mem_rising l v).1 hx), up_rising _⟩, ?_⟩
  · show (rising l).length ≤ 64
    have := nodup_len (up_nodup (up_rising l)) (m := l) fun x => (mem_rising l x).1
    omega
  · cases n
    · exact Or.inl ⟨rfl, rfl, rfl, rfl⟩
    · exact Or.inr (Or.inl ⟨rfl, rfl, rfl, rfl⟩)
/-- What a requirement admits is what its words say. -/
theorem of_spec {r : VReq} (h : wrongR r = 0) : checkB (ofSet r) = true ∧ (ofSet r).miss = decide (r.op = 2 ∨ r.op = 4) ∧ ∀ v, hasB (ofSet r) v = wantR r v := by
  obtain ⟨o1, o6, n0, n1, l8, vv⟩ := wrong_ok h
  unfold ofSet wantR
  by_cases e1 : r.op = 1
  · rw [if_pos e1]
    have hc := list_check r.vals false l8 vv false
    refine ⟨hc, by rw [e1]; rfl, fun v => ?_⟩
    rw [if_pos e1, Bool.eq_iff_iff, has_iff, in_list (s := ⟨false, false, false, rising r.vals, 0, 0⟩) ⟨rfl, rfl, rfl, rfl⟩, List.contains_iff_mem]
    show _ ∧ _ ∧ v ∈ rising r.vals ↔ _
    rw [mem_rising]
    exact ⟨fun x => x.2.2, fun x => ⟨hc, vv v x, x⟩⟩
  · rw [if_neg e1]
    by_cases e2 : r.op = 2
    · rw [if_pos e2]
      have hc := list_check r.vals true l8 vv true
      refine ⟨hc, by rw [e2]; rfl, fun v => ?_⟩
      rw [if_neg e1, if_pos e2, Bool.eq_iff_iff, has_iff, in_but (s := ⟨true, true, false, rising r.vals, 0, 0⟩) ⟨rfl, rfl, rfl, rfl⟩]
      show _ ∧ _ ∧ v ∉ rising r.vals ↔ _
      rw [mem_rising, Bool.and_eq_true]
      exact ⟨fun x => ⟨x.2.1, by simpa using x.2.2⟩, fun x => ⟨hc, x.1, by simpa using x.2⟩⟩
    · rw [if_neg e2]
      by_cases e3 : r.op = 3
      · rw [if_pos e3]
        have hc : checkB ⟨false, true, false, [], 0, 0⟩ = true := by decide
        refine ⟨hc, by rw [e3]; rfl, fun v => ?_⟩
        rw [if_neg e1, if_neg e2, if_pos e3, Bool.eq_iff_iff, has_iff, in_but (s := ⟨false, true, false, [], 0, 0⟩) ⟨rfl, rfl, rfl, rfl⟩]
        exact ⟨fun x => x.2.1, fun x => ⟨hc, x, by simp⟩⟩
      · rw [if_neg e3]
        by_cases e4 : r.op = 4
        · rw [if_pos e4]
          have hc : checkB ⟨true, false, false, [], 0, 0⟩ = true := by decide
          refine ⟨hc, by rw [e4]; rfl, fun v => ?_⟩
          rw [if_neg e1, if_neg e2, if_neg e3, if_neg (by omega), if_neg (by omega), Bool.eq_iff_iff, has_iff, in_list (s := ⟨true, false, false, [], 0, 0⟩) ⟨rfl, rfl, rfl, rfl⟩]
          exact ⟨fun x => absurd x.2.2 (by simp), fun x => by cases x⟩
        · rw [if_neg e4]
          by_cases e5 : r.op = 5
          · rw [if_pos e5]
            obtain ⟨c, hc⟩ := numbers_nil (r.n + 1) 2147483648
            rw [hc]
            obtain ⟨k, m, i⟩ := numbers_spec _ _ _ (by omega) (by omega) c hc
            refine ⟨k, by show c.miss = _; rw [m, e5]; rfl, fun v => ?_⟩
            show hasB c v = _
            rw [if_neg e1, if_neg e2, if_neg e3, if_pos e5, Bool.eq_iff_iff, has_iff, i]
            constructor
            · rintro ⟨_, _, _, n, e, a, _⟩; rw [e]; simp; omega
            · intro x
              cases e : numO v with
              | none => rw [e] at x; cases x
              | some n =>
                rw [e] at x
                have := ((numO_iff v n).1 e).2
                exact ⟨k, num_value e, by simp, n, rfl, by simp at x; omega, this.2⟩
          · rw [if_neg e5]
            have e6 : r.op = 6 := by omega
            obtain ⟨c, hc⟩ := numbers_nil (-2147483648) (r.n - 1)
            rw [hc]
            obtain ⟨k, m, i⟩ := numbers_spec _ _ _ (by omega) (by omega) c hc
            refine ⟨k, by show c.miss = _; rw [m, e6]; rfl, fun v => ?_⟩
            show hasB c v = _
            rw [if_neg e1, if_neg e2, if_neg e3, if_neg e5, if_pos e6, Bool.eq_iff_iff, has_iff, i]
            constructor
            · rintro ⟨_, _, _, n, e, _, a⟩; rw [e]; simp; omega
            · intro x
              cases e : numO v with
              | none => rw [e] at x; cases x
              | some n =>
                rw [e] at x
                have := ((numO_iff v n).1 e).2
                exact ⟨k, num_value e, by simp, n, rfl, this.1, by simp at x; omega⟩

end Go.Proofs.Ytcpgodkgdceocaa.Val
