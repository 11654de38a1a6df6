/- Layer 5, plain mathematics alone: taints, what is tolerated, and who tolerates what. No program is named. -/
import Derived.Test.YtnkcbmlobikjkabDoorValE
namespace Go.Proofs.YtnkcbmlobikjkabDoor.Val
open Suf

abbrev Lab := Txt × Txt
abbrev VTol := Txt × Txt × Bool
def taintF : List Lab → List Lab → Int
  | _, [] => 0
  | seen, x :: l => if nameB x.1 = false then 7 else if valueB x.2 = false then 20 else if seen.any (fun y => y.1 == x.1) = true then 6 else taintF (seen ++ [x]) l
def taintR (l : List Lab) : Int := if 4 < l.length then 3 else taintF [] l
def formedB (o : VTol) : Bool := if o.2.2 = true then decide (o.2.1 = []) else valueB o.2.1
def tolF : List VTol → List VTol → Int
  | _, [] => 0
  | seen, x :: l => if nameB x.1 = false then 7 else if formedB x = false then 20 else if seen.any (fun y => y == x) = true then 6 else tolF (seen ++ [x]) l
def tolsR (l : List VTol) : Int := if 4 < l.length then 3 else tolF [] l
def tolB (t : Lab) (o : VTol) : Bool := (o.1 == t.1) && (o.2.2 || (o.2.1 == t.2))
def okT (m : List VTol) (t : Lab) : Bool := m.any (tolB t)
def tolerR (m : List VTol) (l : List Lab) : Bool := l.all (okT m)
def firstR (m : List VTol) : List Lab → Lab × Bool
  | [] => (([], []), false)
  | t :: l => if okT m t = true then firstR m l else (t, true)
theorem first_toler (m : List VTol) : ∀ l : List Lab, (firstR m l).2 = !tolerR m l
  | [] => rfl
  | t :: l => by
    unfold firstR tolerR
    rw [List.all_cons]
    by_cases h : okT m t = true
    · rw [if_pos h, h, first_toler m l]; rfl
    · rw [if_neg h, Bool.eq_false_iff.2 h]; rfl
theorem drop_at {α : Type} {l : List α} {k : Nat} (h : k < l.length) : l.drop k = l[k] :: l.drop (k + 1) := List.drop_eq_getElem_cons h
theorem take_at {α : Type} (l : List α) (k : Nat) (h : k < l.length) : l.take (k + 1) = l.take k ++ [l[k]] := by rw [List.take_add_one, List.getElem?_eq_getElem h]; rfl
theorem first_next {m : List VTol} {l : List Lab} {k : Nat} (h : k < l.length) (hk : okT m l[k] = true) : firstR m (l.drop k) = firstR m (l.drop (k + 1)) := by
  rw [drop_at h]; show (if _ then _ else _) = _; rw [if_pos hk]
theorem first_stop {m : List VTol} {l : List Lab} {k : Nat} (h : k < l.length) (hk : okT m l[k] = false) : firstR m (l.drop k) = (l[k], true) := by
  rw [drop_at h]; show (if _ then _ else _) = _; rw [if_neg (by rw [hk]; decide)]
theorem first_end {m : List VTol} {l : List Lab} {k : Nat} (h : k = l.length) : firstR m (l.drop k) = (([], []), false) := by
  rw [h, List.drop_length]; rfl
theorem taint_step {l : List Lab} {k : Nat} (h : k < l.length) : taintF (l.take k) (l.drop k) = if nameB l[k].1 = false then 7 else if valueB l[k].2 = false then 20 else if (l.take k).any (fun y => y.1 == l[k].1) = true then 6 else taintF (l.take (k + 1)) (l.drop (k + 1)) := by
  rw [drop_at h, take_at l k h]; rfl
theorem tol_step {l : List VTol} {k : Nat} (h : k < l.length) : tolF (l.take k) (l.drop k) = if nameB l[k].1 = false then 7 else if formedB l[k] = false then 20 else if (l.take k).any (fun y => y == l[k]) = true then 6 else tolF (l.take (k + 1)) (l.drop (k + 1)) := by
  rw [drop_at h, take_at l k h]; rfl
theorem any_next {α : Type} {p : α → Bool} (l : List α) (k : Nat) (h : k < l.length) : (l.take (k + 1)).any p = ((l.take k).any p || p l[k]) := by
  rw [take_at l k h, List.any_append]; simp
theorem any_yes {α : Type} {p : α → Bool} (l : List α) (k : Nat) (h : k < l.length) (hp : p l[k] = true) : l.any p = true := List.any_eq_true.2 ⟨l[k], List.getElem_mem h, hp⟩
/-- What TaintMore says of it. -/
theorem toler_append (m : List VTol) (a b : List Lab) : tolerR m (a ++ b) = (tolerR m a && tolerR m b) := List.all_append
theorem ok_more {m n : List VTol} {t : Lab} (h : okT m t = true) : okT (n ++ m) t = true := by
  unfold okT at *; rw [List.any_append, h, Bool.or_true]
theorem toler_more {m n : List VTol} {a : List Lab} (h : tolerR m a = true) : tolerR (n ++ m) a = true := by
  unfold tolerR at *
  rw [List.all_eq_true] at *
  exact fun t ht => ok_more (h t ht)
theorem ok_back (m : List VTol) (t : Lab) : okT m.reverse t = okT m t := by unfold okT; exact List.any_reverse
theorem toler_back (m : List VTol) (a : List Lab) : tolerR m.reverse a.reverse = tolerR m a := by
  unfold tolerR
  rw [List.all_reverse]
  congr 1
  funext t
  exact ok_back m t
theorem toler_none (a : List Lab) : tolerR [] a = (a.length == 0) := by
  cases a with
  | nil => rfl
  | cons t a => rfl
theorem toler_no (m : List VTol) : tolerR m [] = true := rfl
end Go.Proofs.YtnkcbmlobikjkabDoor.Val
