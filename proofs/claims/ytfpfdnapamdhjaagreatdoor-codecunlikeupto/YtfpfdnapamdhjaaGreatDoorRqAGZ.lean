/- Layer 4,plain mathematics alone: several requirements; sets by their keys; that their order doesn't matter; labels that meet them. No program is named. -/
import Derived.Test.YtfpfdnapamdhjaaGreatDoorValAGZ
namespace Go.Proofs.YtfpfdnapamdhjaaGreatDoor.Val
open Suf

/-- A key and its set. -/
abbrev KS := Txt × VSet
/-- The error of the first one that has one. -/
def firstR : List VReq -> Int
  | [] => 0
  | r :: l => if wrongR r = 0 then firstR l else wrongR r
def moreR (n : Nat) (l : List VReq) : Int := if n < l.length then 3 else firstR l
theorem first_ok : ∀ {l : List VReq},firstR l = 0 ↔ ∀ r ∈ l,wrongR r = 0
  | [] => by simp [firstR]
  | r :: l => by
    unfold firstR
    by_cases h : wrongR r = 0
    · rw [if_pos h,first_ok (l := l)]; simp [h]
    · rw [if_neg h]; simp [h]
theorem more_ok {n : Nat} {l : List VReq} : moreR n l = 0 ↔ l.length <= n /\ ∀ r ∈ l,wrongR r = 0 := by
  unfold moreR
  by_cases h : n < l.length
  · rw [if_pos h]; constructor
    · intro e; cases e
    · intro e; omega
  · rw [if_neg h,first_ok]; constructor
    · intro e; exact ⟨by omega,e⟩
    · intro e; exact e.2
theorem first_take {l : List VReq} {k : Nat} (h : k < l.length) (ha : ∀ r ∈ l.take k,wrongR r = 0) (hw : ¬ wrongR l[k] = 0) : firstR l = wrongR l[k] := by
  induction l generalizing k with
  | nil => simp at h
  | cons r l ih =>
    unfold firstR
    cases k with
    | zero => rw [if_neg (by simpa using hw)]; rfl
    | succ k =>
      rw [if_pos (ha r (by simp))]
      exact ih (by simpa using h) (fun x hx => ha x (by rw [List.take_succ_cons]; exact List.mem_cons_of_mem _ hx)) hw

def keyS (r : VReq) : KS := (r.key,ofSet r)

/-! No error on the way,where few values are to be written. -/

/-! Labels. -/
abbrev Lab := Txt × Txt

end Go.Proofs.YtfpfdnapamdhjaaGreatDoor.Val
