/- Layer 7,plain mathematics alone: coolings that may be; one laid among them; who is cool,who is left,what still counts,till when. No program is named. -/
import Derived.Test.YtfpfdnapamdhjaaGreatDoorCaAGZ
namespace Go.Proofs.YtfpfdnapamdhjaaGreatDoor.Val
open Suf

abbrev VCool := VOff × Int
def oneR (c : VCool) : Int := if (nameB c.1.1 && (nameB c.1.2.1 && nameB c.1.2.2)) = false then 7 else if c.2 < 0 ∨ 1099511627776 < c.2 then 1 else 0
def behind (p : Option VOff) (o : VOff) : Bool := match p with
  | none => true
  | some q => lessO q o
def coolF : Option VOff -> List VCool -> Int
  | _,[] => 0
  | p,c :: l => if ¬ oneR c = 0 then oneR c else if behind p c.1 = false then 6 else coolF (some c.1) l
def coolR (l : List VCool) : Int := if 72 < l.length then 3 else coolF none l

def prevO (l : List VCool) : Nat -> Option VOff
  | 0 => none
  | k + 1 => (l[k]?).map (·.1)
theorem cool_step {l : List VCool} {k : Nat} (h : k < l.length) : coolF (prevO l k) (l.drop k) = if ¬ oneR l[k] = 0 then oneR l[k] else if behind (prevO l k) l[k].1 = false then 6 else coolF (prevO l (k + 1)) (l.drop (k + 1)) := by
  rw [List.drop_eq_getElem_cons h]
  show (if _ then _ else _) = _
  rw [show prevO l (k + 1) = some l[k].1 by show (l[k]?).map (·.1) = _; rw [List.getElem?_eq_getElem h]; rfl]
end Go.Proofs.YtfpfdnapamdhjaaGreatDoor.Val
