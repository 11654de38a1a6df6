/- Layer 8,plain mathematics alone: pods,pools,claims and commands that may be; less of a pod; a command of one of its nodes. No program is named. -/
import Derived.Test.YtfpfdnapamdhjaaGreatDoorCoAGZ
import Derived.Test.YtfpfdnapamdhjaaGreatDoorRqAGZ
import Derived.Test.YtfpfdnapamdhjaaGreatDoorT8AGZ
import Derived.Test.YtfpfdnapamdhjaaGreatDoorAmAGZ
import Derived.Test.YtfpfdnapamdhjaaGreatDoorGenAGZ
namespace Go.Proofs.YtfpfdnapamdhjaaGreatDoor.Val
open Suf

abbrev VTerm := Txt × Txt
abbrev VSpr := Txt × Txt × Int
structure VPod where
  name : Txt
  app : Txt
  need : Int × Int
  prio : Int
  reqs : List VReq
  tols : List (Txt × Txt × Bool)
  spread : List VSpr
  near : List VTerm
  apart : List VTerm
  since : Int
  on : Txt
structure VPool where
  name : Txt
  weight : Int
  limit : Int × Int
  reqs : List VReq
  taints : List (Txt × Txt)
  gen : Int
  expire : Int
  budget : Int
  merge : Int
structure VClaim where
  name : Txt
  pool : Txt
  gen : Int
  offer : VOff
  price : Int
  cap : Int × Int
  opts : List VOff
  tryN : Int
  id : Txt
  phase : Int
  born : Int
  marked : Bool
structure VCmd where
  cause : Int
  nodes : List Txt
  step : Int
  til : Int
  fresh : Txt
  pool : Txt
  opts : List VOff
  made : Bool
structure VAny where
  kind : Int
  pod : VPod
  pool : VPool
  claim : VClaim
  cmd : VCmd
  cool : VOff × Int
def orE : List Int -> Int
  | [] => 0
  | z :: l => if z = 0 then orE l else z
def unl (b : Bool) (e : Int) : Int := if b then 0 else e
def btwB (lo n hi : Int) : Bool := decide (lo <= n) && decide (n <= hi)
def timeB (n : Int) : Bool := btwB 0 n 1099511627776
def onB (s : Txt) : Bool := (s == []) || nameB s
def namedO (o : VOff) : Bool := nameB o.1 && (nameB o.2.1 && nameB o.2.2)
def k8Zone : Txt := [122,111,110,101]
def k8Host : Txt := [104,111,115,116]
def termE (t : VTerm) : Int := orE [unl ((t.1 == k8Zone) || (t.1 == k8Host)) 1,unl (nameB t.2) 7]
def spreadE (s : VSpr) : Int := orE [termE (s.1,s.2.1),unl (btwB 1 s.2.2 16) 1]
def allE {α : Type} (f : α -> Int) : List α -> Int
  | [] => 0
  | x :: l => if f x = 0 then allE f l else f x
def offF : List VOff -> List VOff -> Int
  | _,[] => 0
  | seen,o :: l => if namedO o = false then 7 else if seen.any (fun y => y == o) = true then 6 else offF (seen ++ [o]) l
def offsR8 (l : List VOff) : Int := if 72 < l.length then 3 else offF [] l
def behindT (p : Option Txt) (x : Txt) : Bool := match p with
  | none => true
  | some q => lt q x
def nodesF : Option Txt -> List Txt -> Int
  | _,[] => 0
  | p,x :: l => if nameB x = false then 7 else if behindT p x = false then 6 else nodesF (some x) l
def nodesR (l : List Txt) : Int := if 4 < l.length then 3 else if l.length = 0 then 1 else nodesF none l
def podR (p : VPod) : Int := orE [unl (nameB p.name && nameB p.app) 7,Am.chkA p.need.1 p.need.2,unl (btwB (-1000) p.prio 1000) 1,moreR 8 p.reqs,Ta.Val.tolsR p.tols,
  unl (decide (p.spread.length <= 3 /\ p.near.length <= 3 /\ p.apart.length <= 3)) 3,allE spreadE p.spread,allE termE p.near,allE termE p.apart,unl (timeB p.since) 1,unl (onB p.on) 7]
def poolR (p : VPool) : Int := orE [unl (nameB p.name) 7,unl (btwB 0 p.weight 100) 1,Am.chkA p.limit.1 p.limit.2,moreR 8 p.reqs,Ta.Val.taintR p.taints,unl (timeB p.gen && btwB 0 p.expire 1073741824) 1,unl (btwB 0 p.budget 16) 1,unl (btwB 0 p.merge 2) 1]
def claimR (c : VClaim) : Int := orE [unl ((nameB c.name && nameB c.pool) && namedO c.offer) 7,Am.chk c.price,Am.chkA c.cap.1 c.cap.2,offsR8 c.opts,unl (btwB 1 c.tryN 32) 1,unl (decide (c.id.length <= 16)) 2,unl (btwB 1 c.phase 4) 1,unl (timeB c.gen && timeB c.born) 1]
def cmdR (c : VCmd) : Int := orE [unl (btwB 1 c.cause 4) 1,unl (btwB 1 c.step 3) 1,nodesR c.nodes,unl (timeB c.til) 1,unl (onB c.fresh && onB c.pool) 7,offsR8 c.opts]

theorem ore_cons (z : Int) (l : List Int) : orE (z :: l) = if z = 0 then orE l else z := rfl
theorem ore_zero : ∀ {l : List Int},orE l = 0 ↔ ∀ z ∈ l,z = 0
  | [] => by simp [orE]
  | z :: l => by
    rw [ore_cons]
    by_cases h : z = 0
    · rw [if_pos h,ore_zero]; simp [h]
    · rw [if_neg h]
      exact ⟨fun e => absurd e h,fun e => absurd (e z (List.mem_cons_self ..)) h⟩
theorem ore_step {l : List Int} {k : Nat} (h : k < l.length) : orE (l.drop k) = if l[k] = 0 then orE (l.drop (k + 1)) else l[k] := by rw [List.drop_eq_getElem_cons h]; rfl
theorem unl_zero {b : Bool} {e : Int} (he : e ≠ 0) : unl b e = 0 ↔ b = true := by
  cases b
  · exact ⟨fun h => absurd h he,fun h => by cases h⟩
  · exact ⟨fun _ => rfl,fun _ => rfl⟩
section
variable {α : Type} {f : α -> Int}
theorem alle_zero : ∀ {l : List α},allE f l = 0 ↔ ∀ x ∈ l,f x = 0
  | [] => by simp [allE]
  | x :: l => by
    show (if f x = 0 then allE f l else f x) = 0 ↔ _
    by_cases h : f x = 0
    · rw [if_pos h,alle_zero]; simp [h]
    · rw [if_neg h]
      exact ⟨fun e => absurd e h,fun e => absurd (e x (List.mem_cons_self ..)) h⟩
theorem alle_step {l : List α} {k : Nat} (h : k < l.length) : allE f (l.drop k) = if f l[k] = 0 then allE f (l.drop (k + 1)) else f l[k] := by rw [List.drop_eq_getElem_cons h]; rfl
theorem alle_one (x : α) : allE f [x] = f x := by
  show (if f x = 0 then allE f [] else f x) = f x
  by_cases h : f x = 0
  · rw [if_pos h,h]; rfl
  · rw [if_neg h]
end
theorem off_step {l : List VOff} {k : Nat} (h : k < l.length) : offF (l.take k) (l.drop k) = if namedO l[k] = false then 7 else if (l.take k).any (fun y => y == l[k]) = true then 6 else offF (l.take (k + 1)) (l.drop (k + 1)) := by
  rw [List.drop_eq_getElem_cons h]
  show (if namedO l[k] = false then 7 else if (l.take k).any (fun y => y == l[k]) = true then 6 else offF (l.take k ++ [l[k]]) (l.drop (k + 1))) = _
  rw [List.take_append_getElem h]
def prevT (l : List Txt) : Nat -> Option Txt
  | 0 => none
  | k + 1 => l[k]?
theorem prevT_at {l : List Txt} {k : Nat} (h : k < l.length) : prevT l (k + 1) = some l[k] := List.getElem?_eq_getElem h
theorem nodes_step {l : List Txt} {k : Nat} (h : k < l.length) : nodesF (prevT l k) (l.drop k) = if nameB l[k] = false then 7 else if behindT (prevT l k) l[k] = false then 6 else nodesF (prevT l (k + 1)) (l.drop (k + 1)) := by
  rw [List.drop_eq_getElem_cons h,prevT_at h]
  rfl
end Go.Proofs.YtfpfdnapamdhjaaGreatDoor.Val

/- Kinds of the program's own data,out of tools/reps.py. No function of the program is named. -/
namespace Go.Proofs.YtfpfdnapamdhjaaGreatDoor
open Go.ChangeShapes Go.WideShapes Go.ChangeAt Go.RowKit Val

def offK : Rep (Txt × Txt × Txt) := (pairK strK (pairK strK strK))
theorem off_at {w : World} {b o : Nat} {x : Txt × Txt × Txt} : At offK w b o x ↔ (w.cell? ⟨b,o,none⟩ = some (.string (bytesT x.1)) /\ short x.1) /\ (w.cell? ⟨b,o + 1,none⟩ = some (.string (bytesT x.2.1)) /\ short x.2.1) /\ (w.cell? ⟨b,o + 2,none⟩ = some (.string (bytesT x.2.2)) /\ short x.2.2) := by
  constructor
  · intro h
    obtain ⟨h0,g0⟩ := at_pair.1 h
    obtain ⟨h1,g1⟩ := at_pair.1 g0
    exact ⟨at_str.1 h0,at_str.1 h1,at_str.1 g1⟩
  · rintro ⟨h0,h1,h2⟩
    exact (at_pair.2 ⟨(at_str.2 h0),(at_pair.2 ⟨(at_str.2 h1),(at_str.2 h2)⟩)⟩)
theorem off_cells : Tryz.prog.cellsOf 34 = 3 := by kernel_rfl
theorem off_bytes : Tryz.prog.bytesOf 34 = 48 := by kernel_rfl
section
variable {H : Type} {enc : TypeId × Value -> H} {W : World} {base : Nat} {spare : Nat -> Bool} {held : Bool}
set_option maxRecDepth 100000 in
theorem opens_off : Opens enc W base spare held offK 34 := fun n cs y h hz => by
  obtain ⟨xs,n,_,hx,hl,hlen,hfs⟩ := DataW.trod_struct Tryz.underlying34 h
  rw [off_cells] at hl
  match xs,hlen with
  | [y0,y1,y2],_ =>
    have hd := congrArg Prod.fst hx
    simp only at hd
    have hw : ∀ (j : Nat) (t : TypeId) (x : DataW H),[9,9,9][j]? = some t -> [y0.1,y1.1,y2.1][j]? = some x -> ∀ k ∈ x.weights Tryz.prog t,k <= reachBytes := fun j t x h1 h2 k hk => hz k (by
      rw [hd]
      simp only [DataW.weights,Tryz.underlying34]
      exact DataW.weights_mem_each (j := j) h1 h2 k hk)
    match cs,hl with
    | [c0,c1,c2],_ =>
      have h0 := hfs 0 _ rfl
      have h1 := hfs 1 _ rfl
      have h2 := hfs 2 _ rfl
      simp only [List.getElem?_cons_zero,List.getElem?_cons_succ] at h0 h1 h2
      exact (opens_pair (opens_str Tryz.underlying9 _ _ _ h0 (hw 0 _ _ rfl rfl)) (opens_pair (opens_str Tryz.underlying9 _ _ _ h1 (hw 1 _ _ rfl rfl)) (opens_str Tryz.underlying9 _ _ _ h2 (hw 2 _ _ rfl rfl))))
end
def coolK : Rep ((Txt × Txt × Txt) × Int) := (pairK offK intK)
theorem cool_at {w : World} {b o : Nat} {x : (Txt × Txt × Txt) × Int} : At coolK w b o x ↔ At offK w b o x.1 /\ w.cell? ⟨b,o + 3,none⟩ = some (.int .i64 x.2) := by
  constructor
  · intro h
    obtain ⟨h0,g0⟩ := at_pair.1 h
    exact ⟨h0,at_int.1 g0⟩
  · rintro ⟨h0,h1⟩
    exact (at_pair.2 ⟨h0,(at_int.2 h1)⟩)
theorem cool_cells : Tryz.prog.cellsOf 42 = 4 := by kernel_rfl
section
variable {H : Type} {enc : TypeId × Value -> H} {W : World} {base : Nat} {spare : Nat -> Bool} {held : Bool}
set_option maxRecDepth 100000 in
theorem opens_cool : Opens enc W base spare held coolK 42 := fun n cs y h hz => by
  obtain ⟨xs,n,_,hx,hl,hlen,hfs⟩ := DataW.trod_struct Tryz.underlying42 h
  rw [cool_cells] at hl
  match xs,hlen with
  | [y0,y1],_ =>
    have hd := congrArg Prod.fst hx
    simp only at hd
    have hw : ∀ (j : Nat) (t : TypeId) (x : DataW H),[34,2][j]? = some t -> [y0.1,y1.1][j]? = some x -> ∀ k ∈ x.weights Tryz.prog t,k <= reachBytes := fun j t x h1 h2 k hk => hz k (by
      rw [hd]
      simp only [DataW.weights,Tryz.underlying42]
      exact DataW.weights_mem_each (j := j) h1 h2 k hk)
    match cs,hl with
    | [c0,c1,c2,c3],_ =>
      have h0 := hfs 0 _ rfl
      have h1 := hfs 1 _ rfl
      simp only [List.getElem?_cons_zero,List.getElem?_cons_succ] at h0 h1
      exact (opens_pair (opens_off _ _ _ h0 (hw 0 _ _ rfl rfl)) (opens_int Tryz.underlying2 _ _ _ h1 (hw 1 _ _ rfl rfl)))
end
end Go.Proofs.YtfpfdnapamdhjaaGreatDoor

/- Kinds of the program's own data,out of tools/reps.py. No function of the program is named. -/
namespace Go.Proofs.YtfpfdnapamdhjaaGreatDoor
open Go.ChangeShapes Go.WideShapes Go.ChangeAt Go.RowKit Val

def amtK : Rep (Int × Int) := pairK intK intK
section
variable {H : Type} {enc : TypeId × Value -> H} {W : World} {base : Nat} {spare : Nat -> Bool} {held : Bool}
set_option maxRecDepth 100000 in
theorem opens_amt : Opens enc W base spare held amtK 23 := fun n cs y h _ => by
  obtain ⟨xs,m,_,_,hcl,hl,hx⟩ := DataW.trod_array Tryz.underlying23 h
  rw [show Tryz.prog.cellsOf 23 = 2 by kernel_rfl] at hcl
  match cs,hcl with
  | [c0,c1],_ =>
    have h0 := hx 0 (by decide)
    have h1 := hx 1 (by decide)
    match xs,hl with
    | [y0,y1],_ =>
      simp only [List.getElem?_cons_zero,List.getElem?_cons_succ] at h0 h1
      exact opens_pair (opens_int Tryz.underlying2 _ _ _ h0 (fun k hk => by
        obtain ⟨z,_,e,_⟩ := DataW.trod_int Tryz.underlying2 h0
        rw [e] at hk; simp [DataW.weights] at hk)) (opens_int Tryz.underlying2 _ _ _ h1 (fun k hk => by
        obtain ⟨z,_,e,_⟩ := DataW.trod_int Tryz.underlying2 h1
        rw [e] at hk; simp [DataW.weights] at hk))
end
def labK : Rep (Txt × Txt) := (pairK strK strK)
theorem lab_at {w : World} {b o : Nat} {x : Txt × Txt} : At labK w b o x ↔ (w.cell? ⟨b,o,none⟩ = some (.string (bytesT x.1)) /\ short x.1) /\ (w.cell? ⟨b,o + 1,none⟩ = some (.string (bytesT x.2)) /\ short x.2) := by
  constructor
  · intro h
    obtain ⟨h0,g0⟩ := at_pair.1 h
    exact ⟨at_str.1 h0,at_str.1 g0⟩
  · rintro ⟨h0,h1⟩
    exact (at_pair.2 ⟨(at_str.2 h0),(at_str.2 h1)⟩)
theorem lab_cells : Tryz.prog.cellsOf 118 = 2 := by kernel_rfl
theorem lab_bytes : Tryz.prog.bytesOf 118 = 32 := by kernel_rfl
section
variable {H : Type} {enc : TypeId × Value -> H} {W : World} {base : Nat} {spare : Nat -> Bool} {held : Bool}
set_option maxRecDepth 100000 in
theorem opens_lab : Opens enc W base spare held labK 118 := fun n cs y h hz => by
  obtain ⟨xs,n,_,hx,hl,hlen,hfs⟩ := DataW.trod_struct Tryz.underlying118 h
  rw [lab_cells] at hl
  match xs,hlen with
  | [y0,y1],_ =>
    have hd := congrArg Prod.fst hx
    simp only at hd
    have hw : ∀ (j : Nat) (t : TypeId) (x : DataW H),[9,9][j]? = some t -> [y0.1,y1.1][j]? = some x -> ∀ k ∈ x.weights Tryz.prog t,k <= reachBytes := fun j t x h1 h2 k hk => hz k (by
      rw [hd]
      simp only [DataW.weights,Tryz.underlying118]
      exact DataW.weights_mem_each (j := j) h1 h2 k hk)
    match cs,hl with
    | [c0,c1],_ =>
      have h0 := hfs 0 _ rfl
      have h1 := hfs 1 _ rfl
      simp only [List.getElem?_cons_zero,List.getElem?_cons_succ] at h0 h1
      exact (opens_pair (opens_str Tryz.underlying9 _ _ _ h0 (hw 0 _ _ rfl rfl)) (opens_str Tryz.underlying9 _ _ _ h1 (hw 1 _ _ rfl rfl)))
end
def tolK : Rep (Txt × Txt × Bool) := (pairK strK (pairK strK boolK))
theorem tol_at {w : World} {b o : Nat} {x : Txt × Txt × Bool} : At tolK w b o x ↔ (w.cell? ⟨b,o,none⟩ = some (.string (bytesT x.1)) /\ short x.1) /\ (w.cell? ⟨b,o + 1,none⟩ = some (.string (bytesT x.2.1)) /\ short x.2.1) /\ w.cell? ⟨b,o + 2,none⟩ = some (.bool x.2.2) := by
  constructor
  · intro h
    obtain ⟨h0,g0⟩ := at_pair.1 h
    obtain ⟨h1,g1⟩ := at_pair.1 g0
    exact ⟨at_str.1 h0,at_str.1 h1,at_bool.1 g1⟩
  · rintro ⟨h0,h1,h2⟩
    exact (at_pair.2 ⟨(at_str.2 h0),(at_pair.2 ⟨(at_str.2 h1),(at_bool.2 h2)⟩)⟩)
theorem tol_cells : Tryz.prog.cellsOf 112 = 3 := by kernel_rfl
theorem tol_bytes : Tryz.prog.bytesOf 112 = 40 := by kernel_rfl
section
variable {H : Type} {enc : TypeId × Value -> H} {W : World} {base : Nat} {spare : Nat -> Bool} {held : Bool}
set_option maxRecDepth 100000 in
theorem opens_tol : Opens enc W base spare held tolK 112 := fun n cs y h hz => by
  obtain ⟨xs,n,_,hx,hl,hlen,hfs⟩ := DataW.trod_struct Tryz.underlying112 h
  rw [tol_cells] at hl
  match xs,hlen with
  | [y0,y1,y2],_ =>
    have hd := congrArg Prod.fst hx
    simp only at hd
    have hw : ∀ (j : Nat) (t : TypeId) (x : DataW H),[9,9,4][j]? = some t -> [y0.1,y1.1,y2.1][j]? = some x -> ∀ k ∈ x.weights Tryz.prog t,k <= reachBytes := fun j t x h1 h2 k hk => hz k (by
      rw [hd]
      simp only [DataW.weights,Tryz.underlying112]
      exact DataW.weights_mem_each (j := j) h1 h2 k hk)
    match cs,hl with
    | [c0,c1,c2],_ =>
      have h0 := hfs 0 _ rfl
      have h1 := hfs 1 _ rfl
      have h2 := hfs 2 _ rfl
      simp only [List.getElem?_cons_zero,List.getElem?_cons_succ] at h0 h1 h2
      exact (opens_pair (opens_str Tryz.underlying9 _ _ _ h0 (hw 0 _ _ rfl rfl)) (opens_pair (opens_str Tryz.underlying9 _ _ _ h1 (hw 1 _ _ rfl rfl)) (opens_bool Tryz.underlying4 _ _ _ h2 (hw 2 _ _ rfl rfl))))
end
def reqK : Rep (VReq) := isoK (pairK strK (pairK intK (pairK (listK strK) intK))) (fun x => (x.key,x.op,x.vals,x.n))
theorem req_at {w : World} {b o : Nat} {x : VReq} : At reqK w b o x ↔ (w.cell? ⟨b,o,none⟩ = some (.string (bytesT x.key)) /\ short x.key) /\ w.cell? ⟨b,o + 1,none⟩ = some (.int .i64 x.op) /\ (∃ v,w.cell? ⟨b,o + 2,none⟩ = some v /\ Lst strK w v x.vals) /\ w.cell? ⟨b,o + 3,none⟩ = some (.int .i64 x.n) := by
  constructor
  · intro h
    obtain ⟨h0,g0⟩ := at_pair.1 h
    obtain ⟨h1,g1⟩ := at_pair.1 g0
    obtain ⟨h2,g2⟩ := at_pair.1 g1
    exact ⟨at_str.1 h0,at_int.1 h1,at_lst.1 h2,at_int.1 g2⟩
  · rintro ⟨h0,h1,h2,h3⟩
    exact (at_pair.2 ⟨(at_str.2 h0),(at_pair.2 ⟨(at_int.2 h1),(at_pair.2 ⟨(at_lst.2 h2),(at_int.2 h3)⟩)⟩)⟩)
theorem req_cells : Tryz.prog.cellsOf 138 = 4 := by kernel_rfl
theorem req_bytes : Tryz.prog.bytesOf 138 = 56 := by kernel_rfl
section
variable {H : Type} {enc : TypeId × Value -> H} {W : World} {base : Nat} {spare : Nat -> Bool} {held : Bool}
set_option maxRecDepth 100000 in
theorem opens_req : Opens enc W base spare held reqK 138 := fun n cs y h hz => by
  obtain ⟨xs,n,_,hx,hl,hlen,hfs⟩ := DataW.trod_struct Tryz.underlying138 h
  rw [req_cells] at hl
  match xs,hlen with
  | [y0,y1,y2,y3],_ =>
    have hd := congrArg Prod.fst hx
    simp only at hd
    have hw : ∀ (j : Nat) (t : TypeId) (x : DataW H),[9,3,38,2][j]? = some t -> [y0.1,y1.1,y2.1,y3.1][j]? = some x -> ∀ k ∈ x.weights Tryz.prog t,k <= reachBytes := fun j t x h1 h2 k hk => hz k (by
      rw [hd]
      simp only [DataW.weights,Tryz.underlying138]
      exact DataW.weights_mem_each (j := j) h1 h2 k hk)
    match cs,hl with
    | [c0,c1,c2,c3],_ =>
      have h0 := hfs 0 _ rfl
      have h1 := hfs 1 _ rfl
      have h2 := hfs 2 _ rfl
      have h3 := hfs 3 _ rfl
      simp only [List.getElem?_cons_zero,List.getElem?_cons_succ] at h0 h1 h2 h3
      exact opens_iso (fun y => ⟨y.1,y.2.1,y.2.2.1,y.2.2.2⟩) (fun _ => rfl) (opens_pair (opens_str Tryz.underlying9 _ _ _ h0 (hw 0 _ _ rfl rfl)) (opens_pair (opens_int Tryz.underlying3 _ _ _ h1 (hw 1 _ _ rfl rfl)) (opens_pair (opens_list Tryz.underlying38 (show Tryz.prog.cellsOf 9 = 1 by kernel_rfl) (show Tryz.prog.bytesOf 9 = 16 by kernel_rfl) (by decide) (by decide) (opens_str Tryz.underlying9) _ _ _ h2 (hw 2 _ _ rfl rfl)) (opens_int Tryz.underlying2 _ _ _ h3 (hw 3 _ _ rfl rfl)))))
end
def trmK : Rep (Txt × Txt) := (pairK strK strK)
theorem trm_at {w : World} {b o : Nat} {x : Txt × Txt} : At trmK w b o x ↔ (w.cell? ⟨b,o,none⟩ = some (.string (bytesT x.1)) /\ short x.1) /\ (w.cell? ⟨b,o + 1,none⟩ = some (.string (bytesT x.2)) /\ short x.2) := by
  constructor
  · intro h
    obtain ⟨h0,g0⟩ := at_pair.1 h
    exact ⟨at_str.1 h0,at_str.1 g0⟩
  · rintro ⟨h0,h1⟩
    exact (at_pair.2 ⟨(at_str.2 h0),(at_str.2 h1)⟩)
theorem trm_cells : Tryz.prog.cellsOf 146 = 2 := by kernel_rfl
theorem trm_bytes : Tryz.prog.bytesOf 146 = 32 := by kernel_rfl
section
variable {H : Type} {enc : TypeId × Value -> H} {W : World} {base : Nat} {spare : Nat -> Bool} {held : Bool}
set_option maxRecDepth 100000 in
theorem opens_trm : Opens enc W base spare held trmK 146 := fun n cs y h hz => by
  obtain ⟨xs,n,_,hx,hl,hlen,hfs⟩ := DataW.trod_struct Tryz.underlying146 h
  rw [trm_cells] at hl
  match xs,hlen with
  | [y0,y1],_ =>
    have hd := congrArg Prod.fst hx
    simp only at hd
    have hw : ∀ (j : Nat) (t : TypeId) (x : DataW H),[9,9][j]? = some t -> [y0.1,y1.1][j]? = some x -> ∀ k ∈ x.weights Tryz.prog t,k <= reachBytes := fun j t x h1 h2 k hk => hz k (by
      rw [hd]
      simp only [DataW.weights,Tryz.underlying146]
      exact DataW.weights_mem_each (j := j) h1 h2 k hk)
    match cs,hl with
    | [c0,c1],_ =>
      have h0 := hfs 0 _ rfl
      have h1 := hfs 1 _ rfl
      simp only [List.getElem?_cons_zero,List.getElem?_cons_succ] at h0 h1
      exact (opens_pair (opens_str Tryz.underlying9 _ _ _ h0 (hw 0 _ _ rfl rfl)) (opens_str Tryz.underlying9 _ _ _ h1 (hw 1 _ _ rfl rfl)))
end
def sprK : Rep (Txt × Txt × Int) := (pairK strK (pairK strK intK))
theorem spr_at {w : World} {b o : Nat} {x : Txt × Txt × Int} : At sprK w b o x ↔ (w.cell? ⟨b,o,none⟩ = some (.string (bytesT x.1)) /\ short x.1) /\ (w.cell? ⟨b,o + 1,none⟩ = some (.string (bytesT x.2.1)) /\ short x.2.1) /\ w.cell? ⟨b,o + 2,none⟩ = some (.int .i64 x.2.2) := by
  constructor
  · intro h
    obtain ⟨h0,g0⟩ := at_pair.1 h
    obtain ⟨h1,g1⟩ := at_pair.1 g0
    exact ⟨at_str.1 h0,at_str.1 h1,at_int.1 g1⟩
  · rintro ⟨h0,h1,h2⟩
    exact (at_pair.2 ⟨(at_str.2 h0),(at_pair.2 ⟨(at_str.2 h1),(at_int.2 h2)⟩)⟩)
theorem spr_cells : Tryz.prog.cellsOf 115 = 3 := by kernel_rfl
theorem spr_bytes : Tryz.prog.bytesOf 115 = 40 := by kernel_rfl
section
variable {H : Type} {enc : TypeId × Value -> H} {W : World} {base : Nat} {spare : Nat -> Bool} {held : Bool}
set_option maxRecDepth 100000 in
theorem opens_spr : Opens enc W base spare held sprK 115 := fun n cs y h hz => by
  obtain ⟨xs,n,_,hx,hl,hlen,hfs⟩ := DataW.trod_struct Tryz.underlying115 h
  rw [spr_cells] at hl
  match xs,hlen with
  | [y0,y1,y2],_ =>
    have hd := congrArg Prod.fst hx
    simp only at hd
    have hw : ∀ (j : Nat) (t : TypeId) (x : DataW H),[9,9,3][j]? = some t -> [y0.1,y1.1,y2.1][j]? = some x -> ∀ k ∈ x.weights Tryz.prog t,k <= reachBytes := fun j t x h1 h2 k hk => hz k (by
      rw [hd]
      simp only [DataW.weights,Tryz.underlying115]
      exact DataW.weights_mem_each (j := j) h1 h2 k hk)
    match cs,hl with
    | [c0,c1,c2],_ =>
      have h0 := hfs 0 _ rfl
      have h1 := hfs 1 _ rfl
      have h2 := hfs 2 _ rfl
      simp only [List.getElem?_cons_zero,List.getElem?_cons_succ] at h0 h1 h2
      exact (opens_pair (opens_str Tryz.underlying9 _ _ _ h0 (hw 0 _ _ rfl rfl)) (opens_pair (opens_str Tryz.underlying9 _ _ _ h1 (hw 1 _ _ rfl rfl)) (opens_int Tryz.underlying3 _ _ _ h2 (hw 2 _ _ rfl rfl))))
end
def podK : Rep (VPod) := isoK (pairK strK (pairK strK (pairK amtK (pairK intK (pairK (bigK reqK 56) (pairK (bigK tolK 40) (pairK (bigK sprK 40) (pairK (bigK trmK 32) (pairK (bigK trmK 32) (pairK intK strK)))))))))) (fun x => (x.name,x.app,x.need,x.prio,x.reqs,x.tols,x.spread,x.near,x.apart,x.since,x.on))
theorem pod_cells : Tryz.prog.cellsOf 29 = 12 := by kernel_rfl
section
variable {H : Type} {enc : TypeId × Value -> H} {W : World} {base : Nat} {spare : Nat -> Bool} {held : Bool}
set_option maxRecDepth 100000 in
theorem opens_pod : Opens enc W base spare held podK 29 := fun n cs y h hz => by
  obtain ⟨xs,n,_,hx,hl,hlen,hfs⟩ := DataW.trod_struct Tryz.underlying29 h
  rw [pod_cells] at hl
  match xs,hlen with
  | [y0,y1,y2,y3,y4,y5,y6,y7,y8,y9,y10],_ =>
    have hd := congrArg Prod.fst hx
    simp only at hd
    have hw : ∀ (j : Nat) (t : TypeId) (x : DataW H),[9,9,23,3,24,25,26,27,27,2,9][j]? = some t -> [y0.1,y1.1,y2.1,y3.1,y4.1,y5.1,y6.1,y7.1,y8.1,y9.1,y10.1][j]? = some x -> ∀ k ∈ x.weights Tryz.prog t,k <= reachBytes := fun j t x h1 h2 k hk => hz k (by
      rw [hd]
      simp only [DataW.weights,Tryz.underlying29]
      exact DataW.weights_mem_each (j := j) h1 h2 k hk)
    match cs,hl with
    | [c0,c1,c2,c3,c4,c5,c6,c7,c8,c9,c10,c11],_ =>
      have h0 := hfs 0 _ rfl
      have h1 := hfs 1 _ rfl
      have h2 := hfs 2 _ rfl
      have h3 := hfs 3 _ rfl
      have h4 := hfs 4 _ rfl
      have h5 := hfs 5 _ rfl
      have h6 := hfs 6 _ rfl
      have h7 := hfs 7 _ rfl
      have h8 := hfs 8 _ rfl
      have h9 := hfs 9 _ rfl
      have h10 := hfs 10 _ rfl
      simp only [List.getElem?_cons_zero,List.getElem?_cons_succ] at h0 h1 h2 h3 h4 h5 h6 h7 h8 h9 h10
      exact opens_iso (fun y => ⟨y.1,y.2.1,y.2.2.1,y.2.2.2.1,y.2.2.2.2.1,y.2.2.2.2.2.1,y.2.2.2.2.2.2.1,y.2.2.2.2.2.2.2.1,y.2.2.2.2.2.2.2.2.1,y.2.2.2.2.2.2.2.2.2.1,y.2.2.2.2.2.2.2.2.2.2⟩) (fun _ => rfl) (opens_pair (opens_str Tryz.underlying9 _ _ _ h0 (hw 0 _ _ rfl rfl)) (opens_pair (opens_str Tryz.underlying9 _ _ _ h1 (hw 1 _ _ rfl rfl)) (opens_pair (opens_amt _ _ _ h2 (hw 2 _ _ rfl rfl)) (opens_pair (opens_int Tryz.underlying3 _ _ _ h3 (hw 3 _ _ rfl rfl)) (opens_pair (opens_big Tryz.underlying24 req_cells req_bytes (by decide) (by decide) opens_req _ _ _ h4 (hw 4 _ _ rfl rfl)) (opens_pair (opens_big Tryz.underlying25 tol_cells tol_bytes (by decide) (by decide) opens_tol _ _ _ h5 (hw 5 _ _ rfl rfl)) (opens_pair (opens_big Tryz.underlying26 spr_cells spr_bytes (by decide) (by decide) opens_spr _ _ _ h6 (hw 6 _ _ rfl rfl)) (opens_pair (opens_big Tryz.underlying27 trm_cells trm_bytes (by decide) (by decide) opens_trm _ _ _ h7 (hw 7 _ _ rfl rfl)) (opens_pair (opens_big Tryz.underlying27 trm_cells trm_bytes (by decide) (by decide) opens_trm _ _ _ h8 (hw 8 _ _ rfl rfl)) (opens_pair (opens_int Tryz.underlying2 _ _ _ h9 (hw 9 _ _ rfl rfl)) (opens_str Tryz.underlying9 _ _ _ h10 (hw 10 _ _ rfl rfl))))))))))))
end
def polK : Rep (VPool) := isoK (pairK strK (pairK intK (pairK amtK (pairK (bigK reqK 56) (pairK (bigK labK 32) (pairK intK (pairK intK (pairK intK intK)))))))) (fun x => (x.name,x.weight,x.limit,x.reqs,x.taints,x.gen,x.expire,x.budget,x.merge))
theorem pol_cells : Tryz.prog.cellsOf 32 = 10 := by kernel_rfl
section
variable {H : Type} {enc : TypeId × Value -> H} {W : World} {base : Nat} {spare : Nat -> Bool} {held : Bool}
set_option maxRecDepth 100000 in
theorem opens_pol : Opens enc W base spare held polK 32 := fun n cs y h hz => by
  obtain ⟨xs,n,_,hx,hl,hlen,hfs⟩ := DataW.trod_struct Tryz.underlying32 h
  rw [pol_cells] at hl
  match xs,hlen with
  | [y0,y1,y2,y3,y4,y5,y6,y7,y8],_ =>
    have hd := congrArg Prod.fst hx
    simp only at hd
    have hw : ∀ (j : Nat) (t : TypeId) (x : DataW H),[9,3,23,24,30,2,2,3,3][j]? = some t -> [y0.1,y1.1,y2.1,y3.1,y4.1,y5.1,y6.1,y7.1,y8.1][j]? = some x -> ∀ k ∈ x.weights Tryz.prog t,k <= reachBytes := fun j t x h1 h2 k hk => hz k (by
      rw [hd]
      simp only [DataW.weights,Tryz.underlying32]
      exact DataW.weights_mem_each (j := j) h1 h2 k hk)
    match cs,hl with
    | [c0,c1,c2,c3,c4,c5,c6,c7,c8,c9],_ =>
      have h0 := hfs 0 _ rfl
      have h1 := hfs 1 _ rfl
      have h2 := hfs 2 _ rfl
      have h3 := hfs 3 _ rfl
      have h4 := hfs 4 _ rfl
      have h5 := hfs 5 _ rfl
      have h6 := hfs 6 _ rfl
      have h7 := hfs 7 _ rfl
      have h8 := hfs 8 _ rfl
      simp only [List.getElem?_cons_zero,List.getElem?_cons_succ] at h0 h1 h2 h3 h4 h5 h6 h7 h8
      exact opens_iso (fun y => ⟨y.1,y.2.1,y.2.2.1,y.2.2.2.1,y.2.2.2.2.1,y.2.2.2.2.2.1,y.2.2.2.2.2.2.1,y.2.2.2.2.2.2.2.1,y.2.2.2.2.2.2.2.2⟩) (fun _ => rfl) (opens_pair (opens_str Tryz.underlying9 _ _ _ h0 (hw 0 _ _ rfl rfl)) (opens_pair (opens_int Tryz.underlying3 _ _ _ h1 (hw 1 _ _ rfl rfl)) (opens_pair (opens_amt _ _ _ h2 (hw 2 _ _ rfl rfl)) (opens_pair (opens_big Tryz.underlying24 req_cells req_bytes (by decide) (by decide) opens_req _ _ _ h3 (hw 3 _ _ rfl rfl)) (opens_pair (opens_big Tryz.underlying30 lab_cells lab_bytes (by decide) (by decide) opens_lab _ _ _ h4 (hw 4 _ _ rfl rfl)) (opens_pair (opens_int Tryz.underlying2 _ _ _ h5 (hw 5 _ _ rfl rfl)) (opens_pair (opens_int Tryz.underlying2 _ _ _ h6 (hw 6 _ _ rfl rfl)) (opens_pair (opens_int Tryz.underlying3 _ _ _ h7 (hw 7 _ _ rfl rfl)) (opens_int Tryz.underlying3 _ _ _ h8 (hw 8 _ _ rfl rfl))))))))))
end
def clmK : Rep (VClaim) := isoK (pairK strK (pairK strK (pairK intK (pairK offK (pairK intK (pairK amtK (pairK (bigK offK 48) (pairK intK (pairK strK (pairK intK (pairK intK boolK))))))))))) (fun x => (x.name,x.pool,x.gen,x.offer,x.price,x.cap,x.opts,x.tryN,x.id,x.phase,x.born,x.marked))
theorem clm_cells : Tryz.prog.cellsOf 37 = 15 := by kernel_rfl
section
variable {H : Type} {enc : TypeId × Value -> H} {W : World} {base : Nat} {spare : Nat -> Bool} {held : Bool}
set_option maxRecDepth 100000 in
theorem opens_clm : Opens enc W base spare held clmK 37 := fun n cs y h hz => by
  obtain ⟨xs,n,_,hx,hl,hlen,hfs⟩ := DataW.trod_struct Tryz.underlying37 h
  rw [clm_cells] at hl
  match xs,hlen with
  | [y0,y1,y2,y3,y4,y5,y6,y7,y8,y9,y10,y11],_ =>
    have hd := congrArg Prod.fst hx
    simp only at hd
    have hw : ∀ (j : Nat) (t : TypeId) (x : DataW H),[9,9,2,34,2,23,35,3,9,3,2,4][j]? = some t -> [y0.1,y1.1,y2.1,y3.1,y4.1,y5.1,y6.1,y7.1,y8.1,y9.1,y10.1,y11.1][j]? = some x -> ∀ k ∈ x.weights Tryz.prog t,k <= reachBytes := fun j t x h1 h2 k hk => hz k (by
      rw [hd]
      simp only [DataW.weights,Tryz.underlying37]
      exact DataW.weights_mem_each (j := j) h1 h2 k hk)
    match cs,hl with
    | [c0,c1,c2,c3,c4,c5,c6,c7,c8,c9,c10,c11,c12,c13,c14],_ =>
      have h0 := hfs 0 _ rfl
      have h1 := hfs 1 _ rfl
      have h2 := hfs 2 _ rfl
      have h3 := hfs 3 _ rfl
      have h4 := hfs 4 _ rfl
      have h5 := hfs 5 _ rfl
      have h6 := hfs 6 _ rfl
      have h7 := hfs 7 _ rfl
      have h8 := hfs 8 _ rfl
      have h9 := hfs 9 _ rfl
      have h10 := hfs 10 _ rfl
      have h11 := hfs 11 _ rfl
      simp only [List.getElem?_cons_zero,List.getElem?_cons_succ] at h0 h1 h2 h3 h4 h5 h6 h7 h8 h9 h10 h11
      exact opens_iso (fun y => ⟨y.1,y.2.1,y.2.2.1,y.2.2.2.1,y.2.2.2.2.1,y.2.2.2.2.2.1,y.2.2.2.2.2.2.1,y.2.2.2.2.2.2.2.1,y.2.2.2.2.2.2.2.2.1,y.2.2.2.2.2.2.2.2.2.1,y.2.2.2.2.2.2.2.2.2.2.1,y.2.2.2.2.2.2.2.2.2.2.2⟩) (fun _ => rfl) (opens_pair (opens_str Tryz.underlying9 _ _ _ h0 (hw 0 _ _ rfl rfl)) (opens_pair (opens_str Tryz.underlying9 _ _ _ h1 (hw 1 _ _ rfl rfl)) (opens_pair (opens_int Tryz.underlying2 _ _ _ h2 (hw 2 _ _ rfl rfl)) (opens_pair (opens_off _ _ _ h3 (hw 3 _ _ rfl rfl)) (opens_pair (opens_int Tryz.underlying2 _ _ _ h4 (hw 4 _ _ rfl rfl)) (opens_pair (opens_amt _ _ _ h5 (hw 5 _ _ rfl rfl)) (opens_pair (opens_big Tryz.underlying35 off_cells off_bytes (by decide) (by decide) opens_off _ _ _ h6 (hw 6 _ _ rfl rfl)) (opens_pair (opens_int Tryz.underlying3 _ _ _ h7 (hw 7 _ _ rfl rfl)) (opens_pair (opens_str Tryz.underlying9 _ _ _ h8 (hw 8 _ _ rfl rfl)) (opens_pair (opens_int Tryz.underlying3 _ _ _ h9 (hw 9 _ _ rfl rfl)) (opens_pair (opens_int Tryz.underlying2 _ _ _ h10 (hw 10 _ _ rfl rfl)) (opens_bool Tryz.underlying4 _ _ _ h11 (hw 11 _ _ rfl rfl)))))))))))))
end
def cmdK : Rep (VCmd) := isoK (pairK intK (pairK (listK strK) (pairK intK (pairK intK (pairK strK (pairK strK (pairK (bigK offK 48) boolK))))))) (fun x => (x.cause,x.nodes,x.step,x.til,x.fresh,x.pool,x.opts,x.made))
theorem cmd_cells : Tryz.prog.cellsOf 40 = 8 := by kernel_rfl
section
variable {H : Type} {enc : TypeId × Value -> H} {W : World} {base : Nat} {spare : Nat -> Bool} {held : Bool}
set_option maxRecDepth 100000 in
theorem opens_cmd : Opens enc W base spare held cmdK 40 := fun n cs y h hz => by
  obtain ⟨xs,n,_,hx,hl,hlen,hfs⟩ := DataW.trod_struct Tryz.underlying40 h
  rw [cmd_cells] at hl
  match xs,hlen with
  | [y0,y1,y2,y3,y4,y5,y6,y7],_ =>
    have hd := congrArg Prod.fst hx
    simp only at hd
    have hw : ∀ (j : Nat) (t : TypeId) (x : DataW H),[3,38,3,2,9,9,35,4][j]? = some t -> [y0.1,y1.1,y2.1,y3.1,y4.1,y5.1,y6.1,y7.1][j]? = some x -> ∀ k ∈ x.weights Tryz.prog t,k <= reachBytes := fun j t x h1 h2 k hk => hz k (by
      rw [hd]
      simp only [DataW.weights,Tryz.underlying40]
      exact DataW.weights_mem_each (j := j) h1 h2 k hk)
    match cs,hl with
    | [c0,c1,c2,c3,c4,c5,c6,c7],_ =>
      have h0 := hfs 0 _ rfl
      have h1 := hfs 1 _ rfl
      have h2 := hfs 2 _ rfl
      have h3 := hfs 3 _ rfl
      have h4 := hfs 4 _ rfl
      have h5 := hfs 5 _ rfl
      have h6 := hfs 6 _ rfl
      have h7 := hfs 7 _ rfl
      simp only [List.getElem?_cons_zero,List.getElem?_cons_succ] at h0 h1 h2 h3 h4 h5 h6 h7
      exact opens_iso (fun y => ⟨y.1,y.2.1,y.2.2.1,y.2.2.2.1,y.2.2.2.2.1,y.2.2.2.2.2.1,y.2.2.2.2.2.2.1,y.2.2.2.2.2.2.2⟩) (fun _ => rfl) (opens_pair (opens_int Tryz.underlying3 _ _ _ h0 (hw 0 _ _ rfl rfl)) (opens_pair (opens_list Tryz.underlying38 (show Tryz.prog.cellsOf 9 = 1 by kernel_rfl) (show Tryz.prog.bytesOf 9 = 16 by kernel_rfl) (by decide) (by decide) (opens_str Tryz.underlying9) _ _ _ h1 (hw 1 _ _ rfl rfl)) (opens_pair (opens_int Tryz.underlying3 _ _ _ h2 (hw 2 _ _ rfl rfl)) (opens_pair (opens_int Tryz.underlying2 _ _ _ h3 (hw 3 _ _ rfl rfl)) (opens_pair (opens_str Tryz.underlying9 _ _ _ h4 (hw 4 _ _ rfl rfl)) (opens_pair (opens_str Tryz.underlying9 _ _ _ h5 (hw 5 _ _ rfl rfl)) (opens_pair (opens_big Tryz.underlying35 off_cells off_bytes (by decide) (by decide) opens_off _ _ _ h6 (hw 6 _ _ rfl rfl)) (opens_bool Tryz.underlying4 _ _ _ h7 (hw 7 _ _ rfl rfl)))))))))
end
def any8K : Rep (VAny) := isoK (pairK intK (pairK podK (pairK polK (pairK clmK (pairK cmdK coolK))))) (fun x => (x.kind,x.pod,x.pool,x.claim,x.cmd,x.cool))
theorem any8_cells : Tryz.prog.cellsOf 44 = 50 := by kernel_rfl
section
variable {H : Type} {enc : TypeId × Value -> H} {W : World} {base : Nat} {spare : Nat -> Bool} {held : Bool}
set_option maxRecDepth 100000 in
theorem opens_any8 : Opens enc W base spare held any8K 44 := fun n cs y h hz => by
  obtain ⟨xs,n,_,hx,hl,hlen,hfs⟩ := DataW.trod_struct Tryz.underlying44 h
  rw [any8_cells] at hl
  match xs,hlen with
  | [y0,y1,y2,y3,y4,y5],_ =>
    have hd := congrArg Prod.fst hx
    simp only at hd
    have hw : ∀ (j : Nat) (t : TypeId) (x : DataW H),[3,29,32,37,40,42][j]? = some t -> [y0.1,y1.1,y2.1,y3.1,y4.1,y5.1][j]? = some x -> ∀ k ∈ x.weights Tryz.prog t,k <= reachBytes := fun j t x h1 h2 k hk => hz k (by
      rw [hd]
      simp only [DataW.weights,Tryz.underlying44]
      exact DataW.weights_mem_each (j := j) h1 h2 k hk)
    have h0 := hfs 0 _ rfl
    have h1 := hfs 1 _ rfl
    have h2 := hfs 2 _ rfl
    have h3 := hfs 3 _ rfl
    have h4 := hfs 4 _ rfl
    have h5 := hfs 5 _ rfl
    simp only [List.getElem?_cons_zero,List.getElem?_cons_succ] at h0 h1 h2 h3 h4 h5
    have d : ∀ a b : Nat,(cs.drop a).drop b = cs.drop (a + b) := fun a b => List.drop_drop
    refine opens_iso (fun y => ⟨y.1,y.2.1,y.2.2.1,y.2.2.2.1,y.2.2.2.2.1,y.2.2.2.2.2⟩) (fun _ => rfl) ?_
    refine opens_pair ?_ ?_
    · show ∃ x,Rep.R intK W ((cs).take 1) x
      exact opens_int Tryz.underlying3 _ _ _ h0 (hw 0 _ _ rfl rfl)
    refine opens_pair ?_ ?_
    · show ∃ x,Rep.R podK W (((cs).drop 1).take 12) x
      exact opens_pod _ _ _ h1 (hw 1 _ _ rfl rfl)
    refine opens_pair ?_ ?_
    · show ∃ x,Rep.R polK W ((((cs).drop 1).drop 12).take 10) x
      simp only [d,Nat.reduceAdd]
      exact opens_pol _ _ _ h2 (hw 2 _ _ rfl rfl)
    refine opens_pair ?_ ?_
    · show ∃ x,Rep.R clmK W (((((cs).drop 1).drop 12).drop 10).take 15) x
      simp only [d,Nat.reduceAdd]
      exact opens_clm _ _ _ h3 (hw 3 _ _ rfl rfl)
    refine opens_pair ?_ ?_
    · show ∃ x,Rep.R cmdK W ((((((cs).drop 1).drop 12).drop 10).drop 15).take 8) x
      simp only [d,Nat.reduceAdd]
      exact opens_cmd _ _ _ h4 (hw 4 _ _ rfl rfl)
    · show ∃ x,Rep.R coolK W ((((((cs).drop 1).drop 12).drop 10).drop 15).drop 8) x
      simp only [d,Nat.reduceAdd]
      have e : cs.drop 46 = (cs.drop 46).take 4 := (List.take_of_length_le (by rw [List.length_drop]; omega)).symm
      rw [e]
      exact opens_cool _ _ _ h5 (hw 5 _ _ rfl rfl)
end
end Go.Proofs.YtfpfdnapamdhjaaGreatDoor
