/- Layer 8, plain mathematics alone: pods, pools, claims and commands that may be; less of a pod; a command of one of its nodes. No program is named. -/
import Derived.Test.YthaldbjnnbllbaaGreatDoorCoAG
import Derived.Test.YthaldbjnnbllbaaGreatDoorRqAG
import Derived.Test.YthaldbjnnbllbaaGreatDoorT8AG
import Derived.Test.YthaldbjnnbllbaaGreatDoorAmAG
import Derived.Test.YthaldbjnnbllbaaGreatDoorGenAG
namespace Go.Proofs.YthaldbjnnbllbaaGreatDoor.Val
open Suf

abbrev VTerm := Txt × Txt
abbrev VSpr := Txt × Txt × Int
structure VPod where
  name : Txt
  app : Txt
  need : Int × Int
  prio : Int
  reqs : List VReq
  tols : List (Txt × Txt × Bool)
  spread : List VSpr
  near : List VTerm
  apart : List VTerm
  since : Int
  on : Txt
structure VPool where
  name : Txt
  weight : Int
  limit : Int × Int
  reqs : List VReq
  taints : List (Txt × Txt)
  gen : Int
  expire : Int
  budget : Int
  merge : Int
structure VClaim where
  name : Txt
  pool : Txt
  gen : Int
  offer : VOff
  price : Int
  cap : Int × Int
  opts : List VOff
  tryN : Int
  id : Txt
  phase : Int
  born : Int
  marked : Bool
structure VCmd where
  cause : Int
  nodes : List Txt
  step : Int
  til : Int
  fresh : Txt
  pool : Txt
  opts : List VOff
  made : Bool
structure VAny where
  kind : Int
  pod : VPod
  pool : VPool
  claim : VClaim
  cmd : VCmd
  cool : VOff × Int
def orE : List Int → Int
  | [] => 0
  | z :: l => if z = 0 then orE l else z
def unl (b : Bool) (e : Int) : Int := if b then 0 else e
def btwB (lo n hi : Int) : Bool := decide (lo ≤ n) && decide (n ≤ hi)
def timeB (n : Int) : Bool := btwB 0 n 1099511627776
def onB (s : Txt) : Bool := (s == []) || nameB s
def namedO (o : VOff) : Bool := nameB o.1 && (nameB o.2.1 && nameB o.2.2)
def k8Zone : Txt := [122, 111, 110, 101]
def k8Host : Txt := [104, 111, 115, 116]
def termE (t : VTerm) : Int := orE [unl ((t.1 == k8Zone) || (t.1 == k8Host)) 1, unl (nameB t.2) 7]
def spreadE (s : VSpr) : Int := orE [termE (s.1, s.2.1), unl (btwB 1 s.2.2 16) 1]
def allE {α : Type} (f : α → Int) : List α → Int
  | [] => 0
  | x :: l => if f x = 0 then allE f l else f x
def offF : List VOff → List VOff → Int
  | _, [] => 0
  | seen, o :: l => if namedO o = false then 7 else if seen.any (fun y => y == o) = true then 6 else offF (seen ++ [o]) l
def offsR8 (l : List VOff) : Int := if 72 < l.length then 3 else offF [] l
def behindT (p : Option Txt) (x : Txt) : Bool := match p with
  | none => true
  | some q => lt q x
def nodesF : Option Txt → List Txt → Int
  | _, [] => 0
  | p, x :: l => if nameB x = false then 7 else if behindT p x = false then 6 else nodesF (some x) l
def nodesR (l : List Txt) : Int := if 4 < l.length then 3 else if l.length = 0 then 1 else nodesF none l
def podR (p : VPod) : Int := orE [unl (nameB p.name && nameB p.app) 7, Am.chkA p.need.1 p.need.2, unl (btwB (-1000) p.prio 1000) 1, moreR 8 p.reqs, Ta.Val.tolsR p.tols,
  unl (decide (p.spread.length ≤ 3 ∧ p.near.length ≤ 3 ∧ p.apart.length ≤ 3)) 3, allE spreadE p.spread, allE termE p.near, allE termE p.apart, unl (timeB p.since) 1, unl (onB p.on) 7]
def poolR (p : VPool) : Int := orE [unl (nameB p.name) 7, unl (btwB 0 p.weight 100) 1, Am.chkA p.limit.1 p.limit.2, moreR 8 p.reqs, Ta.Val.taintR p.taints, unl (timeB p.gen && btwB 0 p.expire 1073741824) 1, unl (btwB 0 p.budget 16) 1, unl (btwB 0 p.merge 2) 1]
def claimR (c : VClaim) : Int := orE [unl ((nameB c.name && nameB c.pool) && namedO c.offer) 7, Am.chk c.price, Am.chkA c.cap.1 c.cap.2, offsR8 c.opts, unl (btwB 1 c.tryN 32) 1, unl (decide (c.id.length ≤ 16)) 2, unl (btwB 1 c.phase 4) 1, unl (timeB c.gen && timeB c.born) 1]
def cmdR (c : VCmd) : Int := orE [unl (btwB 1 c.cause 4) 1, unl (btwB 1 c.step 3) 1, nodesR c.nodes, unl (timeB c.til) 1, unl (onB c.fresh && onB c.pool) 7, offsR8 c.opts]

theorem ore_cons (z : Int) (l : List Int) : orE (z :: l) = if z = 0 then orE l else z := rfl
theorem ore_zero : ∀ {l : List Int}, orE l = 0 ↔ ∀ z ∈ l, z = 0
  | [] => by simp [orE]
  | z :: l => by
    rw [ore_cons]
    by_cases h : z = 0
    · rw [if_pos h, ore_zero]; simp [h]
    · rw [if_neg h]
      exact ⟨fun e => absurd e h, fun e => absurd (e z (List.mem_cons_self ..)) h⟩
theorem ore_step {l : List Int} {k : Nat} (h : k < l.length) : orE (l.drop k) = if l[k] = 0 then orE (l.drop (k + 1)) else l[k] := by rw [List.drop_eq_getElem_cons h]; rfl
theorem unl_zero {b : Bool} {e : Int} (he : e ≠ 0) : unl b e = 0 ↔ b = true := by
  cases b
  · exact ⟨fun h => absurd h he, fun h => by cases h⟩
  · exact ⟨fun _ => rfl, fun _ => rfl⟩
section
variable {α : Type} {f : α → Int}
theorem alle_zero : ∀ {l : List α}, allE f l = 0 ↔ ∀ x ∈ l, f x = 0
  | [] => by simp [allE]
  | x :: l => by
    show (if f x = 0 then allE f l else f x) = 0 ↔ _
    by_cases h : f x = 0
    · rw [if_pos h, alle_zero]; simp [h]
    · rw [if_neg h]
      exact ⟨fun e => absurd e h, fun e => absurd (e x (List.mem_cons_self ..)) h⟩
theorem alle_step {l : List α} {k : Nat} (h : k < l.length) : allE f (l.drop k) = if f l[k] = 0 then allE f (l.drop (k + 1)) else f l[k] := by rw [List.drop_eq_getElem_cons h]; rfl
theorem alle_one (x : α) : allE f [x] = f x := by
  show (if f x = 0 then allE f [] else f x) = f x
  by_cases h : f x = 0
  · rw [if_pos h, h]; rfl
  · rw [if_neg h]
end
theorem off_step {l : List VOff} {k : Nat} (h : k < l.length) : offF (l.take k) (l.drop k) = if namedO l[k] = false then 7 else if (l.take k).any (fun y => y == l[k]) = true then 6 else offF (l.take (k + 1)) (l.drop (k + 1)) := by
  rw [List.drop_eq_getElem_cons h]
  show (if namedO l[k] = false then 7 else if (l.take k).any (fun y => y == l[k]) = true then 6 else offF (l.take k ++ [l[k]]) (l.drop (k + 1))) = _
  rw [List.take_append_getElem h]
def prevT (l : List Txt) : Nat → Option Txt
  | 0 => none
  | k + 1 => l[k]?
theorem prevT_at {l : List Txt} {k : Nat} (h : k < l.length) : prevT l (k + 1) = some l[k] := List.getElem?_eq_getElem h
theorem nodes_step {l : List Txt} {k : Nat} (h : k < l.length) : nodesF (prevT l k) (l.drop k) = if nameB l[k] = false then 7 else if behindT (prevT l k) l[k] = false then 6 else nodesF (prevT l (k + 1)) (l.drop (k + 1)) := by
  rw [List.drop_eq_getElem_cons h, prevT_at h]
  rfl
/-- One of them left out. -/
def cut {α : Type} (n : Nat) (l : List α) : List α := if n < l.length then l.take n ++ l.drop (n + 1) else l
theorem cut_sub {α : Type} (n : Nat) (l : List α) : (cut n l).Sublist l := by
  unfold cut
  by_cases h : n < l.length
  · rw [if_pos h, ← List.eraseIdx_eq_take_drop_succ]; exact List.eraseIdx_sublist ..
  · rw [if_neg h]; exact List.Sublist.refl _
theorem more_sub {l' l : List VReq} (h : l'.Sublist l) (h0 : moreR 8 l = 0) : moreR 8 l' = 0 := by
  unfold moreR at h0 ⊢
  have hl := h.length_le
  by_cases h8 : 8 < l.length
  · rw [if_pos h8] at h0; cases h0
  · rw [if_neg h8] at h0
    rw [if_neg (by omega)]
    exact first_ok.2 fun r hr => first_ok.1 h0 r (h.subset hr)
theorem tolF_sub {l' l : List (Txt × Txt × Bool)} (h : l'.Sublist l) : ∀ {seen seen' : List (Txt × Txt × Bool)}, (∀ x ∈ seen', x ∈ seen) → Ta.Val.tolF seen l = 0 → Ta.Val.tolF seen' l' = 0 := by
  induction h with
  | slnil => intro _ _ _ _; rfl
  | cons a h ih =>
    intro seen seen' hs h0
    have h1 : (if nameB a.1 = false then 7 else if Ta.Val.formedB a = false then 20 else if seen.any (fun y => y == a) = true then 6 else Ta.Val.tolF (seen ++ [a]) _) = 0 := h0
    split at h1
    · cases h1
    split at h1
    · cases h1
    split at h1
    · cases h1
    exact ih (fun x hx => List.mem_append_left _ (hs x hx)) h1
  | cons_cons a h ih =>
    intro seen seen' hs h0
    have h1 : (if nameB a.1 = false then 7 else if Ta.Val.formedB a = false then 20 else if seen.any (fun y => y == a) = true then 6 else Ta.Val.tolF (seen ++ [a]) _) = 0 := h0
    show (if nameB a.1 = false then 7 else if Ta.Val.formedB a = false then 20 else if seen'.any (fun y => y == a) = true then 6 else Ta.Val.tolF (seen' ++ [a]) _) = 0
    split at h1
    · cases h1
    rename_i g1
    split at h1
    · cases h1
    rename_i g2
    split at h1
    · cases h1
    rename_i g3
    rw [if_neg g1, if_neg g2, if_neg (fun e => g3 (by
      obtain ⟨x, hx, he⟩ := List.any_eq_true.1 e
      exact List.any_eq_true.2 ⟨x, hs x hx, he⟩))]
    refine ih (fun x hx => ?_) h1
    rcases List.mem_append.1 hx with hx | hx
    · exact List.mem_append_left _ (hs x hx)
    · exact List.mem_append_right _ hx
theorem tols_sub {l' l : List (Txt × Txt × Bool)} (h : l'.Sublist l) (h0 : Ta.Val.tolsR l = 0) : Ta.Val.tolsR l' = 0 := by
  unfold Ta.Val.tolsR at h0 ⊢
  have hl := h.length_le
  by_cases h8 : 4 < l.length
  · rw [if_pos h8] at h0; cases h0
  · rw [if_neg h8] at h0
    rw [if_neg (by omega)]
    exact tolF_sub h (fun _ hx => hx) h0
/-- A pod with less. -/
def lessPod (n : Nat) (p : VPod) : VPod := ⟨p.name, p.app, p.need, p.prio, cut n p.reqs, cut n p.tols, cut n p.spread, cut n p.near, p.apart, p.since, p.on⟩
theorem less_pod (n : Nat) (p : VPod) (h : podR p = 0) : podR (lessPod n p) = 0 := by
  have h1 := ore_zero.1 h
  simp only [List.mem_cons, List.not_mem_nil, or_false, forall_eq_or_imp, forall_eq] at h1
  obtain ⟨a1, a2, a3, a4, a5, a6, a7, a8, a9, a10, a11⟩ := h1
  refine ore_zero.2 ?_
  simp only [List.mem_cons, List.not_mem_nil, or_false, forall_eq_or_imp, forall_eq]
  have b6 := (unl_zero (by decide)).1 a6
  have c6 : p.spread.length ≤ 3 ∧ p.near.length ≤ 3 ∧ p.apart.length ≤ 3 := of_decide_eq_true b6
  refine ⟨a1, a2, a3, more_sub (cut_sub _ _) a4, tols_sub (cut_sub _ _) a5, (unl_zero (by decide)).2 (decide_eq_true ?_), alle_zero.2 fun x hx => alle_zero.1 a7 x ((cut_sub _ _).subset hx), alle_zero.2 fun x hx => alle_zero.1 a8 x ((cut_sub _ _).subset hx), a9, a10, a11⟩
  exact ⟨Nat.le_trans (cut_sub n p.spread).length_le c6.1, Nat.le_trans (cut_sub n p.near).length_le c6.2.1, c6.2.2⟩
theorem nodes_ok : ∀ {p : Option Txt} {l : List Txt}, nodesF p l = 0 → (∀ x ∈ l, nameB x = true) ∧ (∀ x, l[0]? = some x → behindT p x = true) ∧ ∀ i x y, l[i]? = some x → l[i + 1]? = some y → lt x y = true
  | _, [], _ => ⟨fun x hx => (List.not_mem_nil hx).elim, fun x hx => by simp at hx, fun i x y hx _ => by simp at hx⟩
  | p, z :: l, h => by
    have h1 : (if nameB z = false then 7 else if behindT p z = false then 6 else nodesF (some z) l) = 0 := h
    split at h1
    · cases h1
    rename_i g1
    split at h1
    · cases h1
    rename_i g2
    obtain ⟨a1, a2, a3⟩ := nodes_ok h1
    refine ⟨fun x hx => ?_, fun x hx => ?_, fun i x y hx hy => ?_⟩
    · rcases List.mem_cons.1 hx with rfl | hx
      · simpa using g1
      · exact a1 x hx
    · simp only [List.getElem?_cons_zero, Option.some.injEq] at hx
      subst hx
      simpa using g2
    · cases i with
      | zero =>
        simp only [List.getElem?_cons_zero, Option.some.injEq, List.getElem?_cons_succ, Nat.zero_add] at hx hy
        subst hx
        exact a2 y hy
      | succ i =>
        simp only [List.getElem?_cons_succ] at hx hy
        exact a3 i x y hx hy
/-- A command of one node. -/
def oneNode (x : Txt) (c : VCmd) : VCmd := ⟨c.cause, [x], c.step, c.til, c.fresh, c.pool, c.opts, c.made⟩
theorem cmd_nodes (c : VCmd) (h : cmdR c = 0) : 1 ≤ c.nodes.length ∧ c.nodes.length ≤ 4 ∧ (∀ x ∈ c.nodes, cmdR (oneNode x c) = 0) ∧ ∀ i x y, c.nodes[i]? = some x → c.nodes[i + 1]? = some y → lt x y = true := by
  have h1 := ore_zero.1 h
  simp only [List.mem_cons, List.not_mem_nil, or_false, forall_eq_or_imp, forall_eq] at h1
  obtain ⟨a1, a2, a3, a4, a5, a6⟩ := h1
  unfold nodesR at a3
  split at a3
  · cases a3
  rename_i g1
  split at a3
  · cases a3
  rename_i g2
  obtain ⟨b1, _, b3⟩ := nodes_ok a3
  refine ⟨by omega, by omega, fun x hx => ?_, b3⟩
  refine ore_zero.2 ?_
  simp only [List.mem_cons, List.not_mem_nil, or_false, forall_eq_or_imp, forall_eq]
  refine ⟨a1, a2, ?_, a4, a5, a6⟩
  show (if 4 < 1 then 3 else if 1 = 0 then 1 else if nameB x = false then 7 else if behindT none x = false then 6 else nodesF (some x) []) = (0 : Int)
  rw [b1 x hx]
  rfl
end Go.Proofs.YthaldbjnnbllbaaGreatDoor.Val

/- Kinds of the program's own data, out of tools/reps.py. No function of the program is named. -/
namespace Go.Proofs.YthaldbjnnbllbaaGreatDoor
open Go.ChangeShapes Go.WideShapes Go.ChangeAt Go.RowKit Val

def offK : Rep (Txt × Txt × Txt) := (pairK strK (pairK strK strK))
theorem off_at {w : World} {b o : Nat} {x : Txt × Txt × Txt} : At offK w b o x ↔ (w.cell? ⟨b, o, none⟩ = some (.string (bytesT x.1)) ∧ short x.1) ∧ (w.cell? ⟨b, o + 1, none⟩ = some (.string (bytesT x.2.1)) ∧ short x.2.1) ∧ (w.cell? ⟨b, o + 2, none⟩ = some (.string (bytesT x.2.2)) ∧ short x.2.2) := by
  constructor
  · intro h
    obtain ⟨h0, g0⟩ := at_pair.1 h
    obtain ⟨h1, g1⟩ := at_pair.1 g0
    exact ⟨at_str.1 h0, at_str.1 h1, at_str.1 g1⟩
  · rintro ⟨h0, h1, h2⟩
    exact (at_pair.2 ⟨(at_str.2 h0), (at_pair.2 ⟨(at_str.2 h1), (at_str.2 h2)⟩)⟩)
theorem off_row {w : World} {x : Txt × Txt × Txt} (s0 : short x.1) (s1 : short x.2.1) (s2 : short x.2.2) : offK.R w [.string (bytesT x.1), .string (bytesT x.2.1), .string (bytesT x.2.2)] x := ⟨_, _, rfl, ⟨rfl, s0⟩, ⟨_, _, rfl, ⟨rfl, s1⟩, ⟨rfl, s2⟩⟩⟩
theorem off_cells : Tryz.prog.cellsOf 34 = 3 := by kernel_rfl
theorem off_bytes : Tryz.prog.bytesOf 34 = 48 := by kernel_rfl
section
variable {H : Type} {enc : TypeId × Value → H} {W : World} {base : Nat} {spare : Nat → Bool} {held : Bool}
set_option maxRecDepth 100000 in
theorem opens_off : Opens enc W base spare held offK 34 := fun n cs y h hz => by
  obtain ⟨xs, n, _, hx, hl, hlen, hfs⟩ := DataW.trod_struct Tryz.underlying34 h
  rw [off_cells] at hl
  match xs, hlen with
  | [y0, y1, y2], _ =>
    have hd := congrArg Prod.fst hx
    simp only at hd
    have hw : ∀ (j : Nat) (t : TypeId) (x : DataW H), [9, 9, 9][j]? = some t → [y0.1, y1.1, y2.1][j]? = some x → ∀ k ∈ x.weights Tryz.prog t, k ≤ reachBytes := fun j t x h1 h2 k hk => hz k (by
      rw [hd]
      simp only [DataW.weights, Tryz.underlying34]
      exact DataW.weights_mem_each (j := j) h1 h2 k hk)
    match cs, hl with
    | [c0, c1, c2], _ =>
      have h0 := hfs 0 _ rfl
      have h1 := hfs 1 _ rfl
      have h2 := hfs 2 _ rfl
      simp only [List.getElem?_cons_zero, List.getElem?_cons_succ] at h0 h1 h2
      exact (opens_pair (opens_str Tryz.underlying9 _ _ _ h0 (hw 0 _ _ rfl rfl)) (opens_pair (opens_str Tryz.underlying9 _ _ _ h1 (hw 1 _ _ rfl rfl)) (opens_str Tryz.underlying9 _ _ _ h2 (hw 2 _ _ rfl rfl))))
end
theorem tells_off : Tells offK 34 35 48 := ⟨⟨.agg #[.string ⟨#[]⟩, .string ⟨#[]⟩, .string ⟨#[]⟩], by kernel_rfl, rfl⟩, Tryz.underlying35, by decide⟩
def coolK : Rep ((Txt × Txt × Txt) × Int) := (pairK offK intK)
theorem cool_at {w : World} {b o : Nat} {x : (Txt × Txt × Txt) × Int} : At coolK w b o x ↔ At offK w b o x.1 ∧ w.cell? ⟨b, o + 3, none⟩ = some (.int .i64 x.2) := by
  constructor
  · intro h
    obtain ⟨h0, g0⟩ := at_pair.1 h
    exact ⟨h0, at_int.1 g0⟩
  · rintro ⟨h0, h1⟩
    exact (at_pair.2 ⟨h0, (at_int.2 h1)⟩)
theorem cool_row {w : World} {x : (Txt × Txt × Txt) × Int} (s0_0 : short x.1.1) (s0_1 : short x.1.2.1) (s0_2 : short x.1.2.2) : coolK.R w [.string (bytesT x.1.1), .string (bytesT x.1.2.1), .string (bytesT x.1.2.2), .int .i64 x.2] x := ⟨_, _, rfl, ⟨_, _, rfl, ⟨rfl, s0_0⟩, ⟨_, _, rfl, ⟨rfl, s0_1⟩, ⟨rfl, s0_2⟩⟩⟩, rfl⟩
theorem cool_cells : Tryz.prog.cellsOf 42 = 4 := by kernel_rfl
theorem cool_bytes : Tryz.prog.bytesOf 42 = 56 := by kernel_rfl
section
variable {H : Type} {enc : TypeId × Value → H} {W : World} {base : Nat} {spare : Nat → Bool} {held : Bool}
set_option maxRecDepth 100000 in
theorem opens_cool : Opens enc W base spare held coolK 42 := fun n cs y h hz => by
  obtain ⟨xs, n, _, hx, hl, hlen, hfs⟩ := DataW.trod_struct Tryz.underlying42 h
  rw [cool_cells] at hl
  match xs, hlen with
  | [y0, y1], _ =>
    have hd := congrArg Prod.fst hx
    simp only at hd
    have hw : ∀ (j : Nat) (t : TypeId) (x : DataW H), [34, 2][j]? = some t → [y0.1, y1.1][j]? = some x → ∀ k ∈ x.weights Tryz.prog t, k ≤ reachBytes := fun j t x h1 h2 k hk => hz k (by
      rw [hd]
      simp only [DataW.weights, Tryz.underlying42]
      exact DataW.weights_mem_each (j := j) h1 h2 k hk)
    match cs, hl with
    | [c0, c1, c2, c3], _ =>
      have h0 := hfs 0 _ rfl
      have h1 := hfs 1 _ rfl
      simp only [List.getElem?_cons_zero, List.getElem?_cons_succ] at h0 h1
      exact (opens_pair (opens_off _ _ _ h0 (hw 0 _ _ rfl rfl)) (opens_int Tryz.underlying2 _ _ _ h1 (hw 1 _ _ rfl rfl)))
end
theorem tells_cool : Tells coolK 42 63 56 := ⟨⟨.agg #[.string ⟨#[]⟩, .string ⟨#[]⟩, .string ⟨#[]⟩, .int .i64 0], by kernel_rfl, rfl⟩, Tryz.underlying63, by decide⟩
end Go.Proofs.YthaldbjnnbllbaaGreatDoor

/- Kinds of the program's own data, out of tools/reps.py. No function of the program is named. -/
namespace Go.Proofs.YthaldbjnnbllbaaGreatDoor
open Go.ChangeShapes Go.WideShapes Go.ChangeAt Go.RowKit Val

def amtK : Rep (Int × Int) := pairK intK intK
theorem at_amt {w : World} {b o : Nat} {x : Int × Int} : At amtK w b o x ↔ w.cell? ⟨b, o, none⟩ = some (.int .i64 x.1) ∧ w.cell? ⟨b, o + 1, none⟩ = some (.int .i64 x.2) := by
  constructor
  · intro h
    obtain ⟨h0, h1⟩ := at_pair.1 h
    exact ⟨at_int.1 h0, at_int.1 h1⟩
  · rintro ⟨h0, h1⟩
    exact at_pair.2 ⟨at_int.2 h0, at_int.2 h1⟩
theorem amt_cells : Tryz.prog.cellsOf 23 = 2 := by kernel_rfl
section
variable {H : Type} {enc : TypeId × Value → H} {W : World} {base : Nat} {spare : Nat → Bool} {held : Bool}
set_option maxRecDepth 100000 in
theorem opens_amt : Opens enc W base spare held amtK 23 := fun n cs y h _ => by
  obtain ⟨xs, m, _, _, hcl, hl, hx⟩ := DataW.trod_array Tryz.underlying23 h
  rw [show Tryz.prog.cellsOf 23 = 2 by kernel_rfl] at hcl
  match cs, hcl with
  | [c0, c1], _ =>
    have h0 := hx 0 (by decide)
    have h1 := hx 1 (by decide)
    match xs, hl with
    | [y0, y1], _ =>
      simp only [List.getElem?_cons_zero, List.getElem?_cons_succ] at h0 h1
      exact opens_pair (opens_int Tryz.underlying2 _ _ _ h0 (fun k hk => by
        obtain ⟨z, _, e, _⟩ := DataW.trod_int Tryz.underlying2 h0
        rw [e] at hk; simp [DataW.weights] at hk)) (opens_int Tryz.underlying2 _ _ _ h1 (fun k hk => by
        obtain ⟨z, _, e, _⟩ := DataW.trod_int Tryz.underlying2 h1
        rw [e] at hk; simp [DataW.weights] at hk))
end
def labK : Rep (Txt × Txt) := (pairK strK strK)
theorem lab_at {w : World} {b o : Nat} {x : Txt × Txt} : At labK w b o x ↔ (w.cell? ⟨b, o, none⟩ = some (.string (bytesT x.1)) ∧ short x.1) ∧ (w.cell? ⟨b, o + 1, none⟩ = some (.string (bytesT x.2)) ∧ short x.2) := by
  constructor
  · intro h
    obtain ⟨h0, g0⟩ := at_pair.1 h
    exact ⟨at_str.1 h0, at_str.1 g0⟩
  · rintro ⟨h0, h1⟩
    exact (at_pair.2 ⟨(at_str.2 h0), (at_str.2 h1)⟩)
theorem lab_row {w : World} {x : Txt × Txt} (s0 : short x.1) (s1 : short x.2) : labK.R w [.string (bytesT x.1), .string (bytesT x.2)] x := ⟨_, _, rfl, ⟨rfl, s0⟩, ⟨rfl, s1⟩⟩
theorem lab_cells : Tryz.prog.cellsOf 96 = 2 := by kernel_rfl
theorem lab_bytes : Tryz.prog.bytesOf 96 = 32 := by kernel_rfl
section
variable {H : Type} {enc : TypeId × Value → H} {W : World} {base : Nat} {spare : Nat → Bool} {held : Bool}
set_option maxRecDepth 100000 in
theorem opens_lab : Opens enc W base spare held labK 96 := fun n cs y h hz => by
  obtain ⟨xs, n, _, hx, hl, hlen, hfs⟩ := DataW.trod_struct Tryz.underlying96 h
  rw [lab_cells] at hl
  match xs, hlen with
  | [y0, y1], _ =>
    have hd := congrArg Prod.fst hx
    simp only at hd
    have hw : ∀ (j : Nat) (t : TypeId) (x : DataW H), [9, 9][j]? = some t → [y0.1, y1.1][j]? = some x → ∀ k ∈ x.weights Tryz.prog t, k ≤ reachBytes := fun j t x h1 h2 k hk => hz k (by
      rw [hd]
      simp only [DataW.weights, Tryz.underlying96]
      exact DataW.weights_mem_each (j := j) h1 h2 k hk)
    match cs, hl with
    | [c0, c1], _ =>
      have h0 := hfs 0 _ rfl
      have h1 := hfs 1 _ rfl
      simp only [List.getElem?_cons_zero, List.getElem?_cons_succ] at h0 h1
      exact (opens_pair (opens_str Tryz.underlying9 _ _ _ h0 (hw 0 _ _ rfl rfl)) (opens_str Tryz.underlying9 _ _ _ h1 (hw 1 _ _ rfl rfl)))
end
theorem tells_lab : Tells labK 96 30 32 := ⟨⟨.agg #[.string ⟨#[]⟩, .string ⟨#[]⟩], by kernel_rfl, rfl⟩, Tryz.underlying30, by decide⟩
def tolK : Rep (Txt × Txt × Bool) := (pairK strK (pairK strK boolK))
theorem tol_at {w : World} {b o : Nat} {x : Txt × Txt × Bool} : At tolK w b o x ↔ (w.cell? ⟨b, o, none⟩ = some (.string (bytesT x.1)) ∧ short x.1) ∧ (w.cell? ⟨b, o + 1, none⟩ = some (.string (bytesT x.2.1)) ∧ short x.2.1) ∧ w.cell? ⟨b, o + 2, none⟩ = some (.bool x.2.2) := by
  constructor
  · intro h
    obtain ⟨h0, g0⟩ := at_pair.1 h
    obtain ⟨h1, g1⟩ := at_pair.1 g0
    exact ⟨at_str.1 h0, at_str.1 h1, at_bool.1 g1⟩
  · rintro ⟨h0, h1, h2⟩
    exact (at_pair.2 ⟨(at_str.2 h0), (at_pair.2 ⟨(at_str.2 h1), (at_bool.2 h2)⟩)⟩)
theorem tol_row {w : World} {x : Txt × Txt × Bool} (s0 : short x.1) (s1 : short x.2.1) : tolK.R w [.string (bytesT x.1), .string (bytesT x.2.1), .bool x.2.2] x := ⟨_, _, rfl, ⟨rfl, s0⟩, ⟨_, _, rfl, ⟨rfl, s1⟩, rfl⟩⟩
theorem tol_cells : Tryz.prog.cellsOf 91 = 3 := by kernel_rfl
theorem tol_bytes : Tryz.prog.bytesOf 91 = 40 := by kernel_rfl
section
variable {H : Type} {enc : TypeId × Value → H} {W : World} {base : Nat} {spare : Nat → Bool} {held : Bool}
set_option maxRecDepth 100000 in
theorem opens_tol : Opens enc W base spare held tolK 91 := fun n cs y h hz => by
  obtain ⟨xs, n, _, hx, hl, hlen, hfs⟩ := DataW.trod_struct Tryz.underlying91 h
  rw [tol_cells] at hl
  match xs, hlen with
  | [y0, y1, y2], _ =>
    have hd := congrArg Prod.fst hx
    simp only at hd
    have hw : ∀ (j : Nat) (t : TypeId) (x : DataW H), [9, 9, 4][j]? = some t → [y0.1, y1.1, y2.1][j]? = some x → ∀ k ∈ x.weights Tryz.prog t, k ≤ reachBytes := fun j t x h1 h2 k hk => hz k (by
      rw [hd]
      simp only [DataW.weights, Tryz.underlying91]
      exact DataW.weights_mem_each (j := j) h1 h2 k hk)
    match cs, hl with
    | [c0, c1, c2], _ =>
      have h0 := hfs 0 _ rfl
      have h1 := hfs 1 _ rfl
      have h2 := hfs 2 _ rfl
      simp only [List.getElem?_cons_zero, List.getElem?_cons_succ] at h0 h1 h2
      exact (opens_pair (opens_str Tryz.underlying9 _ _ _ h0 (hw 0 _ _ rfl rfl)) (opens_pair (opens_str Tryz.underlying9 _ _ _ h1 (hw 1 _ _ rfl rfl)) (opens_bool Tryz.underlying4 _ _ _ h2 (hw 2 _ _ rfl rfl))))
end
theorem tells_tol : Tells tolK 91 25 40 := ⟨⟨.agg #[.string ⟨#[]⟩, .string ⟨#[]⟩, .bool false], by kernel_rfl, rfl⟩, Tryz.underlying25, by decide⟩
def reqK : Rep (VReq) := isoK (pairK strK (pairK intK (pairK (listK strK) intK))) (fun x => (x.key, x.op, x.vals, x.n))
theorem req_at {w : World} {b o : Nat} {x : VReq} : At reqK w b o x ↔ (w.cell? ⟨b, o, none⟩ = some (.string (bytesT x.key)) ∧ short x.key) ∧ w.cell? ⟨b, o + 1, none⟩ = some (.int .i64 x.op) ∧ (∃ v, w.cell? ⟨b, o + 2, none⟩ = some v ∧ Lst strK w v x.vals) ∧ w.cell? ⟨b, o + 3, none⟩ = some (.int .i64 x.n) := by
  constructor
  · intro h
    obtain ⟨h0, g0⟩ := at_pair.1 h
    obtain ⟨h1, g1⟩ := at_pair.1 g0
    obtain ⟨h2, g2⟩ := at_pair.1 g1
    exact ⟨at_str.1 h0, at_int.1 h1, at_lst.1 h2, at_int.1 g2⟩
  · rintro ⟨h0, h1, h2, h3⟩
    exact (at_pair.2 ⟨(at_str.2 h0), (at_pair.2 ⟨(at_int.2 h1), (at_pair.2 ⟨(at_lst.2 h2), (at_int.2 h3)⟩)⟩)⟩)
theorem req_row {w : World} {x : VReq} {v2 : Value} (s0 : short x.key) (l2 : Lst strK w v2 x.vals) : reqK.R w [.string (bytesT x.key), .int .i64 x.op, v2, .int .i64 x.n] x := ⟨_, _, rfl, ⟨rfl, s0⟩, ⟨_, _, rfl, rfl, ⟨_, _, rfl, ⟨_, rfl, l2⟩, rfl⟩⟩⟩
theorem req_cells : Tryz.prog.cellsOf 104 = 4 := by kernel_rfl
theorem req_bytes : Tryz.prog.bytesOf 104 = 56 := by kernel_rfl
section
variable {H : Type} {enc : TypeId × Value → H} {W : World} {base : Nat} {spare : Nat → Bool} {held : Bool}
set_option maxRecDepth 100000 in
theorem opens_req : Opens enc W base spare held reqK 104 := fun n cs y h hz => by
  obtain ⟨xs, n, _, hx, hl, hlen, hfs⟩ := DataW.trod_struct Tryz.underlying104 h
  rw [req_cells] at hl
  match xs, hlen with
  | [y0, y1, y2, y3], _ =>
    have hd := congrArg Prod.fst hx
    simp only at hd
    have hw : ∀ (j : Nat) (t : TypeId) (x : DataW H), [9, 3, 38, 2][j]? = some t → [y0.1, y1.1, y2.1, y3.1][j]? = some x → ∀ k ∈ x.weights Tryz.prog t, k ≤ reachBytes := fun j t x h1 h2 k hk => hz k (by
      rw [hd]
      simp only [DataW.weights, Tryz.underlying104]
      exact DataW.weights_mem_each (j := j) h1 h2 k hk)
    match cs, hl with
    | [c0, c1, c2, c3], _ =>
      have h0 := hfs 0 _ rfl
      have h1 := hfs 1 _ rfl
      have h2 := hfs 2 _ rfl
      have h3 := hfs 3 _ rfl
      simp only [List.getElem?_cons_zero, List.getElem?_cons_succ] at h0 h1 h2 h3
      exact opens_iso (fun y => ⟨y.1, y.2.1, y.2.2.1, y.2.2.2⟩) (fun _ => rfl) (opens_pair (opens_str Tryz.underlying9 _ _ _ h0 (hw 0 _ _ rfl rfl)) (opens_pair (opens_int Tryz.underlying3 _ _ _ h1 (hw 1 _ _ rfl rfl)) (opens_pair (opens_list Tryz.underlying38 (show Tryz.prog.cellsOf 9 = 1 by kernel_rfl) (show Tryz.prog.bytesOf 9 = 16 by kernel_rfl) (by decide) (by decide) (opens_str Tryz.underlying9) _ _ _ h2 (hw 2 _ _ rfl rfl)) (opens_int Tryz.underlying2 _ _ _ h3 (hw 3 _ _ rfl rfl)))))
end
theorem tells_req : Tells reqK 104 24 56 := ⟨⟨.agg #[.string ⟨#[]⟩, .int .i64 0, .slice none 0 0, .int .i64 0], by kernel_rfl, rfl⟩, Tryz.underlying24, by decide⟩
def trmK : Rep (Txt × Txt) := (pairK strK strK)
theorem trm_at {w : World} {b o : Nat} {x : Txt × Txt} : At trmK w b o x ↔ (w.cell? ⟨b, o, none⟩ = some (.string (bytesT x.1)) ∧ short x.1) ∧ (w.cell? ⟨b, o + 1, none⟩ = some (.string (bytesT x.2)) ∧ short x.2) := by
  constructor
  · intro h
    obtain ⟨h0, g0⟩ := at_pair.1 h
    exact ⟨at_str.1 h0, at_str.1 g0⟩
  · rintro ⟨h0, h1⟩
    exact (at_pair.2 ⟨(at_str.2 h0), (at_str.2 h1)⟩)
theorem trm_row {w : World} {x : Txt × Txt} (s0 : short x.1) (s1 : short x.2) : trmK.R w [.string (bytesT x.1), .string (bytesT x.2)] x := ⟨_, _, rfl, ⟨rfl, s0⟩, ⟨rfl, s1⟩⟩
theorem trm_cells : Tryz.prog.cellsOf 82 = 2 := by kernel_rfl
theorem trm_bytes : Tryz.prog.bytesOf 82 = 32 := by kernel_rfl
section
variable {H : Type} {enc : TypeId × Value → H} {W : World} {base : Nat} {spare : Nat → Bool} {held : Bool}
set_option maxRecDepth 100000 in
theorem opens_trm : Opens enc W base spare held trmK 82 := fun n cs y h hz => by
  obtain ⟨xs, n, _, hx, hl, hlen, hfs⟩ := DataW.trod_struct Tryz.underlying82 h
  rw [trm_cells] at hl
  match xs, hlen with
  | [y0, y1], _ =>
    have hd := congrArg Prod.fst hx
    simp only at hd
    have hw : ∀ (j : Nat) (t : TypeId) (x : DataW H), [9, 9][j]? = some t → [y0.1, y1.1][j]? = some x → ∀ k ∈ x.weights Tryz.prog t, k ≤ reachBytes := fun j t x h1 h2 k hk => hz k (by
      rw [hd]
      simp only [DataW.weights, Tryz.underlying82]
      exact DataW.weights_mem_each (j := j) h1 h2 k hk)
    match cs, hl with
    | [c0, c1], _ =>
      have h0 := hfs 0 _ rfl
      have h1 := hfs 1 _ rfl
      simp only [List.getElem?_cons_zero, List.getElem?_cons_succ] at h0 h1
      exact (opens_pair (opens_str Tryz.underlying9 _ _ _ h0 (hw 0 _ _ rfl rfl)) (opens_str Tryz.underlying9 _ _ _ h1 (hw 1 _ _ rfl rfl)))
end
theorem tells_trm : Tells trmK 82 27 32 := ⟨⟨.agg #[.string ⟨#[]⟩, .string ⟨#[]⟩], by kernel_rfl, rfl⟩, Tryz.underlying27, by decide⟩
def sprK : Rep (Txt × Txt × Int) := (pairK strK (pairK strK intK))
theorem spr_at {w : World} {b o : Nat} {x : Txt × Txt × Int} : At sprK w b o x ↔ (w.cell? ⟨b, o, none⟩ = some (.string (bytesT x.1)) ∧ short x.1) ∧ (w.cell? ⟨b, o + 1, none⟩ = some (.string (bytesT x.2.1)) ∧ short x.2.1) ∧ w.cell? ⟨b, o + 2, none⟩ = some (.int .i64 x.2.2) := by
  constructor
  · intro h
    obtain ⟨h0, g0⟩ := at_pair.1 h
    obtain ⟨h1, g1⟩ := at_pair.1 g0
    exact ⟨at_str.1 h0, at_str.1 h1, at_int.1 g1⟩
  · rintro ⟨h0, h1, h2⟩
    exact (at_pair.2 ⟨(at_str.2 h0), (at_pair.2 ⟨(at_str.2 h1), (at_int.2 h2)⟩)⟩)
theorem spr_row {w : World} {x : Txt × Txt × Int} (s0 : short x.1) (s1 : short x.2.1) : sprK.R w [.string (bytesT x.1), .string (bytesT x.2.1), .int .i64 x.2.2] x := ⟨_, _, rfl, ⟨rfl, s0⟩, ⟨_, _, rfl, ⟨rfl, s1⟩, rfl⟩⟩
theorem spr_cells : Tryz.prog.cellsOf 61 = 3 := by kernel_rfl
theorem spr_bytes : Tryz.prog.bytesOf 61 = 40 := by kernel_rfl
section
variable {H : Type} {enc : TypeId × Value → H} {W : World} {base : Nat} {spare : Nat → Bool} {held : Bool}
set_option maxRecDepth 100000 in
theorem opens_spr : Opens enc W base spare held sprK 61 := fun n cs y h hz => by
  obtain ⟨xs, n, _, hx, hl, hlen, hfs⟩ := DataW.trod_struct Tryz.underlying61 h
  rw [spr_cells] at hl
  match xs, hlen with
  | [y0, y1, y2], _ =>
    have hd := congrArg Prod.fst hx
    simp only at hd
    have hw : ∀ (j : Nat) (t : TypeId) (x : DataW H), [9, 9, 3][j]? = some t → [y0.1, y1.1, y2.1][j]? = some x → ∀ k ∈ x.weights Tryz.prog t, k ≤ reachBytes := fun j t x h1 h2 k hk => hz k (by
      rw [hd]
      simp only [DataW.weights, Tryz.underlying61]
      exact DataW.weights_mem_each (j := j) h1 h2 k hk)
    match cs, hl with
    | [c0, c1, c2], _ =>
      have h0 := hfs 0 _ rfl
      have h1 := hfs 1 _ rfl
      have h2 := hfs 2 _ rfl
      simp only [List.getElem?_cons_zero, List.getElem?_cons_succ] at h0 h1 h2
      exact (opens_pair (opens_str Tryz.underlying9 _ _ _ h0 (hw 0 _ _ rfl rfl)) (opens_pair (opens_str Tryz.underlying9 _ _ _ h1 (hw 1 _ _ rfl rfl)) (opens_int Tryz.underlying3 _ _ _ h2 (hw 2 _ _ rfl rfl))))
end
theorem tells_spr : Tells sprK 61 26 40 := ⟨⟨.agg #[.string ⟨#[]⟩, .string ⟨#[]⟩, .int .i64 0], by kernel_rfl, rfl⟩, Tryz.underlying26, by decide⟩
def podK : Rep (VPod) := isoK (pairK strK (pairK strK (pairK amtK (pairK intK (pairK (bigK reqK 56) (pairK (bigK tolK 40) (pairK (bigK sprK 40) (pairK (bigK trmK 32) (pairK (bigK trmK 32) (pairK intK strK)))))))))) (fun x => (x.name, x.app, x.need, x.prio, x.reqs, x.tols, x.spread, x.near, x.apart, x.since, x.on))
theorem pod_at {w : World} {b o : Nat} {x : VPod} : At podK w b o x ↔ (w.cell? ⟨b, o, none⟩ = some (.string (bytesT x.name)) ∧ short x.name) ∧ (w.cell? ⟨b, o + 1, none⟩ = some (.string (bytesT x.app)) ∧ short x.app) ∧ (w.cell? ⟨b, o + 2, none⟩ = some (.int .i64 x.need.1) ∧ w.cell? ⟨b, o + 3, none⟩ = some (.int .i64 x.need.2)) ∧ w.cell? ⟨b, o + 4, none⟩ = some (.int .i64 x.prio) ∧ (∃ v, w.cell? ⟨b, o + 5, none⟩ = some v ∧ Lst reqK w v x.reqs ∧ x.reqs.length * 56 ≤ reachBytes) ∧ (∃ v, w.cell? ⟨b, o + 6, none⟩ = some v ∧ Lst tolK w v x.tols ∧ x.tols.length * 40 ≤ reachBytes) ∧ (∃ v, w.cell? ⟨b, o + 7, none⟩ = some v ∧ Lst sprK w v x.spread ∧ x.spread.length * 40 ≤ reachBytes) ∧ (∃ v, w.cell? ⟨b, o + 8, none⟩ = some v ∧ Lst trmK w v x.near ∧ x.near.length * 32 ≤ reachBytes) ∧ (∃ v, w.cell? ⟨b, o + 9, none⟩ = some v ∧ Lst trmK w v x.apart ∧ x.apart.length * 32 ≤ reachBytes) ∧ w.cell? ⟨b, o + 10, none⟩ = some (.int .i64 x.since) ∧ (w.cell? ⟨b, o + 11, none⟩ = some (.string (bytesT x.on)) ∧ short x.on) := by
  constructor
  · intro h
    obtain ⟨h0, g0⟩ := at_pair.1 h
    obtain ⟨h1, g1⟩ := at_pair.1 g0
    obtain ⟨h2, g2⟩ := at_pair.1 g1
    obtain ⟨h3, g3⟩ := at_pair.1 g2
    obtain ⟨h4, g4⟩ := at_pair.1 g3
    obtain ⟨h5, g5⟩ := at_pair.1 g4
    obtain ⟨h6, g6⟩ := at_pair.1 g5
    obtain ⟨h7, g7⟩ := at_pair.1 g6
    obtain ⟨h8, g8⟩ := at_pair.1 g7
    obtain ⟨h9, g9⟩ := at_pair.1 g8
    exact ⟨at_str.1 h0, at_str.1 h1, at_amt.1 h2, at_int.1 h3, at_big.1 h4, at_big.1 h5, at_big.1 h6, at_big.1 h7, at_big.1 h8, at_int.1 h9, at_str.1 g9⟩
  · rintro ⟨h0, h1, h2, h3, h4, h5, h6, h7, h8, h9, h10⟩
    exact (at_pair.2 ⟨(at_str.2 h0), (at_pair.2 ⟨(at_str.2 h1), (at_pair.2 ⟨(at_amt.2 h2), (at_pair.2 ⟨(at_int.2 h3), (at_pair.2 ⟨(at_big.2 h4), (at_pair.2 ⟨(at_big.2 h5), (at_pair.2 ⟨(at_big.2 h6), (at_pair.2 ⟨(at_big.2 h7), (at_pair.2 ⟨(at_big.2 h8), (at_pair.2 ⟨(at_int.2 h9), (at_str.2 h10)⟩)⟩)⟩)⟩)⟩)⟩)⟩)⟩)⟩)⟩)
theorem pod_row {w : World} {x : VPod} {v4 v5 v6 v7 v8 : Value} (s0 : short x.name) (s1 : short x.app) (l4 : Lst reqK w v4 x.reqs) (b4 : x.reqs.length * 56 ≤ reachBytes) (l5 : Lst tolK w v5 x.tols) (b5 : x.tols.length * 40 ≤ reachBytes) (l6 : Lst sprK w v6 x.spread) (b6 : x.spread.length * 40 ≤ reachBytes) (l7 : Lst trmK w v7 x.near) (b7 : x.near.length * 32 ≤ reachBytes) (l8 : Lst trmK w v8 x.apart) (b8 : x.apart.length * 32 ≤ reachBytes) (s10 : short x.on) : podK.R w [.string (bytesT x.name), .string (bytesT x.app), .int .i64 x.need.1, .int .i64 x.need.2, .int .i64 x.prio, v4, v5, v6, v7, v8, .int .i64 x.since, .string (bytesT x.on)] x := ⟨_, _, rfl, ⟨rfl, s0⟩, ⟨_, _, rfl, ⟨rfl, s1⟩, ⟨_, _, rfl, ⟨_, _, rfl, rfl, rfl⟩, ⟨_, _, rfl, rfl, ⟨_, _, rfl, ⟨_, rfl, l4, b4⟩, ⟨_, _, rfl, ⟨_, rfl, l5, b5⟩, ⟨_, _, rfl, ⟨_, rfl, l6, b6⟩, ⟨_, _, rfl, ⟨_, rfl, l7, b7⟩, ⟨_, _, rfl, ⟨_, rfl, l8, b8⟩, ⟨_, _, rfl, rfl, ⟨rfl, s10⟩⟩⟩⟩⟩⟩⟩⟩⟩⟩⟩
theorem pod_cells : Tryz.prog.cellsOf 29 = 12 := by kernel_rfl
theorem pod_bytes : Tryz.prog.bytesOf 29 = 200 := by kernel_rfl
section
variable {H : Type} {enc : TypeId × Value → H} {W : World} {base : Nat} {spare : Nat → Bool} {held : Bool}
set_option maxRecDepth 100000 in
theorem opens_pod : Opens enc W base spare held podK 29 := fun n cs y h hz => by
  obtain ⟨xs, n, _, hx, hl, hlen, hfs⟩ := DataW.trod_struct Tryz.underlying29 h
  rw [pod_cells] at hl
  match xs, hlen with
  | [y0, y1, y2, y3, y4, y5, y6, y7, y8, y9, y10], _ =>
    have hd := congrArg Prod.fst hx
    simp only at hd
    have hw : ∀ (j : Nat) (t : TypeId) (x : DataW H), [9, 9, 23, 3, 24, 25, 26, 27, 27, 2, 9][j]? = some t → [y0.1, y1.1, y2.1, y3.1, y4.1, y5.1, y6.1, y7.1, y8.1, y9.1, y10.1][j]? = some x → ∀ k ∈ x.weights Tryz.prog t, k ≤ reachBytes := fun j t x h1 h2 k hk => hz k (by
      rw [hd]
      simp only [DataW.weights, Tryz.underlying29]
      exact DataW.weights_mem_each (j := j) h1 h2 k hk)
    match cs, hl with
    | [c0, c1, c2, c3, c4, c5, c6, c7, c8, c9, c10, c11], _ =>
      have h0 := hfs 0 _ rfl
      have h1 := hfs 1 _ rfl
      have h2 := hfs 2 _ rfl
      have h3 := hfs 3 _ rfl
      have h4 := hfs 4 _ rfl
      have h5 := hfs 5 _ rfl
      have h6 := hfs 6 _ rfl
      have h7 := hfs 7 _ rfl
      have h8 := hfs 8 _ rfl
      have h9 := hfs 9 _ rfl
      have h10 := hfs 10 _ rfl
      simp only [List.getElem?_cons_zero, List.getElem?_cons_succ] at h0 h1 h2 h3 h4 h5 h6 h7 h8 h9 h10
      exact opens_iso (fun y => ⟨y.1, y.2.1, y.2.2.1, y.2.2.2.1, y.2.2.2.2.1, y.2.2.2.2.2.1, y.2.2.2.2.2.2.1, y.2.2.2.2.2.2.2.1, y.2.2.2.2.2.2.2.2.1, y.2.2.2.2.2.2.2.2.2.1, y.2.2.2.2.2.2.2.2.2.2⟩) (fun _ => rfl) (opens_pair (opens_str Tryz.underlying9 _ _ _ h0 (hw 0 _ _ rfl rfl)) (opens_pair (opens_str Tryz.underlying9 _ _ _ h1 (hw 1 _ _ rfl rfl)) (opens_pair (opens_amt _ _ _ h2 (hw 2 _ _ rfl rfl)) (opens_pair (opens_int Tryz.underlying3 _ _ _ h3 (hw 3 _ _ rfl rfl)) (opens_pair (opens_big Tryz.underlying24 req_cells req_bytes (by decide) (by decide) opens_req _ _ _ h4 (hw 4 _ _ rfl rfl)) (opens_pair (opens_big Tryz.underlying25 tol_cells tol_bytes (by decide) (by decide) opens_tol _ _ _ h5 (hw 5 _ _ rfl rfl)) (opens_pair (opens_big Tryz.underlying26 spr_cells spr_bytes (by decide) (by decide) opens_spr _ _ _ h6 (hw 6 _ _ rfl rfl)) (opens_pair (opens_big Tryz.underlying27 trm_cells trm_bytes (by decide) (by decide) opens_trm _ _ _ h7 (hw 7 _ _ rfl rfl)) (opens_pair (opens_big Tryz.underlying27 trm_cells trm_bytes (by decide) (by decide) opens_trm _ _ _ h8 (hw 8 _ _ rfl rfl)) (opens_pair (opens_int Tryz.underlying2 _ _ _ h9 (hw 9 _ _ rfl rfl)) (opens_str Tryz.underlying9 _ _ _ h10 (hw 10 _ _ rfl rfl))))))))))))
end
def polK : Rep (VPool) := isoK (pairK strK (pairK intK (pairK amtK (pairK (bigK reqK 56) (pairK (bigK labK 32) (pairK intK (pairK intK (pairK intK intK)))))))) (fun x => (x.name, x.weight, x.limit, x.reqs, x.taints, x.gen, x.expire, x.budget, x.merge))
theorem pol_at {w : World} {b o : Nat} {x : VPool} : At polK w b o x ↔ (w.cell? ⟨b, o, none⟩ = some (.string (bytesT x.name)) ∧ short x.name) ∧ w.cell? ⟨b, o + 1, none⟩ = some (.int .i64 x.weight) ∧ (w.cell? ⟨b, o + 2, none⟩ = some (.int .i64 x.limit.1) ∧ w.cell? ⟨b, o + 3, none⟩ = some (.int .i64 x.limit.2)) ∧ (∃ v, w.cell? ⟨b, o + 4, none⟩ = some v ∧ Lst reqK w v x.reqs ∧ x.reqs.length * 56 ≤ reachBytes) ∧ (∃ v, w.cell? ⟨b, o + 5, none⟩ = some v ∧ Lst labK w v x.taints ∧ x.taints.length * 32 ≤ reachBytes) ∧ w.cell? ⟨b, o + 6, none⟩ = some (.int .i64 x.gen) ∧ w.cell? ⟨b, o + 7, none⟩ = some (.int .i64 x.expire) ∧ w.cell? ⟨b, o + 8, none⟩ = some (.int .i64 x.budget) ∧ w.cell? ⟨b, o + 9, none⟩ = some (.int .i64 x.merge) := by
  constructor
  · intro h
    obtain ⟨h0, g0⟩ := at_pair.1 h
    obtain ⟨h1, g1⟩ := at_pair.1 g0
    obtain ⟨h2, g2⟩ := at_pair.1 g1
    obtain ⟨h3, g3⟩ := at_pair.1 g2
    obtain ⟨h4, g4⟩ := at_pair.1 g3
    obtain ⟨h5, g5⟩ := at_pair.1 g4
    obtain ⟨h6, g6⟩ := at_pair.1 g5
    obtain ⟨h7, g7⟩ := at_pair.1 g6
    exact ⟨at_str.1 h0, at_int.1 h1, at_amt.1 h2, at_big.1 h3, at_big.1 h4, at_int.1 h5, at_int.1 h6, at_int.1 h7, at_int.1 g7⟩
  · rintro ⟨h0, h1, h2, h3, h4, h5, h6, h7, h8⟩
    exact (at_pair.2 ⟨(at_str.2 h0), (at_pair.2 ⟨(at_int.2 h1), (at_pair.2 ⟨(at_amt.2 h2), (at_pair.2 ⟨(at_big.2 h3), (at_pair.2 ⟨(at_big.2 h4), (at_pair.2 ⟨(at_int.2 h5), (at_pair.2 ⟨(at_int.2 h6), (at_pair.2 ⟨(at_int.2 h7), (at_int.2 h8)⟩)⟩)⟩)⟩)⟩)⟩)⟩)⟩)
theorem pol_row {w : World} {x : VPool} {v3 v4 : Value} (s0 : short x.name) (l3 : Lst reqK w v3 x.reqs) (b3 : x.reqs.length * 56 ≤ reachBytes) (l4 : Lst labK w v4 x.taints) (b4 : x.taints.length * 32 ≤ reachBytes) : polK.R w [.string (bytesT x.name), .int .i64 x.weight, .int .i64 x.limit.1, .int .i64 x.limit.2, v3, v4, .int .i64 x.gen, .int .i64 x.expire, .int .i64 x.budget, .int .i64 x.merge] x := ⟨_, _, rfl, ⟨rfl, s0⟩, ⟨_, _, rfl, rfl, ⟨_, _, rfl, ⟨_, _, rfl, rfl, rfl⟩, ⟨_, _, rfl, ⟨_, rfl, l3, b3⟩, ⟨_, _, rfl, ⟨_, rfl, l4, b4⟩, ⟨_, _, rfl, rfl, ⟨_, _, rfl, rfl, ⟨_, _, rfl, rfl, rfl⟩⟩⟩⟩⟩⟩⟩⟩
theorem pol_cells : Tryz.prog.cellsOf 32 = 10 := by kernel_rfl
theorem pol_bytes : Tryz.prog.bytesOf 32 = 120 := by kernel_rfl
section
variable {H : Type} {enc : TypeId × Value → H} {W : World} {base : Nat} {spare : Nat → Bool} {held : Bool}
set_option maxRecDepth 100000 in
theorem opens_pol : Opens enc W base spare held polK 32 := fun n cs y h hz => by
  obtain ⟨xs, n, _, hx, hl, hlen, hfs⟩ := DataW.trod_struct Tryz.underlying32 h
  rw [pol_cells] at hl
  match xs, hlen with
  | [y0, y1, y2, y3, y4, y5, y6, y7, y8], _ =>
    have hd := congrArg Prod.fst hx
    simp only at hd
    have hw : ∀ (j : Nat) (t : TypeId) (x : DataW H), [9, 3, 23, 24, 30, 2, 2, 3, 3][j]? = some t → [y0.1, y1.1, y2.1, y3.1, y4.1, y5.1, y6.1, y7.1, y8.1][j]? = some x → ∀ k ∈ x.weights Tryz.prog t, k ≤ reachBytes := fun j t x h1 h2 k hk => hz k (by
      rw [hd]
      simp only [DataW.weights, Tryz.underlying32]
      exact DataW.weights_mem_each (j := j) h1 h2 k hk)
    match cs, hl with
    | [c0, c1, c2, c3, c4, c5, c6, c7, c8, c9], _ =>
      have h0 := hfs 0 _ rfl
      have h1 := hfs 1 _ rfl
      have h2 := hfs 2 _ rfl
      have h3 := hfs 3 _ rfl
      have h4 := hfs 4 _ rfl
      have h5 := hfs 5 _ rfl
      have h6 := hfs 6 _ rfl
      have h7 := hfs 7 _ rfl
      have h8 := hfs 8 _ rfl
      simp only [List.getElem?_cons_zero, List.getElem?_cons_succ] at h0 h1 h2 h3 h4 h5 h6 h7 h8
      exact opens_iso (fun y => ⟨y.1, y.2.1, y.2.2.1, y.2.2.2.1, y.2.2.2.2.1, y.2.2.2.2.2.1, y.2.2.2.2.2.2.1, y.2.2.2.2.2.2.2.1, y.2.2.2.2.2.2.2.2⟩) (fun _ => rfl) (opens_pair (opens_str Tryz.underlying9 _ _ _ h0 (hw 0 _ _ rfl rfl)) (opens_pair (opens_int Tryz.underlying3 _ _ _ h1 (hw 1 _ _ rfl rfl)) (opens_pair (opens_amt _ _ _ h2 (hw 2 _ _ rfl rfl)) (opens_pair (opens_big Tryz.underlying24 req_cells req_bytes (by decide) (by decide) opens_req _ _ _ h3 (hw 3 _ _ rfl rfl)) (opens_pair (opens_big Tryz.underlying30 lab_cells lab_bytes (by decide) (by decide) opens_lab _ _ _ h4 (hw 4 _ _ rfl rfl)) (opens_pair (opens_int Tryz.underlying2 _ _ _ h5 (hw 5 _ _ rfl rfl)) (opens_pair (opens_int Tryz.underlying2 _ _ _ h6 (hw 6 _ _ rfl rfl)) (opens_pair (opens_int Tryz.underlying3 _ _ _ h7 (hw 7 _ _ rfl rfl)) (opens_int Tryz.underlying3 _ _ _ h8 (hw 8 _ _ rfl rfl))))))))))
end
def clmK : Rep (VClaim) := isoK (pairK strK (pairK strK (pairK intK (pairK offK (pairK intK (pairK amtK (pairK (bigK offK 48) (pairK intK (pairK strK (pairK intK (pairK intK boolK))))))))))) (fun x => (x.name, x.pool, x.gen, x.offer, x.price, x.cap, x.opts, x.tryN, x.id, x.phase, x.born, x.marked))
theorem clm_at {w : World} {b o : Nat} {x : VClaim} : At clmK w b o x ↔ (w.cell? ⟨b, o, none⟩ = some (.string (bytesT x.name)) ∧ short x.name) ∧ (w.cell? ⟨b, o + 1, none⟩ = some (.string (bytesT x.pool)) ∧ short x.pool) ∧ w.cell? ⟨b, o + 2, none⟩ = some (.int .i64 x.gen) ∧ At offK w b (o + 3) x.offer ∧ w.cell? ⟨b, o + 6, none⟩ = some (.int .i64 x.price) ∧ (w.cell? ⟨b, o + 7, none⟩ = some (.int .i64 x.cap.1) ∧ w.cell? ⟨b, o + 8, none⟩ = some (.int .i64 x.cap.2)) ∧ (∃ v, w.cell? ⟨b, o + 9, none⟩ = some v ∧ Lst offK w v x.opts ∧ x.opts.length * 48 ≤ reachBytes) ∧ w.cell? ⟨b, o + 10, none⟩ = some (.int .i64 x.tryN) ∧ (w.cell? ⟨b, o + 11, none⟩ = some (.string (bytesT x.id)) ∧ short x.id) ∧ w.cell? ⟨b, o + 12, none⟩ = some (.int .i64 x.phase) ∧ w.cell? ⟨b, o + 13, none⟩ = some (.int .i64 x.born) ∧ w.cell? ⟨b, o + 14, none⟩ = some (.bool x.marked) := by
  constructor
  · intro h
    obtain ⟨h0, g0⟩ := at_pair.1 h
    obtain ⟨h1, g1⟩ := at_pair.1 g0
    obtain ⟨h2, g2⟩ := at_pair.1 g1
    obtain ⟨h3, g3⟩ := at_pair.1 g2
    obtain ⟨h4, g4⟩ := at_pair.1 g3
    obtain ⟨h5, g5⟩ := at_pair.1 g4
    obtain ⟨h6, g6⟩ := at_pair.1 g5
    obtain ⟨h7, g7⟩ := at_pair.1 g6
    obtain ⟨h8, g8⟩ := at_pair.1 g7
    obtain ⟨h9, g9⟩ := at_pair.1 g8
    obtain ⟨h10, g10⟩ := at_pair.1 g9
    exact ⟨at_str.1 h0, at_str.1 h1, at_int.1 h2, h3, at_int.1 h4, at_amt.1 h5, at_big.1 h6, at_int.1 h7, at_str.1 h8, at_int.1 h9, at_int.1 h10, at_bool.1 g10⟩
  · rintro ⟨h0, h1, h2, h3, h4, h5, h6, h7, h8, h9, h10, h11⟩
    exact (at_pair.2 ⟨(at_str.2 h0), (at_pair.2 ⟨(at_str.2 h1), (at_pair.2 ⟨(at_int.2 h2), (at_pair.2 ⟨h3, (at_pair.2 ⟨(at_int.2 h4), (at_pair.2 ⟨(at_amt.2 h5), (at_pair.2 ⟨(at_big.2 h6), (at_pair.2 ⟨(at_int.2 h7), (at_pair.2 ⟨(at_str.2 h8), (at_pair.2 ⟨(at_int.2 h9), (at_pair.2 ⟨(at_int.2 h10), (at_bool.2 h11)⟩)⟩)⟩)⟩)⟩)⟩)⟩)⟩)⟩)⟩)⟩)
theorem clm_row {w : World} {x : VClaim} {v6 : Value} (s0 : short x.name) (s1 : short x.pool) (s3_0 : short x.offer.1) (s3_1 : short x.offer.2.1) (s3_2 : short x.offer.2.2) (l6 : Lst offK w v6 x.opts) (b6 : x.opts.length * 48 ≤ reachBytes) (s8 : short x.id) : clmK.R w [.string (bytesT x.name), .string (bytesT x.pool), .int .i64 x.gen, .string (bytesT x.offer.1), .string (bytesT x.offer.2.1), .string (bytesT x.offer.2.2), .int .i64 x.price, .int .i64 x.cap.1, .int .i64 x.cap.2, v6, .int .i64 x.tryN, .string (bytesT x.id), .int .i64 x.phase, .int .i64 x.born, .bool x.marked] x := ⟨_, _, rfl, ⟨rfl, s0⟩, ⟨_, _, rfl, ⟨rfl, s1⟩, ⟨_, _, rfl, rfl, ⟨_, _, rfl, ⟨_, _, rfl, ⟨rfl, s3_0⟩, ⟨_, _, rfl, ⟨rfl, s3_1⟩, ⟨rfl, s3_2⟩⟩⟩, ⟨_, _, rfl, rfl, ⟨_, _, rfl, ⟨_, _, rfl, rfl, rfl⟩, ⟨_, _, rfl, ⟨_, rfl, l6, b6⟩, ⟨_, _, rfl, rfl, ⟨_, _, rfl, ⟨rfl, s8⟩, ⟨_, _, rfl, rfl, ⟨_, _, rfl, rfl, rfl⟩⟩⟩⟩⟩⟩⟩⟩⟩⟩⟩
theorem clm_cells : Tryz.prog.cellsOf 37 = 15 := by kernel_rfl
theorem clm_bytes : Tryz.prog.bytesOf 37 = 184 := by kernel_rfl
section
variable {H : Type} {enc : TypeId × Value → H} {W : World} {base : Nat} {spare : Nat → Bool} {held : Bool}
set_option maxRecDepth 100000 in
theorem opens_clm : Opens enc W base spare held clmK 37 := fun n cs y h hz => by
  obtain ⟨xs, n, _, hx, hl, hlen, hfs⟩ := DataW.trod_struct Tryz.underlying37 h
  rw [clm_cells] at hl
  match xs, hlen with
  | [y0, y1, y2, y3, y4, y5, y6, y7, y8, y9, y10, y11], _ =>
    have hd := congrArg Prod.fst hx
    simp only at hd
    have hw : ∀ (j : Nat) (t : TypeId) (x : DataW H), [9, 9, 2, 34, 2, 23, 35, 3, 9, 3, 2, 4][j]? = some t → [y0.1, y1.1, y2.1, y3.1, y4.1, y5.1, y6.1, y7.1, y8.1, y9.1, y10.1, y11.1][j]? = some x → ∀ k ∈ x.weights Tryz.prog t, k ≤ reachBytes := fun j t x h1 h2 k hk => hz k (by
      rw [hd]
      simp only [DataW.weights, Tryz.underlying37]
      exact DataW.weights_mem_each (j := j) h1 h2 k hk)
    match cs, hl with
    | [c0, c1, c2, c3, c4, c5, c6, c7, c8, c9, c10, c11, c12, c13, c14], _ =>
      have h0 := hfs 0 _ rfl
      have h1 := hfs 1 _ rfl
      have h2 := hfs 2 _ rfl
      have h3 := hfs 3 _ rfl
      have h4 := hfs 4 _ rfl
      have h5 := hfs 5 _ rfl
      have h6 := hfs 6 _ rfl
      have h7 := hfs 7 _ rfl
      have h8 := hfs 8 _ rfl
      have h9 := hfs 9 _ rfl
      have h10 := hfs 10 _ rfl
      have h11 := hfs 11 _ rfl
      simp only [List.getElem?_cons_zero, List.getElem?_cons_succ] at h0 h1 h2 h3 h4 h5 h6 h7 h8 h9 h10 h11
      exact opens_iso (fun y => ⟨y.1, y.2.1, y.2.2.1, y.2.2.2.1, y.2.2.2.2.1, y.2.2.2.2.2.1, y.2.2.2.2.2.2.1, y.2.2.2.2.2.2.2.1, y.2.2.2.2.2.2.2.2.1, y.2.2.2.2.2.2.2.2.2.1, y.2.2.2.2.2.2.2.2.2.2.1, y.2.2.2.2.2.2.2.2.2.2.2⟩) (fun _ => rfl) (opens_pair (opens_str Tryz.underlying9 _ _ _ h0 (hw 0 _ _ rfl rfl)) (opens_pair (opens_str Tryz.underlying9 _ _ _ h1 (hw 1 _ _ rfl rfl)) (opens_pair (opens_int Tryz.underlying2 _ _ _ h2 (hw 2 _ _ rfl rfl)) (opens_pair (opens_off _ _ _ h3 (hw 3 _ _ rfl rfl)) (opens_pair (opens_int Tryz.underlying2 _ _ _ h4 (hw 4 _ _ rfl rfl)) (opens_pair (opens_amt _ _ _ h5 (hw 5 _ _ rfl rfl)) (opens_pair (opens_big Tryz.underlying35 off_cells off_bytes (by decide) (by decide) opens_off _ _ _ h6 (hw 6 _ _ rfl rfl)) (opens_pair (opens_int Tryz.underlying3 _ _ _ h7 (hw 7 _ _ rfl rfl)) (opens_pair (opens_str Tryz.underlying9 _ _ _ h8 (hw 8 _ _ rfl rfl)) (opens_pair (opens_int Tryz.underlying3 _ _ _ h9 (hw 9 _ _ rfl rfl)) (opens_pair (opens_int Tryz.underlying2 _ _ _ h10 (hw 10 _ _ rfl rfl)) (opens_bool Tryz.underlying4 _ _ _ h11 (hw 11 _ _ rfl rfl)))))))))))))
end
def cmdK : Rep (VCmd) := isoK (pairK intK (pairK (listK strK) (pairK intK (pairK intK (pairK strK (pairK strK (pairK (bigK offK 48) boolK))))))) (fun x => (x.cause, x.nodes, x.step, x.til, x.fresh, x.pool, x.opts, x.made))
theorem cmd_at {w : World} {b o : Nat} {x : VCmd} : At cmdK w b o x ↔ w.cell? ⟨b, o, none⟩ = some (.int .i64 x.cause) ∧ (∃ v, w.cell? ⟨b, o + 1, none⟩ = some v ∧ Lst strK w v x.nodes) ∧ w.cell? ⟨b, o + 2, none⟩ = some (.int .i64 x.step) ∧ w.cell? ⟨b, o + 3, none⟩ = some (.int .i64 x.til) ∧ (w.cell? ⟨b, o + 4, none⟩ = some (.string (bytesT x.fresh)) ∧ short x.fresh) ∧ (w.cell? ⟨b, o + 5, none⟩ = some (.string (bytesT x.pool)) ∧ short x.pool) ∧ (∃ v, w.cell? ⟨b, o + 6, none⟩ = some v ∧ Lst offK w v x.opts ∧ x.opts.length * 48 ≤ reachBytes) ∧ w.cell? ⟨b, o + 7, none⟩ = some (.bool x.made) := by
  constructor
  · intro h
    obtain ⟨h0, g0⟩ := at_pair.1 h
    obtain ⟨h1, g1⟩ := at_pair.1 g0
    obtain ⟨h2, g2⟩ := at_pair.1 g1
    obtain ⟨h3, g3⟩ := at_pair.1 g2
    obtain ⟨h4, g4⟩ := at_pair.1 g3
    obtain ⟨h5, g5⟩ := at_pair.1 g4
    obtain ⟨h6, g6⟩ := at_pair.1 g5
    exact ⟨at_int.1 h0, at_lst.1 h1, at_int.1 h2, at_int.1 h3, at_str.1 h4, at_str.1 h5, at_big.1 h6, at_bool.1 g6⟩
  · rintro ⟨h0, h1, h2, h3, h4, h5, h6, h7⟩
    exact (at_pair.2 ⟨(at_int.2 h0), (at_pair.2 ⟨(at_lst.2 h1), (at_pair.2 ⟨(at_int.2 h2), (at_pair.2 ⟨(at_int.2 h3), (at_pair.2 ⟨(at_str.2 h4), (at_pair.2 ⟨(at_str.2 h5), (at_pair.2 ⟨(at_big.2 h6), (at_bool.2 h7)⟩)⟩)⟩)⟩)⟩)⟩)⟩)
theorem cmd_row {w : World} {x : VCmd} {v1 v6 : Value} (l1 : Lst strK w v1 x.nodes) (s4 : short x.fresh) (s5 : short x.pool) (l6 : Lst offK w v6 x.opts) (b6 : x.opts.length * 48 ≤ reachBytes) : cmdK.R w [.int .i64 x.cause, v1, .int .i64 x.step, .int .i64 x.til, .string (bytesT x.fresh), .string (bytesT x.pool), v6, .bool x.made] x := ⟨_, _, rfl, rfl, ⟨_, _, rfl, ⟨_, rfl, l1⟩, ⟨_, _, rfl, rfl, ⟨_, _, rfl, rfl, ⟨_, _, rfl, ⟨rfl, s4⟩, ⟨_, _, rfl, ⟨rfl, s5⟩, ⟨_, _, rfl, ⟨_, rfl, l6, b6⟩, rfl⟩⟩⟩⟩⟩⟩⟩
theorem cmd_cells : Tryz.prog.cellsOf 40 = 8 := by kernel_rfl
theorem cmd_bytes : Tryz.prog.bytesOf 40 = 112 := by kernel_rfl
section
variable {H : Type} {enc : TypeId × Value → H} {W : World} {base : Nat} {spare : Nat → Bool} {held : Bool}
set_option maxRecDepth 100000 in
theorem opens_cmd : Opens enc W base spare held cmdK 40 := fun n cs y h hz => by
  obtain ⟨xs, n, _, hx, hl, hlen, hfs⟩ := DataW.trod_struct Tryz.underlying40 h
  rw [cmd_cells] at hl
  match xs, hlen with
  | [y0, y1, y2, y3, y4, y5, y6, y7], _ =>
    have hd := congrArg Prod.fst hx
    simp only at hd
    have hw : ∀ (j : Nat) (t : TypeId) (x : DataW H), [3, 38, 3, 2, 9, 9, 35, 4][j]? = some t → [y0.1, y1.1, y2.1, y3.1, y4.1, y5.1, y6.1, y7.1][j]? = some x → ∀ k ∈ x.weights Tryz.prog t, k ≤ reachBytes := fun j t x h1 h2 k hk => hz k (by
      rw [hd]
      simp only [DataW.weights, Tryz.underlying40]
      exact DataW.weights_mem_each (j := j) h1 h2 k hk)
    match cs, hl with
    | [c0, c1, c2, c3, c4, c5, c6, c7], _ =>
      have h0 := hfs 0 _ rfl
      have h1 := hfs 1 _ rfl
      have h2 := hfs 2 _ rfl
      have h3 := hfs 3 _ rfl
      have h4 := hfs 4 _ rfl
      have h5 := hfs 5 _ rfl
      have h6 := hfs 6 _ rfl
      have h7 := hfs 7 _ rfl
      simp only [List.getElem?_cons_zero, List.getElem?_cons_succ] at h0 h1 h2 h3 h4 h5 h6 h7
      exact opens_iso (fun y => ⟨y.1, y.2.1, y.2.2.1, y.2.2.2.1, y.2.2.2.2.1, y.2.2.2.2.2.1, y.2.2.2.2.2.2.1, y.2.2.2.2.2.2.2⟩) (fun _ => rfl) (opens_pair (opens_int Tryz.underlying3 _ _ _ h0 (hw 0 _ _ rfl rfl)) (opens_pair (opens_list Tryz.underlying38 (show Tryz.prog.cellsOf 9 = 1 by kernel_rfl) (show Tryz.prog.bytesOf 9 = 16 by kernel_rfl) (by decide) (by decide) (opens_str Tryz.underlying9) _ _ _ h1 (hw 1 _ _ rfl rfl)) (opens_pair (opens_int Tryz.underlying3 _ _ _ h2 (hw 2 _ _ rfl rfl)) (opens_pair (opens_int Tryz.underlying2 _ _ _ h3 (hw 3 _ _ rfl rfl)) (opens_pair (opens_str Tryz.underlying9 _ _ _ h4 (hw 4 _ _ rfl rfl)) (opens_pair (opens_str Tryz.underlying9 _ _ _ h5 (hw 5 _ _ rfl rfl)) (opens_pair (opens_big Tryz.underlying35 off_cells off_bytes (by decide) (by decide) opens_off _ _ _ h6 (hw 6 _ _ rfl rfl)) (opens_bool Tryz.underlying4 _ _ _ h7 (hw 7 _ _ rfl rfl)))))))))
end
def any8K : Rep (VAny) := isoK (pairK intK (pairK podK (pairK polK (pairK clmK (pairK cmdK coolK))))) (fun x => (x.kind, x.pod, x.pool, x.claim, x.cmd, x.cool))
theorem any8_at {w : World} {b o : Nat} {x : VAny} : At any8K w b o x ↔ w.cell? ⟨b, o, none⟩ = some (.int .i64 x.kind) ∧ At podK w b (o + 1) x.pod ∧ At polK w b (o + 13) x.pool ∧ At clmK w b (o + 23) x.claim ∧ At cmdK w b (o + 38) x.cmd ∧ At coolK w b (o + 46) x.cool := by
  constructor
  · intro h
    obtain ⟨h0, g0⟩ := at_pair.1 h
    obtain ⟨h1, g1⟩ := at_pair.1 g0
    obtain ⟨h2, g2⟩ := at_pair.1 g1
    obtain ⟨h3, g3⟩ := at_pair.1 g2
    obtain ⟨h4, g4⟩ := at_pair.1 g3
    exact ⟨at_int.1 h0, h1, h2, h3, h4, g4⟩
  · rintro ⟨h0, h1, h2, h3, h4, h5⟩
    exact (at_pair.2 ⟨(at_int.2 h0), (at_pair.2 ⟨h1, (at_pair.2 ⟨h2, (at_pair.2 ⟨h3, (at_pair.2 ⟨h4, h5⟩)⟩)⟩)⟩)⟩)
theorem any8_row {w : World} {x : VAny} {v1_4 v1_5 v1_6 v1_7 v1_8 v2_3 v2_4 v3_6 v4_1 v4_6 : Value} (s1_0 : short x.pod.name) (s1_1 : short x.pod.app) (l1_4 : Lst reqK w v1_4 x.pod.reqs) (b1_4 : x.pod.reqs.length * 56 ≤ reachBytes) (l1_5 : Lst tolK w v1_5 x.pod.tols) (b1_5 : x.pod.tols.length * 40 ≤ reachBytes) (l1_6 : Lst sprK w v1_6 x.pod.spread) (b1_6 : x.pod.spread.length * 40 ≤ reachBytes) (l1_7 : Lst trmK w v1_7 x.pod.near) (b1_7 : x.pod.near.length * 32 ≤ reachBytes) (l1_8 : Lst trmK w v1_8 x.pod.apart) (b1_8 : x.pod.apart.length * 32 ≤ reachBytes) (s1_10 : short x.pod.on) (s2_0 : short x.pool.name) (l2_3 : Lst reqK w v2_3 x.pool.reqs) (b2_3 : x.pool.reqs.length * 56 ≤ reachBytes) (l2_4 : Lst labK w v2_4 x.pool.taints) (b2_4 : x.pool.taints.length * 32 ≤ reachBytes) (s3_0 : short x.claim.name) (s3_1 : short x.claim.pool) (s3_3_0 : short x.claim.offer.1) (s3_3_1 : short x.claim.offer.2.1) (s3_3_2 : short x.claim.offer.2.2) (l3_6 : Lst offK w v3_6 x.claim.opts) (b3_6 : x.claim.opts.length * 48 ≤ reachBytes) (s3_8 : short x.claim.id) (l4_1 : Lst strK w v4_1 x.cmd.nodes) (s4_4 : short x.cmd.fresh) (s4_5 : short x.cmd.pool) (l4_6 : Lst offK w v4_6 x.cmd.opts) (b4_6 : x.cmd.opts.length * 48 ≤ reachBytes) (s5_0_0 : short x.cool.1.1) (s5_0_1 : short x.cool.1.2.1) (s5_0_2 : short x.cool.1.2.2) : any8K.R w [.int .i64 x.kind, .string (bytesT x.pod.name), .string (bytesT x.pod.app), .int .i64 x.pod.need.1, .int .i64 x.pod.need.2, .int .i64 x.pod.prio, v1_4, v1_5, v1_6, v1_7, v1_8, .int .i64 x.pod.since, .string (bytesT x.pod.on), .string (bytesT x.pool.name), .int .i64 x.pool.weight, .int .i64 x.pool.limit.1, .int .i64 x.pool.limit.2, v2_3, v2_4, .int .i64 x.pool.gen, .int .i64 x.pool.expire, .int .i64 x.pool.budget, .int .i64 x.pool.merge, .string (bytesT x.claim.name), .string (bytesT x.claim.pool), .int .i64 x.claim.gen, .string (bytesT x.claim.offer.1), .string (bytesT x.claim.offer.2.1), .string (bytesT x.claim.offer.2.2), .int .i64 x.claim.price, .int .i64 x.claim.cap.1, .int .i64 x.claim.cap.2, v3_6, .int .i64 x.claim.tryN, .string (bytesT x.claim.id), .int .i64 x.claim.phase, .int .i64 x.claim.born, .bool x.claim.marked, .int .i64 x.cmd.cause, v4_1, .int .i64 x.cmd.step, .int .i64 x.cmd.til, .string (bytesT x.cmd.fresh), .string (bytesT x.cmd.pool), v4_6, .bool x.cmd.made, .string (bytesT x.cool.1.1), .string (bytesT x.cool.1.2.1), .string (bytesT x.cool.1.2.2), .int .i64 x.cool.2] x := ⟨_, _, rfl, rfl, ⟨_, _, rfl, ⟨_, _, rfl, ⟨rfl, s1_0⟩, ⟨_, _, rfl, ⟨rfl, s1_1⟩, ⟨_, _, rfl, ⟨_, _, rfl, rfl, rfl⟩, ⟨_, _, rfl, rfl, ⟨_, _, rfl, ⟨_, rfl, l1_4, b1_4⟩, ⟨_, _, rfl, ⟨_, rfl, l1_5, b1_5⟩, ⟨_, _, rfl, ⟨_, rfl, l1_6, b1_6⟩, ⟨_, _, rfl, ⟨_, rfl, l1_7, b1_7⟩, ⟨_, _, rfl, ⟨_, rfl, l1_8, b1_8⟩, ⟨_, _, rfl, rfl, ⟨rfl, s1_10⟩⟩⟩⟩⟩⟩⟩⟩⟩⟩⟩, ⟨_, _, rfl, ⟨_, _, rfl, ⟨rfl, s2_0⟩, ⟨_, _, rfl, rfl, ⟨_, _, rfl, ⟨_, _, rfl, rfl, rfl⟩, ⟨_, _, rfl, ⟨_, rfl, l2_3, b2_3⟩, ⟨_, _, rfl, ⟨_, rfl, l2_4, b2_4⟩, ⟨_, _, rfl, rfl, ⟨_, _, rfl, rfl, ⟨_, _, rfl, rfl, rfl⟩⟩⟩⟩⟩⟩⟩⟩, ⟨_, _, rfl, ⟨_, _, rfl, ⟨rfl, s3_0⟩, ⟨_, _, rfl, ⟨rfl, s3_1⟩, ⟨_, _, rfl, rfl, ⟨_, _, rfl, ⟨_, _, rfl, ⟨rfl, s3_3_0⟩, ⟨_, _, rfl, ⟨rfl, s3_3_1⟩, ⟨rfl, s3_3_2⟩⟩⟩, ⟨_, _, rfl, rfl, ⟨_, _, rfl, ⟨_, _, rfl, rfl, rfl⟩, ⟨_, _, rfl, ⟨_, rfl, l3_6, b3_6⟩, ⟨_, _, rfl, rfl, ⟨_, _, rfl, ⟨rfl, s3_8⟩, ⟨_, _, rfl, rfl, ⟨_, _, rfl, rfl, rfl⟩⟩⟩⟩⟩⟩⟩⟩⟩⟩⟩, ⟨_, _, rfl, ⟨_, _, rfl, rfl, ⟨_, _, rfl, ⟨_, rfl, l4_1⟩, ⟨_, _, rfl, rfl, ⟨_, _, rfl, rfl, ⟨_, _, rfl, ⟨rfl, s4_4⟩, ⟨_, _, rfl, ⟨rfl, s4_5⟩, ⟨_, _, rfl, ⟨_, rfl, l4_6, b4_6⟩, rfl⟩⟩⟩⟩⟩⟩⟩, ⟨_, _, rfl, ⟨_, _, rfl, ⟨rfl, s5_0_0⟩, ⟨_, _, rfl, ⟨rfl, s5_0_1⟩, ⟨rfl, s5_0_2⟩⟩⟩, rfl⟩⟩⟩⟩⟩⟩
theorem any8_cells : Tryz.prog.cellsOf 44 = 50 := by kernel_rfl
theorem any8_bytes : Tryz.prog.bytesOf 44 = 680 := by kernel_rfl
section
variable {H : Type} {enc : TypeId × Value → H} {W : World} {base : Nat} {spare : Nat → Bool} {held : Bool}
set_option maxRecDepth 100000 in
theorem opens_any8 : Opens enc W base spare held any8K 44 := fun n cs y h hz => by
  obtain ⟨xs, n, _, hx, hl, hlen, hfs⟩ := DataW.trod_struct Tryz.underlying44 h
  rw [any8_cells] at hl
  match xs, hlen with
  | [y0, y1, y2, y3, y4, y5], _ =>
    have hd := congrArg Prod.fst hx
    simp only at hd
    have hw : ∀ (j : Nat) (t : TypeId) (x : DataW H), [3, 29, 32, 37, 40, 42][j]? = some t → [y0.1, y1.1, y2.1, y3.1, y4.1, y5.1][j]? = some x → ∀ k ∈ x.weights Tryz.prog t, k ≤ reachBytes := fun j t x h1 h2 k hk => hz k (by
      rw [hd]
      simp only [DataW.weights, Tryz.underlying44]
      exact DataW.weights_mem_each (j := j) h1 h2 k hk)
    have h0 := hfs 0 _ rfl
    have h1 := hfs 1 _ rfl
    have h2 := hfs 2 _ rfl
    have h3 := hfs 3 _ rfl
    have h4 := hfs 4 _ rfl
    have h5 := hfs 5 _ rfl
    simp only [List.getElem?_cons_zero, List.getElem?_cons_succ] at h0 h1 h2 h3 h4 h5
    have d : ∀ a b : Nat, (cs.drop a).drop b = cs.drop (a + b) := fun a b => List.drop_drop
    refine opens_iso (fun y => ⟨y.1, y.2.1, y.2.2.1, y.2.2.2.1, y.2.2.2.2.1, y.2.2.2.2.2⟩) (fun _ => rfl) ?_
    refine opens_pair ?_ ?_
    · show ∃ x, Rep.R intK W ((cs).take 1) x
      exact opens_int Tryz.underlying3 _ _ _ h0 (hw 0 _ _ rfl rfl)
    refine opens_pair ?_ ?_
    · show ∃ x, Rep.R podK W (((cs).drop 1).take 12) x
      exact opens_pod _ _ _ h1 (hw 1 _ _ rfl rfl)
    refine opens_pair ?_ ?_
    · show ∃ x, Rep.R polK W ((((cs).drop 1).drop 12).take 10) x
      simp only [d, Nat.reduceAdd]
      exact opens_pol _ _ _ h2 (hw 2 _ _ rfl rfl)
    refine opens_pair ?_ ?_
    · show ∃ x, Rep.R clmK W (((((cs).drop 1).drop 12).drop 10).take 15) x
      simp only [d, Nat.reduceAdd]
      exact opens_clm _ _ _ h3 (hw 3 _ _ rfl rfl)
    refine opens_pair ?_ ?_
    · show ∃ x, Rep.R cmdK W ((((((cs).drop 1).drop 12).drop 10).drop 15).take 8) x
      simp only [d, Nat.reduceAdd]
      exact opens_cmd _ _ _ h4 (hw 4 _ _ rfl rfl)
    · show ∃ x, Rep.R coolK W ((((((cs).drop 1).drop 12).drop 10).drop 15).drop 8) x
      simp only [d, Nat.reduceAdd]
      have e : cs.drop 46 = (cs.drop 46).take 4 := (List.take_of_length_le (by rw [List.length_drop]; omega)).symm
      rw [e]
      exact opens_cool _ _ _ h5 (hw 5 _ _ rfl rfl)
end
end Go.Proofs.YthaldbjnnbllbaaGreatDoor
