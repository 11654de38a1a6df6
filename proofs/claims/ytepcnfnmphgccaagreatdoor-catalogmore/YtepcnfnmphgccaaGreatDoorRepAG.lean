/- Kinds of the program's own data, out of tools/reps.py. No function of the program is named. -/
import Derived.Test.YtepcnfnmphgccaaGreatDoorGenAG
import Derived.Test.YtepcnfnmphgccaaGreatDoorCaAG
import Derived.Test.YtepcnfnmphgccaaGreatDoorValAG
namespace Go.Proofs.YtepcnfnmphgccaaGreatDoor
open Go.ChangeShapes Go.WideShapes Go.ChangeAt Go.RowKit Val

def amtK : Rep (Int × Int) := pairK intK intK
theorem at_amt {w : World} {b o : Nat} {x : Int × Int} : At amtK w b o x ↔ w.cell? ⟨b, o, none⟩ = some (.int .i64 x.1) ∧ w.cell? ⟨b, o + 1, none⟩ = some (.int .i64 x.2) := by
  constructor
  · intro h
    obtain ⟨h0, h1⟩ := at_pair.1 h
    exact ⟨at_int.1 h0, at_int.1 h1⟩
  · rintro ⟨h0, h1⟩
    exact at_pair.2 ⟨at_int.2 h0, at_int.2 h1⟩
theorem amt_cells : Tryz.prog.cellsOf 28 = 2 := by kernel_rfl
section
variable {H : Type} {enc : TypeId × Value → H} {W : World} {base : Nat} {spare : Nat → Bool} {held : Bool}
set_option maxRecDepth 100000 in
theorem opens_amt : Opens enc W base spare held amtK 28 := fun n cs y h _ => by
  obtain ⟨xs, m, _, _, hcl, hl, hx⟩ := DataW.trod_array Tryz.underlying28 h
  rw [show Tryz.prog.cellsOf 28 = 2 by kernel_rfl] at hcl
  match cs, hcl with
  | [c0, c1], _ =>
    have h0 := hx 0 (by decide)
    have h1 := hx 1 (by decide)
    match xs, hl with
    | [y0, y1], _ =>
      simp only [List.getElem?_cons_zero, List.getElem?_cons_succ] at h0 h1
      exact opens_pair (opens_int Tryz.underlying2 _ _ _ h0 (fun k hk => by
        obtain ⟨z, _, e, _⟩ := DataW.trod_int Tryz.underlying2 h0
        rw [e] at hk; simp [DataW.weights] at hk)) (opens_int Tryz.underlying2 _ _ _ h1 (fun k hk => by
        obtain ⟨z, _, e, _⟩ := DataW.trod_int Tryz.underlying2 h1
        rw [e] at hk; simp [DataW.weights] at hk))
end
def labK : Rep (Txt × Txt) := (pairK strK strK)
theorem lab_at {w : World} {b o : Nat} {x : Txt × Txt} : At labK w b o x ↔ (w.cell? ⟨b, o, none⟩ = some (.string (bytesT x.1)) ∧ short x.1) ∧ (w.cell? ⟨b, o + 1, none⟩ = some (.string (bytesT x.2)) ∧ short x.2) := by
  constructor
  · intro h
    obtain ⟨h0, g0⟩ := at_pair.1 h
    exact ⟨at_str.1 h0, at_str.1 g0⟩
  · rintro ⟨h0, h1⟩
    exact (at_pair.2 ⟨(at_str.2 h0), (at_str.2 h1)⟩)
theorem lab_row {w : World} {x : Txt × Txt} (s0 : short x.1) (s1 : short x.2) : labK.R w [.string (bytesT x.1), .string (bytesT x.2)] x := ⟨_, _, rfl, ⟨rfl, s0⟩, ⟨rfl, s1⟩⟩
theorem lab_cells : Tryz.prog.cellsOf 38 = 2 := by kernel_rfl
theorem lab_bytes : Tryz.prog.bytesOf 38 = 32 := by kernel_rfl
section
variable {H : Type} {enc : TypeId × Value → H} {W : World} {base : Nat} {spare : Nat → Bool} {held : Bool}
set_option maxRecDepth 100000 in
theorem opens_lab : Opens enc W base spare held labK 38 := fun n cs y h hz => by
  obtain ⟨xs, n, _, hx, hl, hlen, hfs⟩ := DataW.trod_struct Tryz.underlying38 h
  rw [lab_cells] at hl
  match xs, hlen with
  | [y0, y1], _ =>
    have hd := congrArg Prod.fst hx
    simp only at hd
    have hw : ∀ (j : Nat) (t : TypeId) (x : DataW H), [9, 9][j]? = some t → [y0.1, y1.1][j]? = some x → ∀ k ∈ x.weights Tryz.prog t, k ≤ reachBytes := fun j t x h1 h2 k hk => hz k (by
      rw [hd]
      simp only [DataW.weights, Tryz.underlying38]
      exact DataW.weights_mem_each (j := j) h1 h2 k hk)
    match cs, hl with
    | [c0, c1], _ =>
      have h0 := hfs 0 _ rfl
      have h1 := hfs 1 _ rfl
      simp only [List.getElem?_cons_zero, List.getElem?_cons_succ] at h0 h1
      exact (opens_pair (opens_str Tryz.underlying9 _ _ _ h0 (hw 0 _ _ rfl rfl)) (opens_str Tryz.underlying9 _ _ _ h1 (hw 1 _ _ rfl rfl)))
end
theorem tells_lab : Tells labK 38 34 32 := ⟨⟨.agg #[.string ⟨#[]⟩, .string ⟨#[]⟩], by kernel_rfl, rfl⟩, Tryz.underlying34, by decide⟩
def offK : Rep (Txt × Txt × Txt) := (pairK strK (pairK strK strK))
theorem off_at {w : World} {b o : Nat} {x : Txt × Txt × Txt} : At offK w b o x ↔ (w.cell? ⟨b, o, none⟩ = some (.string (bytesT x.1)) ∧ short x.1) ∧ (w.cell? ⟨b, o + 1, none⟩ = some (.string (bytesT x.2.1)) ∧ short x.2.1) ∧ (w.cell? ⟨b, o + 2, none⟩ = some (.string (bytesT x.2.2)) ∧ short x.2.2) := by
  constructor
  · intro h
    obtain ⟨h0, g0⟩ := at_pair.1 h
    obtain ⟨h1, g1⟩ := at_pair.1 g0
    exact ⟨at_str.1 h0, at_str.1 h1, at_str.1 g1⟩
  · rintro ⟨h0, h1, h2⟩
    exact (at_pair.2 ⟨(at_str.2 h0), (at_pair.2 ⟨(at_str.2 h1), (at_str.2 h2)⟩)⟩)
theorem off_row {w : World} {x : Txt × Txt × Txt} (s0 : short x.1) (s1 : short x.2.1) (s2 : short x.2.2) : offK.R w [.string (bytesT x.1), .string (bytesT x.2.1), .string (bytesT x.2.2)] x := ⟨_, _, rfl, ⟨rfl, s0⟩, ⟨_, _, rfl, ⟨rfl, s1⟩, ⟨rfl, s2⟩⟩⟩
theorem off_cells : Tryz.prog.cellsOf 24 = 3 := by kernel_rfl
theorem off_bytes : Tryz.prog.bytesOf 24 = 48 := by kernel_rfl
section
variable {H : Type} {enc : TypeId × Value → H} {W : World} {base : Nat} {spare : Nat → Bool} {held : Bool}
set_option maxRecDepth 100000 in
theorem opens_off : Opens enc W base spare held offK 24 := fun n cs y h hz => by
  obtain ⟨xs, n, _, hx, hl, hlen, hfs⟩ := DataW.trod_struct Tryz.underlying24 h
  rw [off_cells] at hl
  match xs, hlen with
  | [y0, y1, y2], _ =>
    have hd := congrArg Prod.fst hx
    simp only at hd
    have hw : ∀ (j : Nat) (t : TypeId) (x : DataW H), [9, 9, 9][j]? = some t → [y0.1, y1.1, y2.1][j]? = some x → ∀ k ∈ x.weights Tryz.prog t, k ≤ reachBytes := fun j t x h1 h2 k hk => hz k (by
      rw [hd]
      simp only [DataW.weights, Tryz.underlying24]
      exact DataW.weights_mem_each (j := j) h1 h2 k hk)
    match cs, hl with
    | [c0, c1, c2], _ =>
      have h0 := hfs 0 _ rfl
      have h1 := hfs 1 _ rfl
      have h2 := hfs 2 _ rfl
      simp only [List.getElem?_cons_zero, List.getElem?_cons_succ] at h0 h1 h2
      exact (opens_pair (opens_str Tryz.underlying9 _ _ _ h0 (hw 0 _ _ rfl rfl)) (opens_pair (opens_str Tryz.underlying9 _ _ _ h1 (hw 1 _ _ rfl rfl)) (opens_str Tryz.underlying9 _ _ _ h2 (hw 2 _ _ rfl rfl))))
end
theorem tells_off : Tells offK 24 41 48 := ⟨⟨.agg #[.string ⟨#[]⟩, .string ⟨#[]⟩, .string ⟨#[]⟩], by kernel_rfl, rfl⟩, Tryz.underlying41, by decide⟩
def ofgK : Rep (VOfg) := isoK (pairK strK (pairK strK (pairK intK boolK))) (fun x => (x.zone, x.kind, x.price, x.opn))
theorem ofg_at {w : World} {b o : Nat} {x : VOfg} : At ofgK w b o x ↔ (w.cell? ⟨b, o, none⟩ = some (.string (bytesT x.zone)) ∧ short x.zone) ∧ (w.cell? ⟨b, o + 1, none⟩ = some (.string (bytesT x.kind)) ∧ short x.kind) ∧ w.cell? ⟨b, o + 2, none⟩ = some (.int .i64 x.price) ∧ w.cell? ⟨b, o + 3, none⟩ = some (.bool x.opn) := by
  constructor
  · intro h
    obtain ⟨h0, g0⟩ := at_pair.1 h
    obtain ⟨h1, g1⟩ := at_pair.1 g0
    obtain ⟨h2, g2⟩ := at_pair.1 g1
    exact ⟨at_str.1 h0, at_str.1 h1, at_int.1 h2, at_bool.1 g2⟩
  · rintro ⟨h0, h1, h2, h3⟩
    exact (at_pair.2 ⟨(at_str.2 h0), (at_pair.2 ⟨(at_str.2 h1), (at_pair.2 ⟨(at_int.2 h2), (at_bool.2 h3)⟩)⟩)⟩)
theorem ofg_row {w : World} {x : VOfg} (s0 : short x.zone) (s1 : short x.kind) : ofgK.R w [.string (bytesT x.zone), .string (bytesT x.kind), .int .i64 x.price, .bool x.opn] x := ⟨_, _, rfl, ⟨rfl, s0⟩, ⟨_, _, rfl, ⟨rfl, s1⟩, ⟨_, _, rfl, rfl, rfl⟩⟩⟩
theorem ofg_cells : Tryz.prog.cellsOf 65 = 4 := by kernel_rfl
theorem ofg_bytes : Tryz.prog.bytesOf 65 = 48 := by kernel_rfl
section
variable {H : Type} {enc : TypeId × Value → H} {W : World} {base : Nat} {spare : Nat → Bool} {held : Bool}
set_option maxRecDepth 100000 in
theorem opens_ofg : Opens enc W base spare held ofgK 65 := fun n cs y h hz => by
  obtain ⟨xs, n, _, hx, hl, hlen, hfs⟩ := DataW.trod_struct Tryz.underlying65 h
  rw [ofg_cells] at hl
  match xs, hlen with
  | [y0, y1, y2, y3], _ =>
    have hd := congrArg Prod.fst hx
    simp only at hd
    have hw : ∀ (j : Nat) (t : TypeId) (x : DataW H), [9, 9, 2, 4][j]? = some t → [y0.1, y1.1, y2.1, y3.1][j]? = some x → ∀ k ∈ x.weights Tryz.prog t, k ≤ reachBytes := fun j t x h1 h2 k hk => hz k (by
      rw [hd]
      simp only [DataW.weights, Tryz.underlying65]
      exact DataW.weights_mem_each (j := j) h1 h2 k hk)
    match cs, hl with
    | [c0, c1, c2, c3], _ =>
      have h0 := hfs 0 _ rfl
      have h1 := hfs 1 _ rfl
      have h2 := hfs 2 _ rfl
      have h3 := hfs 3 _ rfl
      simp only [List.getElem?_cons_zero, List.getElem?_cons_succ] at h0 h1 h2 h3
      exact opens_iso (fun y => ⟨y.1, y.2.1, y.2.2.1, y.2.2.2⟩) (fun _ => rfl) (opens_pair (opens_str Tryz.underlying9 _ _ _ h0 (hw 0 _ _ rfl rfl)) (opens_pair (opens_str Tryz.underlying9 _ _ _ h1 (hw 1 _ _ rfl rfl)) (opens_pair (opens_int Tryz.underlying2 _ _ _ h2 (hw 2 _ _ rfl rfl)) (opens_bool Tryz.underlying4 _ _ _ h3 (hw 3 _ _ rfl rfl)))))
end
theorem tells_ofg : Tells ofgK 65 55 48 := ⟨⟨.agg #[.string ⟨#[]⟩, .string ⟨#[]⟩, .int .i64 0, .bool false], by kernel_rfl, rfl⟩, Tryz.underlying55, by decide⟩
def typK : Rep (VType) := isoK (pairK strK (pairK amtK (pairK amtK (pairK (listK labK) (listK ofgK))))) (fun x => (x.name, x.cap, x.ovr, x.labs, x.offs))
theorem typ_at {w : World} {b o : Nat} {x : VType} : At typK w b o x ↔ (w.cell? ⟨b, o, none⟩ = some (.string (bytesT x.name)) ∧ short x.name) ∧ (w.cell? ⟨b, o + 1, none⟩ = some (.int .i64 x.cap.1) ∧ w.cell? ⟨b, o + 2, none⟩ = some (.int .i64 x.cap.2)) ∧ (w.cell? ⟨b, o + 3, none⟩ = some (.int .i64 x.ovr.1) ∧ w.cell? ⟨b, o + 4, none⟩ = some (.int .i64 x.ovr.2)) ∧ (∃ v, w.cell? ⟨b, o + 5, none⟩ = some v ∧ Lst labK w v x.labs) ∧ (∃ v, w.cell? ⟨b, o + 6, none⟩ = some v ∧ Lst ofgK w v x.offs) := by
  constructor
  · intro h
    obtain ⟨h0, g0⟩ := at_pair.1 h
    obtain ⟨h1, g1⟩ := at_pair.1 g0
    obtain ⟨h2, g2⟩ := at_pair.1 g1
    obtain ⟨h3, g3⟩ := at_pair.1 g2
    exact ⟨at_str.1 h0, at_amt.1 h1, at_amt.1 h2, at_lst.1 h3, at_lst.1 g3⟩
  · rintro ⟨h0, h1, h2, h3, h4⟩
    exact (at_pair.2 ⟨(at_str.2 h0), (at_pair.2 ⟨(at_amt.2 h1), (at_pair.2 ⟨(at_amt.2 h2), (at_pair.2 ⟨(at_lst.2 h3), (at_lst.2 h4)⟩)⟩)⟩)⟩)
theorem typ_row {w : World} {x : VType} {v3 v4 : Value} (s0 : short x.name) (l3 : Lst labK w v3 x.labs) (l4 : Lst ofgK w v4 x.offs) : typK.R w [.string (bytesT x.name), .int .i64 x.cap.1, .int .i64 x.cap.2, .int .i64 x.ovr.1, .int .i64 x.ovr.2, v3, v4] x := ⟨_, _, rfl, ⟨rfl, s0⟩, ⟨_, _, rfl, ⟨_, _, rfl, rfl, rfl⟩, ⟨_, _, rfl, ⟨_, _, rfl, rfl, rfl⟩, ⟨_, _, rfl, ⟨_, rfl, l3⟩, ⟨_, rfl, l4⟩⟩⟩⟩⟩
theorem typ_cells : Tryz.prog.cellsOf 57 = 7 := by kernel_rfl
theorem typ_bytes : Tryz.prog.bytesOf 57 = 96 := by kernel_rfl
section
variable {H : Type} {enc : TypeId × Value → H} {W : World} {base : Nat} {spare : Nat → Bool} {held : Bool}
set_option maxRecDepth 100000 in
theorem opens_typ : Opens enc W base spare held typK 57 := fun n cs y h hz => by
  obtain ⟨xs, n, _, hx, hl, hlen, hfs⟩ := DataW.trod_struct Tryz.underlying57 h
  rw [typ_cells] at hl
  match xs, hlen with
  | [y0, y1, y2, y3, y4], _ =>
    have hd := congrArg Prod.fst hx
    simp only at hd
    have hw : ∀ (j : Nat) (t : TypeId) (x : DataW H), [9, 28, 28, 34, 55][j]? = some t → [y0.1, y1.1, y2.1, y3.1, y4.1][j]? = some x → ∀ k ∈ x.weights Tryz.prog t, k ≤ reachBytes := fun j t x h1 h2 k hk => hz k (by
      rw [hd]
      simp only [DataW.weights, Tryz.underlying57]
      exact DataW.weights_mem_each (j := j) h1 h2 k hk)
    match cs, hl with
    | [c0, c1, c2, c3, c4, c5, c6], _ =>
      have h0 := hfs 0 _ rfl
      have h1 := hfs 1 _ rfl
      have h2 := hfs 2 _ rfl
      have h3 := hfs 3 _ rfl
      have h4 := hfs 4 _ rfl
      simp only [List.getElem?_cons_zero, List.getElem?_cons_succ] at h0 h1 h2 h3 h4
      exact opens_iso (fun y => ⟨y.1, y.2.1, y.2.2.1, y.2.2.2.1, y.2.2.2.2⟩) (fun _ => rfl) (opens_pair (opens_str Tryz.underlying9 _ _ _ h0 (hw 0 _ _ rfl rfl)) (opens_pair (opens_amt _ _ _ h1 (hw 1 _ _ rfl rfl)) (opens_pair (opens_amt _ _ _ h2 (hw 2 _ _ rfl rfl)) (opens_pair (opens_list Tryz.underlying34 lab_cells lab_bytes (by decide) (by decide) opens_lab _ _ _ h3 (hw 3 _ _ rfl rfl)) (opens_list Tryz.underlying55 ofg_cells ofg_bytes (by decide) (by decide) opens_ofg _ _ _ h4 (hw 4 _ _ rfl rfl))))))
end
theorem tells_typ : Tells typK 57 22 96 := ⟨⟨.agg #[.string ⟨#[]⟩, .int .i64 0, .int .i64 0, .int .i64 0, .int .i64 0, .slice none 0 0, .slice none 0 0], by kernel_rfl, rfl⟩, Tryz.underlying22, by decide⟩
def reqK : Rep (VReq) := isoK (pairK strK (pairK intK (pairK (listK strK) intK))) (fun x => (x.key, x.op, x.vals, x.n))
theorem req_at {w : World} {b o : Nat} {x : VReq} : At reqK w b o x ↔ (w.cell? ⟨b, o, none⟩ = some (.string (bytesT x.key)) ∧ short x.key) ∧ w.cell? ⟨b, o + 1, none⟩ = some (.int .i64 x.op) ∧ (∃ v, w.cell? ⟨b, o + 2, none⟩ = some v ∧ Lst strK w v x.vals) ∧ w.cell? ⟨b, o + 3, none⟩ = some (.int .i64 x.n) := by
  constructor
  · intro h
    obtain ⟨h0, g0⟩ := at_pair.1 h
    obtain ⟨h1, g1⟩ := at_pair.1 g0
    obtain ⟨h2, g2⟩ := at_pair.1 g1
    exact ⟨at_str.1 h0, at_int.1 h1, at_lst.1 h2, at_int.1 g2⟩
  · rintro ⟨h0, h1, h2, h3⟩
    exact (at_pair.2 ⟨(at_str.2 h0), (at_pair.2 ⟨(at_int.2 h1), (at_pair.2 ⟨(at_lst.2 h2), (at_int.2 h3)⟩)⟩)⟩)
theorem req_row {w : World} {x : VReq} {v2 : Value} (s0 : short x.key) (l2 : Lst strK w v2 x.vals) : reqK.R w [.string (bytesT x.key), .int .i64 x.op, v2, .int .i64 x.n] x := ⟨_, _, rfl, ⟨rfl, s0⟩, ⟨_, _, rfl, rfl, ⟨_, _, rfl, ⟨_, rfl, l2⟩, rfl⟩⟩⟩
theorem req_cells : Tryz.prog.cellsOf 74 = 4 := by kernel_rfl
theorem req_bytes : Tryz.prog.bytesOf 74 = 56 := by kernel_rfl
section
variable {H : Type} {enc : TypeId × Value → H} {W : World} {base : Nat} {spare : Nat → Bool} {held : Bool}
set_option maxRecDepth 100000 in
theorem opens_req : Opens enc W base spare held reqK 74 := fun n cs y h hz => by
  obtain ⟨xs, n, _, hx, hl, hlen, hfs⟩ := DataW.trod_struct Tryz.underlying74 h
  rw [req_cells] at hl
  match xs, hlen with
  | [y0, y1, y2, y3], _ =>
    have hd := congrArg Prod.fst hx
    simp only at hd
    have hw : ∀ (j : Nat) (t : TypeId) (x : DataW H), [9, 3, 72, 2][j]? = some t → [y0.1, y1.1, y2.1, y3.1][j]? = some x → ∀ k ∈ x.weights Tryz.prog t, k ≤ reachBytes := fun j t x h1 h2 k hk => hz k (by
      rw [hd]
      simp only [DataW.weights, Tryz.underlying74]
      exact DataW.weights_mem_each (j := j) h1 h2 k hk)
    match cs, hl with
    | [c0, c1, c2, c3], _ =>
      have h0 := hfs 0 _ rfl
      have h1 := hfs 1 _ rfl
      have h2 := hfs 2 _ rfl
      have h3 := hfs 3 _ rfl
      simp only [List.getElem?_cons_zero, List.getElem?_cons_succ] at h0 h1 h2 h3
      exact opens_iso (fun y => ⟨y.1, y.2.1, y.2.2.1, y.2.2.2⟩) (fun _ => rfl) (opens_pair (opens_str Tryz.underlying9 _ _ _ h0 (hw 0 _ _ rfl rfl)) (opens_pair (opens_int Tryz.underlying3 _ _ _ h1 (hw 1 _ _ rfl rfl)) (opens_pair (opens_list Tryz.underlying72 (show Tryz.prog.cellsOf 9 = 1 by kernel_rfl) (show Tryz.prog.bytesOf 9 = 16 by kernel_rfl) (by decide) (by decide) (opens_str Tryz.underlying9) _ _ _ h2 (hw 2 _ _ rfl rfl)) (opens_int Tryz.underlying2 _ _ _ h3 (hw 3 _ _ rfl rfl)))))
end
theorem tells_req : Tells reqK 74 46 56 := ⟨⟨.agg #[.string ⟨#[]⟩, .int .i64 0, .slice none 0 0, .int .i64 0], by kernel_rfl, rfl⟩, Tryz.underlying46, by decide⟩
end Go.Proofs.YtepcnfnmphgccaaGreatDoor
