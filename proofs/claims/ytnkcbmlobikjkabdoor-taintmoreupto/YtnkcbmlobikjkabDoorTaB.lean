/- Layer 5: taints, and what is tolerated, in memory. -/
import Derived.Test.YtnkcbmlobikjkabDoorTaA
import Derived.Test.YtnkcbmlobikjkabDoorV3W
namespace Go.Proofs.YtnkcbmlobikjkabDoor
open Go.RowKit Suf Val

def LabAt (w : World) (b o : Nat) (x : Lab) : Prop := w.cell? ⟨b, o, none⟩ = some (.string (bytesT x.1)) ∧ w.cell? ⟨b, o + 1, none⟩ = some (.string (bytesT x.2)) ∧ short x.1 ∧ short x.2
theorem LabAt.below {w w' : World} {b o : Nat} {x : Lab} (h : LabAt w b o x) (hb : Below w.heap.size w w') : LabAt w' b o x := ⟨cell_kept hb h.1, cell_kept hb h.2.1, h.2.2⟩
def Labs (w : World) (v : Value) (l : List Lab) : Prop :=
  ∃ a c, v = .slice a l.length c ∧ (∀ j (h : j < l.length), ∃ b o, a = some ⟨b, o, none⟩ ∧ LabAt w b (o + j * 2) l[j]) ∧ l.length ≤ 4398046511104 ∧ l.length ≤ c
theorem Labs.below {w w' : World} {v : Value} {l : List Lab} (h : Labs w v l) (hb : Below w.heap.size w w') : Labs w' v l := by
  obtain ⟨a, c, e, hc, hl⟩ := h
  exact ⟨a, c, e, fun j hj => by obtain ⟨b, o, e2, h2⟩ := hc j hj; exact ⟨b, o, e2, h2.below hb⟩, hl⟩
theorem Labs.val {w : World} {v : Value} {l : List Lab} (h : Labs w v l) : ∃ a c, v = .slice a l.length c := by obtain ⟨a, c, e, _⟩ := h; exact ⟨a, c, e⟩
theorem Labs.len {w : World} {v : Value} {l : List Lab} (h : Labs w v l) : l.length ≤ 4398046511104 := by obtain ⟨_, _, _, _, h, _⟩ := h; exact h
theorem Labs.cap {w : World} {a : Option Addr} {n c : Nat} {l : List Lab} (h : Labs w (.slice a n c) l) : l.length ≤ c := by
  obtain ⟨_, _, e, _, _, h⟩ := h
  injection e with e1 e2 e3
  omega
theorem Labs.at {w : World} {a : Option Addr} {n c : Nat} {l : List Lab} (h : Labs w (.slice a n c) l) {j : Nat} (hj : j < l.length) : ∃ b o, a = some ⟨b, o, none⟩ ∧ LabAt w b (o + j * 2) l[j] := by
  obtain ⟨a', c', e, hc, _⟩ := h
  injection e with e1 e2 e3
  subst e1
  exact hc j hj
theorem Labs.take {w : World} {a : Option Addr} {n c k : Nat} {l : List Lab} (h : Labs w (.slice a n c) l) (hk : k ≤ l.length) : Labs w (.slice a k c) (l.take k) := by
  have hl := h.len
  have hcap := h.cap
  have e : (l.take k).length = k := by rw [List.length_take]; omega
  refine ⟨a, c, by rw [e], fun j hj => ?_, by omega, by omega⟩
  obtain ⟨b, o, e2, h2⟩ := h.at (j := j) (by omega)
  exact ⟨b, o, e2, by rw [List.getElem_take]; exact h2⟩
theorem Labs.short {w : World} {v : Value} {l : List Lab} (h : Labs w v l) : ∀ y ∈ l, short y.1 ∧ short y.2 := by
  obtain ⟨a, c, rfl⟩ := h.val
  intro y hy
  obtain ⟨j, hj, rfl⟩ := List.mem_iff_getElem.1 hy
  obtain ⟨_, _, _, h2⟩ := h.at hj
  exact h2.2.2
def labV (x : Lab) : Value := .agg #[.string (bytesT x.1), .string (bytesT x.2)]

def TolAt (w : World) (b o : Nat) (x : VTol) : Prop := w.cell? ⟨b, o, none⟩ = some (.string (bytesT x.1)) ∧ w.cell? ⟨b, o + 1, none⟩ = some (.string (bytesT x.2.1)) ∧ w.cell? ⟨b, o + 2, none⟩ = some (.bool x.2.2) ∧ short x.1 ∧ short x.2.1
theorem TolAt.below {w w' : World} {b o : Nat} {x : VTol} (h : TolAt w b o x) (hb : Below w.heap.size w w') : TolAt w' b o x := ⟨cell_kept hb h.1, cell_kept hb h.2.1, cell_kept hb h.2.2.1, h.2.2.2⟩
def Tols (w : World) (v : Value) (l : List VTol) : Prop :=
  ∃ a c, v = .slice a l.length c ∧ (∀ j (h : j < l.length), ∃ b o, a = some ⟨b, o, none⟩ ∧ TolAt w b (o + j * 3) l[j]) ∧ l.length ≤ 4398046511104 ∧ l.length ≤ c
theorem Tols.below {w w' : World} {v : Value} {l : List VTol} (h : Tols w v l) (hb : Below w.heap.size w w') : Tols w' v l := by
  obtain ⟨a, c, e, hc, hl⟩ := h
  exact ⟨a, c, e, fun j hj => by obtain ⟨b, o, e2, h2⟩ := hc j hj; exact ⟨b, o, e2, h2.below hb⟩, hl⟩
theorem Tols.val {w : World} {v : Value} {l : List VTol} (h : Tols w v l) : ∃ a c, v = .slice a l.length c := by obtain ⟨a, c, e, _⟩ := h; exact ⟨a, c, e⟩
theorem Tols.len {w : World} {v : Value} {l : List VTol} (h : Tols w v l) : l.length ≤ 4398046511104 := by obtain ⟨_, _, _, _, h, _⟩ := h; exact h
theorem Tols.cap {w : World} {a : Option Addr} {n c : Nat} {l : List VTol} (h : Tols w (.slice a n c) l) : l.length ≤ c := by
  obtain ⟨_, _, e, _, _, h⟩ := h
  injection e with e1 e2 e3
  omega
theorem Tols.at {w : World} {a : Option Addr} {n c : Nat} {l : List VTol} (h : Tols w (.slice a n c) l) {j : Nat} (hj : j < l.length) : ∃ b o, a = some ⟨b, o, none⟩ ∧ TolAt w b (o + j * 3) l[j] := by
  obtain ⟨a', c', e, hc, _⟩ := h
  injection e with e1 e2 e3
  subst e1
  exact hc j hj
theorem Tols.take {w : World} {a : Option Addr} {n c k : Nat} {l : List VTol} (h : Tols w (.slice a n c) l) (hk : k ≤ l.length) : Tols w (.slice a k c) (l.take k) := by
  have hl := h.len
  have hcap := h.cap
  have e : (l.take k).length = k := by rw [List.length_take]; omega
  refine ⟨a, c, by rw [e], fun j hj => ?_, by omega, by omega⟩
  obtain ⟨b, o, e2, h2⟩ := h.at (j := j) (by omega)
  exact ⟨b, o, e2, by rw [List.getElem_take]; exact h2⟩
theorem Tols.short {w : World} {v : Value} {l : List VTol} (h : Tols w v l) : ∀ y ∈ l, short y.1 ∧ short y.2.1 := by
  obtain ⟨a, c, rfl⟩ := h.val
  intro y hy
  obtain ⟨j, hj, rfl⟩ := List.mem_iff_getElem.1 hy
  obtain ⟨_, _, _, h2⟩ := h.at hj
  exact h2.2.2.2
def tolV (x : VTol) : Value := .agg #[.string (bytesT x.1), .string (bytesT x.2.1), .bool x.2.2]
theorem box_below {w : World} (o : Obj) : Below w.heap.size w (w.alloc o) := (Below.refl _ _).alloc (Nat.le_refl _) _
theorem cell_box {w : World} {p : Addr} {v : Value} (o : Obj) (h : w.cell? p = some v) : (w.alloc o).cell? p = some v := cell_kept (box_below o) h
theorem txt_beq (a b : Txt) : ((bytesT a).toList == (bytesT b).toList) = (a == b) := by rw [Lib.toList_data, Lib.toList_data]; rfl
/-- Cells of a box: one, two, three. -/
def Two (w : World) (B : Nat) (a b : Value) : Prop := w.cell? ⟨B, 0, none⟩ = some a ∧ w.cell? ⟨B, 1, none⟩ = some b
theorem Two.below {w w' : World} {B : Nat} {a b : Value} (h : Two w B a b) (hb : Below w.heap.size w w') : Two w' B a b := ⟨cell_kept hb h.1, cell_kept hb h.2⟩
theorem two_new (w : World) (a b : Value) (t : TypeId) : Two (w.alloc (.cells #[a, b] t)) w.heap.size a b := by refine ⟨?_, ?_⟩ <;> simp [go_sem]
def Three (w : World) (B : Nat) (a b c : Value) : Prop := w.cell? ⟨B, 0, none⟩ = some a ∧ w.cell? ⟨B, 1, none⟩ = some b ∧ w.cell? ⟨B, 2, none⟩ = some c
theorem Three.below {w w' : World} {B : Nat} {a b c : Value} (h : Three w B a b c) (hb : Below w.heap.size w w') : Three w' B a b c := ⟨cell_kept hb h.1, cell_kept hb h.2.1, cell_kept hb h.2.2⟩
theorem three_new (w : World) (a b c : Value) (t : TypeId) : Three (w.alloc (.cells #[a, b, c] t)) w.heap.size a b c := by refine ⟨?_, ?_, ?_⟩ <;> simp [go_sem]
/-- A box of a label, unwritten. -/
def LBox (w : World) (B : Nat) : Prop := Two w B (.string ⟨#[]⟩) (.string ⟨#[]⟩) ∧ (∀ o, w.frozen? ⟨B, o, none⟩ = false) ∧ B < w.heap.size
theorem LBox.below {w w' : World} {B : Nat} (h : LBox w B) (hb : Below w.heap.size w w') : LBox w' B := ⟨h.1.below hb, fun o => by rw [hb.frozen (p := ⟨B, o, none⟩) h.2.2]; exact h.2.1 o, Nat.lt_of_lt_of_le h.2.2 hb.size⟩
theorem lbox_new (w : World) (t : TypeId) : LBox (w.alloc (.cells #[.string ⟨#[]⟩, .string ⟨#[]⟩] t)) w.heap.size := ⟨two_new _ _ _ _, fun o => by simp [go_sem], by simp⟩
end Go.Proofs.YtnkcbmlobikjkabDoor
