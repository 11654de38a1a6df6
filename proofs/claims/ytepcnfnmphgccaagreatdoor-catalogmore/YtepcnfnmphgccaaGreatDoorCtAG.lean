/- Layer 6: slices.IndexFunc and slices.ContainsFunc with closures that judge an element by one thing that they hold; the closures of catalog; given. -/
import Derived.Test.YtepcnfnmphgccaaGreatDoorRepAG
import Derived.Test.YtepcnfnmphgccaaGreatDoorV3BG
namespace Go.Proofs.YtepcnfnmphgccaaGreatDoor
open Go.RowKit Suf Val

theorem boxb {w : World} (o : Obj) : Below w.heap.size w (w.alloc o) := (Below.refl _ _).alloc (Nat.le_refl _) _
theorem any_next6 {α : Type} {p : α → Bool} (l : List α) (k : Nat) (h : k < l.length) : (l.take (k + 1)).any p = ((l.take k).any p || p l[k]) := by rw [take_at6 l k h, List.any_append]; simp
/-- Where the first one is that is judged so; -1: none. -/
def idxI {α : Type} (p : α → Bool) (l : List α) : Int := match l.findIdx? p with | some i => i | none => -1
theorem idx_none {α : Type} {p : α → Bool} {l : List α} (h : l.any p = false) : idxI p l = -1 := by
  have : l.findIdx? p = none := List.findIdx?_eq_none_iff.2 fun x hx => by have := List.any_eq_false.1 h x hx; simpa using this
  unfold idxI; rw [this]
theorem idx_at {α : Type} {p : α → Bool} {l : List α} {k : Nat} (h : k < l.length) (h0 : (l.take k).any p = false) (hp : p l[k] = true) : idxI p l = k := by
  have : l.findIdx? p = some k := List.findIdx?_eq_some_iff_getElem.2 ⟨h, hp, fun j hj => by
    have hj' : j < (l.take k).length := by rw [List.length_take]; omega
    have := List.any_eq_false.1 h0 ((l.take k)[j]'hj') (List.getElem_mem hj')
    rw [List.getElem_take] at this
    simpa using this⟩
  unfold idxI; rw [this]
theorem idx_any {α : Type} (p : α → Bool) (l : List α) : decide (0 ≤ idxI p l) = l.any p := by
  cases h : l.any p with
  | false => rw [idx_none h]; rfl
  | true =>
    unfold idxI
    cases hf : l.findIdx? p with
    | some i => simp
    | none =>
      obtain ⟨x, hx, hp⟩ := List.any_eq_true.1 h
      have := List.findIdx?_eq_none_iff.1 hf x hx
      rw [hp] at this
      cases this
theorem txt_beq6 (a b : Txt) : ((bytesT a).toList == (bytesT b).toList) = (a == b) := by rw [Lib.toList_data, Lib.toList_data]; rfl
theorem txt_is (k c : Txt) : ((bytesT k).toList == c) = (k == c) := by rw [Lib.toList_data]; rfl
theorem cell_box6 {w : World} {p : Addr} {v : Value} (o : Obj) (h : w.cell? p = some v) : (w.alloc o).cell? p = some v := cell_kept (boxb o) h
/-- Values of these kinds, as arguments. -/
def labA (x : Txt × Txt) : Value := .agg #[.string (bytesT x.1), .string (bytesT x.2)]
def offA (x : VOff) : Value := .agg #[.string (bytesT x.1), .string (bytesT x.2.1), .string (bytesT x.2.2)]
def ofgA (x : VOfg) : Value := .agg #[.string (bytesT x.zone), .string (bytesT x.kind), .int .i64 x.price, .bool x.opn]
def typA (x : VType) (u v : Value) : Value := .agg #[.string (bytesT x.name), .int .i64 x.cap.1, .int .i64 x.cap.2, .int .i64 x.ovr.1, .int .i64 x.ovr.2, u, v]

/-- given: is it a key of the five? -/
theorem given_any (k : Txt) (w : World) : Calls Tryz.prog 94 #[.string (bytesT k)] w fun e w' => e = .returned (.bool (own5 k)) ∧ w' = w := by
  have g1 := txt_is k kZone
  have g2 := txt_is k kType
  have g3 := txt_is k kKind
  have g4 := txt_is k kPool
  have g5 := txt_is k kHost
  unfold own5
  obtain ⟨q1, e1⟩ : ∃ q, q = (k == kZone) := ⟨_, rfl⟩
  obtain ⟨q2, e2⟩ : ∃ q, q = (k == kType) := ⟨_, rfl⟩
  obtain ⟨q3, e3⟩ : ∃ q, q = (k == kKind) := ⟨_, rfl⟩
  obtain ⟨q4, e4⟩ : ∃ q, q = (k == kPool) := ⟨_, rfl⟩
  obtain ⟨q5, e5⟩ : ∃ q, q = (k == kHost) := ⟨_, rfl⟩
  rw [← e1] at g1; rw [← e2] at g2; rw [← e3] at g3; rw [← e4] at g4; rw [← e5] at g5
  rw [← e1, ← e2, ← e3, ← e4, ← e5]
  clear e1 e2 e3 e4 e5
  unfold kZone at g1
  unfold kType at g2
  unfold kKind at g3
  unfold kPool at g4
  unfold kHost at g5
  obtain ⟨X, hX⟩ : ∃ X, X = bytesT k := ⟨_, rfl⟩
  rw [← hX] at g1 g2 g3 g4 g5 ⊢
  clear hX
  cases q1 <;> cases q2 <;> cases q3 <;> cases q4 <;> cases q5 <;>
  (go_enter Tryz.func94, Tryz.ntmps94
   go_wp2_with fail
   go_ret
   exact ⟨rfl, rfl⟩)

theorem enters_skey : ∀ args w, (callFunc 93 args).run Tryz.prog w = .ok (.enter 93 args) w := enters_of Tryz.func93 (by kernel_rfl) rfl
theorem enters_splace : ∀ args w, (callFunc 98 args).run Tryz.prog w = .ok (.enter 98 args) w := enters_of Tryz.func98 (by kernel_rfl) rfl
theorem enters_sname : ∀ args w, (callFunc 44 args).run Tryz.prog w = .ok (.enter 44 args) w := enters_of Tryz.func44 (by kernel_rfl) rfl
theorem enters_fname : ∀ args w, (callFunc 47 args).run Tryz.prog w = .ok (.enter 47 args) w := enters_of Tryz.func47 (by kernel_rfl) rfl
theorem clos_skey (x : Txt × Txt) (y : Txt) (B : Nat) (W : World) (hc : W.cell? ⟨B, 0, none⟩ = some (.string (bytesT y))) :
    Calls Tryz.prog 93 #[labA x, .pointer (some ⟨B, 0, none⟩)] W fun e w' => e = .returned (.bool (x.1 == y)) ∧ Below W.heap.size W w' := by
  unfold labA
  have hq := hide (txt_beq6 x.1 y)
  obtain ⟨r, hr⟩ : ∃ r, r = (x.1 == y) := ⟨_, rfl⟩
  rw [← hr] at hq ⊢
  obtain ⟨X, hX⟩ : ∃ X, X = bytesT x.1 := ⟨_, rfl⟩
  obtain ⟨Z, hZ⟩ : ∃ Z, Z = bytesT x.2 := ⟨_, rfl⟩
  obtain ⟨Y, hY⟩ : ∃ Y, Y = bytesT y := ⟨_, rfl⟩
  rw [← hX] at hq ⊢
  rw [← hY] at hc hq
  rw [← hZ]
  clear hr hX hY hZ
  have hc2 := cell_box6 (.cells #[.string X, .string Z] 38) hc
  clear hc
  go_enter Tryz.func93, Tryz.ntmps93
  go_wp2_with fail
  go_ret
  exact ⟨ret_bool (unhide hq), boxb _⟩
theorem clos_sname (x : VType) (u1 u2 : Value) (y : Txt) (B : Nat) (W : World) (hc : W.cell? ⟨B, 0, none⟩ = some (.string (bytesT y))) :
    Calls Tryz.prog 44 #[typA x u1 u2, .pointer (some ⟨B, 0, none⟩)] W fun e w' => e = .returned (.bool (x.name == y)) ∧ Below W.heap.size W w' := by
  unfold typA
  have hq := hide (txt_beq6 x.name y)
  obtain ⟨r, hr⟩ : ∃ r, r = (x.name == y) := ⟨_, rfl⟩
  rw [← hr] at hq ⊢
  obtain ⟨X, hX⟩ : ∃ X, X = bytesT x.name := ⟨_, rfl⟩
  obtain ⟨Y, hY⟩ : ∃ Y, Y = bytesT y := ⟨_, rfl⟩
  rw [← hX] at hq ⊢
  rw [← hY] at hc hq
  clear hr hX hY
  have hc2 := cell_box6 (.cells #[.string X, .int .i64 x.cap.1, .int .i64 x.cap.2, .int .i64 x.ovr.1, .int .i64 x.ovr.2, u1, u2] 57) hc
  clear hc
  obtain ⟨x0, ⟨x1, x2⟩, ⟨x3, x4⟩, x5, x6⟩ := x
  simp only at hc2 ⊢
  go_enter Tryz.func44, Tryz.ntmps44
  go_wp2_with fail
  go_ret
  exact ⟨ret_bool (unhide hq), boxb _⟩
theorem clos_fname (x : VType) (u1 u2 : Value) (y : Txt) (B : Nat) (W : World) (hc : W.cell? ⟨B, 0, none⟩ = some (.string (bytesT y))) :
    Calls Tryz.prog 47 #[typA x u1 u2, .pointer (some ⟨B, 0, none⟩)] W fun e w' => e = .returned (.bool (x.name == y)) ∧ Below W.heap.size W w' := by
  unfold typA
  have hq := hide (txt_beq6 x.name y)
  obtain ⟨r, hr⟩ : ∃ r, r = (x.name == y) := ⟨_, rfl⟩
  rw [← hr] at hq ⊢
  obtain ⟨X, hX⟩ : ∃ X, X = bytesT x.name := ⟨_, rfl⟩
  obtain ⟨Y, hY⟩ : ∃ Y, Y = bytesT y := ⟨_, rfl⟩
  rw [← hX] at hq ⊢
  rw [← hY] at hc hq
  clear hr hX hY
  have hc2 := cell_box6 (.cells #[.string X, .int .i64 x.cap.1, .int .i64 x.cap.2, .int .i64 x.ovr.1, .int .i64 x.ovr.2, u1, u2] 57) hc
  clear hc
  obtain ⟨x0, ⟨x1, x2⟩, ⟨x3, x4⟩, x5, x6⟩ := x
  simp only at hc2 ⊢
  go_enter Tryz.func47, Tryz.ntmps47
  go_wp2_with fail
  go_ret
  exact ⟨ret_bool (unhide hq), boxb _⟩
theorem clos_splace (x : VOfg) (z k : Txt) (B : Nat) (W : World) (hc : W.cell? ⟨B, 0, none⟩ = some (.string (bytesT z)) ∧ W.cell? ⟨B, 1, none⟩ = some (.string (bytesT k))) :
    Calls Tryz.prog 98 #[ofgA x, .pointer (some ⟨B, 0, none⟩)] W fun e w' => e = .returned (.bool ((x.zone == z) && (x.kind == k))) ∧ Below W.heap.size W w' := by
  unfold ofgA
  have hq := hide (txt_beq6 x.zone z)
  have hp := hide (txt_beq6 x.kind k)
  obtain ⟨r, hr⟩ : ∃ r, r = (x.zone == z) := ⟨_, rfl⟩
  obtain ⟨s, hs⟩ : ∃ s, s = (x.kind == k) := ⟨_, rfl⟩
  rw [← hr] at hq
  rw [← hs] at hp
  rw [← hr, ← hs]
  obtain ⟨X, hX⟩ : ∃ X, X = bytesT x.zone := ⟨_, rfl⟩
  obtain ⟨Z, hZ⟩ : ∃ Z, Z = bytesT x.kind := ⟨_, rfl⟩
  obtain ⟨Y, hY⟩ : ∃ Y, Y = bytesT z := ⟨_, rfl⟩
  obtain ⟨Y2, hY2⟩ : ∃ Y, Y = bytesT k := ⟨_, rfl⟩
  rw [← hX] at hq ⊢
  rw [← hY] at hc hq
  rw [← hY2] at hc hp
  rw [← hZ] at hp ⊢
  clear hr hX hY hZ hs hY2
  obtain ⟨hc0, hc1⟩ := hc
  have hc2 := cell_box6 (.cells #[.string X, .string Z, .int .i64 x.price, .bool x.opn] 65) hc0
  have hc3 := cell_box6 (.cells #[.string X, .string Z, .int .i64 x.price, .bool x.opn] 65) hc1
  clear hc0 hc1
  obtain ⟨P, hP⟩ : ∃ P, P = x.price := ⟨_, rfl⟩
  obtain ⟨O, hO⟩ : ∃ O, O = x.opn := ⟨_, rfl⟩
  rw [← hP, ← hO] at hc2 hc3 ⊢
  clear hP hO
  have hqq := unhide hq
  have hpp := unhide hp
  cases r <;>
  (go_enter Tryz.func98, Tryz.ntmps98
   go_wp2_with fail
   go_ret
   exact ⟨by first | rfl | exact ret_bool (unhide hp), boxb _⟩)
end Go.Proofs.YtepcnfnmphgccaaGreatDoor
