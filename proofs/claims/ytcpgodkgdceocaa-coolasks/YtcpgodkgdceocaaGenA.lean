/- Lists in memory, said once for every kind of element: how an element's cells read, a list of them, a row of the call's own, appends. No function of the program is named. -/
import Derived.Test.YtcpgodkgdceocaaKitA
import Derived.Laws.OwnMore
import Derived.Laws.AppendOwn
import Derived.Deep.AppendLies
namespace Go.Proofs.Ytcpgodkgdceocaa
open Go.RowKit

/-- How values of a kind lie in memory: so many cells; what they hold (and what is asked of what they lead to). -/
structure Rep (α : Type) where
  size : Nat
  R : World → List Value → α → Prop
  len : ∀ {w : World} {cs : List Value} {x : α}, R w cs x → cs.length = size
  one : ∀ {w : World} {cs : List Value} {x : α}, R w cs x → ∀ u ∈ cs, u.oneCell' = true
  below : ∀ {w w' : World} {cs : List Value} {x : α}, R w cs x → Below w.heap.size w w' → R w' cs x
section
variable {α : Type}
def At (K : Rep α) (w : World) (b o : Nat) (x : α) : Prop := ∃ cs, K.R w cs x ∧ ∀ i u, cs[i]? = some u → w.cell? ⟨b, o + i, none⟩ = some u
theorem At.below {K : Rep α} {w w' : World} {b o : Nat} {x : α} (h : At K w b o x) (hb : Below w.heap.size w w') : At K w' b o x := by
  obtain ⟨cs, h1, h2⟩ := h
  exact ⟨cs, K.below h1 hb, fun i u hu => cell_kept hb (h2 i u hu)⟩
def Lst (K : Rep α) (w : World) (v : Value) (l : List α) : Prop :=
  ∃ a c, v = .slice a l.length c ∧ (∀ j (h : j < l.length), ∃ b o, a = some ⟨b, o, none⟩ ∧ At K w b (o + j * K.size) l[j]) ∧ l.length ≤ c ∧ l.length ≤ 17592186044416
theorem Lst.below {K : Rep α} {w w' : World} {v : Value} {l : List α} (h : Lst K w v l) (hb : Below w.heap.size w w') : Lst K w' v l := by
  obtain ⟨a, c, e, hc, hl⟩ := h
  exact ⟨a, c, e, fun j hj => by obtain ⟨b, o, e2, h2⟩ := hc j hj; exact ⟨b, o, e2, h2.below hb⟩, hl⟩
theorem Lst.val {K : Rep α} {w : World} {v : Value} {l : List α} (h : Lst K w v l) : ∃ a c, v = .slice a l.length c := by obtain ⟨a, c, e, _⟩ := h; exact ⟨a, c, e⟩
theorem Lst.len {K : Rep α} {w : World} {v : Value} {l : List α} (h : Lst K w v l) : l.length ≤ 17592186044416 := by obtain ⟨_, _, _, _, _, h⟩ := h; exact h
theorem Lst.cap {K : Rep α} {w : World} {a : Option Addr} {n c : Nat} {l : List α} (h : Lst K w (.slice a n c) l) : n = l.length ∧ l.length ≤ c := by
  obtain ⟨_, _, e, _, h, _⟩ := h
  injection e with e1 e2 e3
  omega
theorem Lst.at {K : Rep α} {w : World} {a : Option Addr} {n c : Nat} {l : List α} (h : Lst K w (.slice a n c) l) {j : Nat} (hj : j < l.length) : ∃ b o, a = some ⟨b, o, none⟩ ∧ At K w b (o + j * K.size) l[j] := by
  obtain ⟨a', c', e, hc, _⟩ := h
  injection e with e1 e2 e3
  subst e1
  exact hc j hj
theorem lst_nil (K : Rep α) (w : World) (c : Nat) : Lst K w (.slice none 0 c) [] := ⟨none, c, rfl, fun j hj => absurd hj (Nat.not_lt_zero _), Nat.zero_le _, by simp⟩
theorem lst_zero (K : Rep α) (w : World) (a : Option Addr) (c : Nat) : Lst K w (.slice a 0 c) [] := ⟨a, c, rfl, fun j hj => absurd hj (Nat.not_lt_zero _), Nat.zero_le _, by simp⟩
theorem Lst.take {K : Rep α} {w : World} {a : Option Addr} {n c k : Nat} {l : List α} (h : Lst K w (.slice a n c) l) (hk : k ≤ l.length) : Lst K w (.slice a k c) (l.take k) := by
  have hl := h.len
  have hcap := h.cap
  have e : (l.take k).length = k := by rw [List.length_take]; omega
  refine ⟨a, c, by rw [e], fun j hj => ?_, by omega, by omega⟩
  obtain ⟨b, o, e2, h2⟩ := h.at (j := j) (by omega)
  exact ⟨b, o, e2, by rw [List.getElem_take]; exact h2⟩
theorem Lst.drop {K : Rep α} {w : World} {b o n c k : Nat} {l : List α} (h : Lst K w (.slice (some ⟨b, o, none⟩) n c) l) (hk : k ≤ l.length) : Lst K w (.slice (some ⟨b, o + k * K.size, none⟩) (n - k) (c - k)) (l.drop k) := by
  have hl := h.len
  have hcap := h.cap
  have e : (l.drop k).length = n - k := by rw [List.length_drop]; omega
  refine ⟨_, _, by rw [e], fun j hj => ⟨b, o + k * K.size, rfl, ?_⟩, by omega, by omega⟩
  obtain ⟨b', o', e2, h2⟩ := h.at (j := k + j) (by omega)
  injection e2 with e2
  injection e2 with e3 e4
  subst e3
  subst e4
  rw [List.getElem_drop, Nat.add_assoc, ← Nat.add_mul]
  exact h2

/-! Rows of cells that hold such elements. -/
def RowsOf (K : Rep α) (w : World) (news : List Value) (l : List α) : Prop := ∃ css : List (List Value), news = css.flatten ∧ css.length = l.length ∧ ∀ j (h : j < css.length) (h' : j < l.length), K.R w css[j] l[j]
theorem rows_nil (K : Rep α) (w : World) : RowsOf K w [] [] := ⟨[], rfl, rfl, fun _ h => absurd h (Nat.not_lt_zero _)⟩
theorem rows_one {K : Rep α} {w : World} {cs : List Value} {x : α} (h : K.R w cs x) : RowsOf K w cs [x] := ⟨[cs], by simp, rfl, fun j hj _ => by
  obtain rfl : j = 0 := by simp at hj; exact hj
  exact h⟩
theorem RowsOf.append {K : Rep α} {w : World} {n1 n2 : List Value} {l1 l2 : List α} (h1 : RowsOf K w n1 l1) (h2 : RowsOf K w n2 l2) : RowsOf K w (n1 ++ n2) (l1 ++ l2) := by
  obtain ⟨c1, e1, k1, r1⟩ := h1
  obtain ⟨c2, e2, k2, r2⟩ := h2
  refine ⟨c1 ++ c2, by rw [List.flatten_append, e1, e2], by rw [List.length_append, List.length_append, k1, k2], fun j h h' => ?_⟩
  by_cases hj : j < c1.length
  · rw [List.getElem_append_left hj, List.getElem_append_left (by omega)]; exact r1 j hj (by omega)
  · rw [List.getElem_append_right (by omega), List.getElem_append_right (by omega)]
    have := r2 (j - c1.length) (by rw [List.length_append] at h; omega) (by rw [List.length_append] at h'; omega)
    simp only [k1] at this ⊢
    exact this
theorem RowsOf.below {K : Rep α} {w w' : World} {news : List Value} {l : List α} (h : RowsOf K w news l) (hb : Below w.heap.size w w') : RowsOf K w' news l := by
  obtain ⟨c, e, k, r⟩ := h
  exact ⟨c, e, k, fun j h h' => K.below (r j h h') hb⟩
theorem flatten_at {n : Nat} : ∀ {css : List (List Value)}, (∀ cs ∈ css, cs.length = n) → ∀ {j i : Nat}, i < n → (css.flatten)[j * n + i]? = (css[j]?).bind (fun cs => cs[i]?)
  | [], _, j, i, _ => by simp
  | cs :: css, h, 0, i, hi => by
    have h0 := h cs (by simp)
    rw [List.flatten_cons, List.getElem?_append_left (by omega)]
    simp
  | cs :: css, h, j + 1, i, hi => by
    have h0 := h cs (by simp)
    rw [List.flatten_cons, List.getElem?_append_right (by rw [Nat.add_mul]; omega), show (j + 1) * n + i - cs.length = j * n + i by rw [Nat.add_mul]; omega, flatten_at (fun c hc => h c (by simp [hc])) hi]
    simp
theorem flatten_len {n : Nat} : ∀ {css : List (List Value)}, (∀ cs ∈ css, cs.length = n) → css.flatten.length = css.length * n
  | [], _ => by simp
  | cs :: css, h => by
    have h0 := h cs (by simp)
    rw [List.flatten_cons, List.length_append, h0, flatten_len (fun c hc => h c (by simp [hc])), List.length_cons, Nat.add_mul]
    omega
theorem css_len {K : Rep α} {w : World} {css : List (List Value)} {l : List α} (hk : css.length = l.length) (hr : ∀ j (h : j < css.length) (h' : j < l.length), K.R w css[j] l[j]) : ∀ cs ∈ css, cs.length = K.size := fun cs hcs => by
  obtain ⟨j, hj, rfl⟩ := List.mem_iff_getElem.1 hcs
  exact K.len (hr j hj (by omega))
theorem RowsOf.len {K : Rep α} {w : World} {news : List Value} {l : List α} (h : RowsOf K w news l) : news.length = l.length * K.size := by
  obtain ⟨c, rfl, k, r⟩ := h
  rw [flatten_len (css_len k r), k]
theorem RowsOf.one {K : Rep α} {w : World} {news : List Value} {l : List α} (h : RowsOf K w news l) : ∀ u ∈ news, u.oneCell' = true := by
  obtain ⟨c, rfl, k, r⟩ := h
  intro u hu
  obtain ⟨cs, hcs, hu⟩ := List.mem_flatten.1 hu
  obtain ⟨j, hj, rfl⟩ := List.mem_iff_getElem.1 hcs
  exact K.one (r j hj (by omega)) u hu
theorem RowsOf.at {K : Rep α} {w : World} {news : List Value} {l : List α} (h : RowsOf K w news l) {j : Nat} (hj : j < l.length) : ∃ cs, K.R w cs l[j] ∧ ∀ i u, cs[i]? = some u → news[j * K.size + i]? = some u := by
  obtain ⟨c, rfl, k, r⟩ := h
  have hjc : j < c.length := by omega
  refine ⟨c[j], r j hjc hj, fun i u hu => ?_⟩
  have hi : i < K.size := by
    have h1 := (List.getElem?_eq_some_iff.1 hu).1
    rw [K.len (r j hjc hj)] at h1
    exact h1
  rw [flatten_at (css_len k r) hi, List.getElem?_eq_getElem hjc]
  exact hu
/-- A list, as cells. -/
theorem lst_rows {K : Rep α} {w : World} {a : Option Addr} {n c : Nat} {l : List α} (h : Lst K w (.slice a n c) l) :
    ∃ news, RowsOf K w news l ∧ ∀ ad, a = some ad → ∀ j u, news[j]? = some u → w.cell? (ad.add j) = some u := by
  obtain ⟨a', c', e, hc, _⟩ := h
  injection e with e1 e2 e3
  subst e1
  clear e2 e3
  suffices H : ∀ k, k ≤ l.length → ∃ news, RowsOf K w news (l.take k) ∧ ∀ ad, a = some ad → ∀ j u, news[j]? = some u → w.cell? (ad.add j) = some u by
    have := H l.length (Nat.le_refl _)
    rw [List.take_length] at this
    exact this
  intro k
  induction k with
  | zero => exact fun _ => ⟨[], rows_nil K w, fun ad _ j u hu => (by cases hu)⟩
  | succ k ih =>
    intro hk
    obtain ⟨news, h1, h3⟩ := ih (by omega)
    obtain ⟨b, o, e, cs, hr, hcell⟩ := hc k (by omega)
    have htk : l.take (k + 1) = l.take k ++ [l[k]] := by rw [List.take_add_one, List.getElem?_eq_getElem (by omega)]; rfl
    have hl := h1.len
    have hkl : (l.take k).length = k := by rw [List.length_take]; omega
    rw [hkl] at hl
    rw [htk]
    refine ⟨news ++ cs, h1.append (rows_one hr), fun ad had j x hx => ?_⟩
    by_cases hlt : j < news.length
    · rw [List.getElem?_append_left hlt] at hx; exact h3 ad had j x hx
    · rw [List.getElem?_append_right (by omega)] at hx
      rw [had] at e
      injection e with e
      subst e
      have := hcell _ x hx
      rw [show (⟨b, o, none⟩ : Addr).add j = ⟨b, o + k * K.size + (j - news.length), none⟩ by unfold Addr.add; split <;> simp_all; omega]
      exact this
/-- A row of the call's own, as a list. -/
theorem rows_lst {K : Rep α} {w : World} {base : Nat} {T : TypeId} {v : Value} {n : Nat} {news : List Value} {l : List α} (h : w.ownsRow base T K.size v n news) (hr : RowsOf K w news l) (hn : n = l.length) (hl : l.length ≤ 17592186044416) : Lst K w v l := by
  subst hn
  rcases h.2 with ⟨rfl, h0⟩ | ⟨g, cap, cur, rfl, hb, hg, hcap, hmax, hsz, htk⟩
  · exact ⟨none, 0, by rw [h0], fun j hj => by omega, by omega, hl⟩
  · refine ⟨some ⟨g, 0, none⟩, cap, rfl, fun j hj => ⟨g, 0, rfl, ?_⟩, hcap, hl⟩
    obtain ⟨cs, h1, h2⟩ := hr.at hj
    refine ⟨cs, h1, fun i u hu => ?_⟩
    have hi : i < K.size := by
      have h3 := (List.getElem?_eq_some_iff.1 hu).1
      rw [K.len h1] at h3
      exact h3
    have hlt : j * K.size + i < l.length * K.size := by
      have h4 : (j + 1) * K.size ≤ l.length * K.size := Nat.mul_le_mul_right _ hj
      rw [Nat.add_mul] at h4
      omega
    rw [Nat.zero_add, h.cellAt (j * K.size + i) hlt]
    exact h2 i u hu
/-- A new block of them. -/
theorem rows_block {K : Rep α} {w : World} {news : List Value} {l : List α} {t : TypeId} (h : RowsOf K w news l) (hl : l.length ≤ 17592186044416) {B n : Nat} (hB : w.heap.size = B) (hn : n = l.length) : Lst K (w.alloc (.cells news.toArray t)) (.slice (some ⟨B, 0, none⟩) n n) l := by
  subst hB
  subst hn
  have hb : Below w.heap.size w (w.alloc (.cells news.toArray t)) := (Below.refl _ _).alloc (Nat.le_refl _) _
  refine ⟨_, _, rfl, fun j hj => ⟨w.heap.size, 0, rfl, ?_⟩, Nat.le_refl _, hl⟩
  obtain ⟨cs, h1, h2⟩ := h.at hj
  refine ⟨cs, K.below h1 hb, fun i u hu => ?_⟩
  have := h2 i u hu
  rw [Nat.zero_add]
  simp [go_sem]
  exact this
end
end Go.Proofs.Ytcpgodkgdceocaa
