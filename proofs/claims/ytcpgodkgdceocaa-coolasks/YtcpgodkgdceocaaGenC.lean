/- Arguments opened, said once: what a value's reading says of the cells that it lies in. No function of the program is named. -/
import Derived.Test.YtcpgodkgdceocaaGenB
import Derived.SizedLaws
namespace Go.Proofs.Ytcpgodkgdceocaa
open Go.ChangeShapes Go.WideShapes Go.ChangeAt Go.RowKit Val

theorem gbulk_one {H : Type} (d : DataW H) : 1 ≤ Rows.uptoBulk d := by
  cases d with
  | lit l => cases l <;> simp [Rows.uptoBulk]
  | nil => simp [Rows.uptoBulk]
  | ptr d => simp [Rows.uptoBulk]
  | slice elems spare => simp [Rows.uptoBulk]
  | agg parts => simp [Rows.uptoBulk]
  | iface t d => simp [Rows.uptoBulk]
  | map entries => simp [Rows.uptoBulk]
  | held h => simp [Rows.uptoBulk]
theorem gbulk_len {H : Type} (l : List (DataW H)) : l.length ≤ Rows.uptoBulkAll l := by
  induction l with
  | nil => simp [Rows.uptoBulkAll]
  | cons x r ih => have := gbulk_one x; simp only [Rows.uptoBulkAll, List.length_cons]; omega
theorem gbulk_le {H : Type} {d : DataW H} {l : List (DataW H)} (h : d ∈ l) : Rows.uptoBulk d ≤ Rows.uptoBulkAll l := by
  induction l with
  | nil => cases h
  | cons x r ih =>
    simp only [Rows.uptoBulkAll]
    cases List.mem_cons.1 h with
    | inl e => subst e; omega
    | inr e => have := ih e; omega
theorem gbulk_bound {H : Type} {l : List (DataW H)} (hk : Rows.uptoSmall H l = true) : Rows.uptoBulkAll l ≤ 1048576 := of_decide_eq_true hk
theorem gweights_at {H : Type} {P : Program} {e : TypeId} : ∀ {l : List (DataW H)} {i : Nat} {d : DataW H}, l[i]? = some d → ∀ k ∈ d.weights P e, k ∈ DataW.weightsAll P e l
  | [], i, d, h, _, _ => by simp at h
  | x :: l, 0, d, h, k, hk => by
    simp only [List.getElem?_cons_zero, Option.some.injEq] at h
    subst h
    unfold DataW.weightsAll
    exact List.mem_append_left _ hk
  | x :: l, i + 1, d, h, k, hk => by
    unfold DataW.weightsAll
    exact List.mem_append_right _ (gweights_at (l := l) (i := i) (by simpa using h) k hk)
theorem gadd (b o i : Nat) : (⟨b, o, none⟩ : Addr).add i = ⟨b, o + i, none⟩ := by
  unfold Addr.add; split <;> simp_all
section
variable {α β : Type} {H : Type} {enc : TypeId × Value → H} {W : World} {base : Nat} {spare : Nat → Bool} {held : Bool}
/-- Whatever is read at this type, with sizes that memory lets be, is one of this kind. -/
def Opens (enc : TypeId × Value → H) (W : World) (base : Nat) (spare : Nat → Bool) (held : Bool) (K : Rep α) (t : TypeId) : Prop :=
  ∀ (n : Nat) (cs : List Value) (y : DataW H × List MemPlace), DataW.trod enc Try.prog W base spare held n t cs = some y → (∀ k ∈ y.1.weights Try.prog t, k ≤ reachBytes) → ∃ x, K.R W cs x
theorem opens_str {t : TypeId} (hu : Try.prog.underlying t = some .string) : Opens enc W base spare held strK t := fun n cs y h hz => by
  obtain ⟨s, rfl, rfl, _⟩ := DataW.trod_string hu h
  have := hz s.data.toList.length (by simp [DataW.weights])
  have hr := reachBytes_lt
  exact ⟨s.data.toList, by have e : bytesT s.data.toList = s := (by apply bytes_ext; rw [bytesT_list]); rw [e], by show s.data.toList.length ≤ _; omega⟩
theorem opens_int {t : TypeId} (hu : Try.prog.underlying t = some (.int .i64)) : Opens enc W base spare held intK t := fun n cs y h _ => by
  obtain ⟨z, rfl, _⟩ := DataW.trod_int hu h
  exact ⟨z, rfl⟩
theorem opens_bool {t : TypeId} (hu : Try.prog.underlying t = some .bool) : Opens enc W base spare held boolK t := fun n cs y h _ => by
  obtain ⟨z, rfl, _⟩ := DataW.trod_bool hu h
  exact ⟨z, rfl⟩
/-- A list, with what its bulk says of its length. -/
theorem open_lst {K : Rep α} {ts te : TypeId} {bytes : Nat} (hu : Try.prog.underlying ts = some (.slice te)) (hc : Try.prog.cellsOf te = K.size) (hb : Try.prog.bytesOf te = bytes) (h8 : 8 ≤ bytes) (hs : 0 < K.size) (hel : Opens enc W base spare held K te)
    {n : Nat} {c : Value} {y : DataW H × List MemPlace} (hf : DataW.trod enc Try.prog W base spare held n ts [c] = some y) (hz : ∀ k ∈ y.1.weights Try.prog ts, k ≤ reachBytes) : ∃ l, Lst K W c l ∧ l.length ≤ Rows.uptoBulk y.1 ∧ l.length * bytes ≤ reachBytes := by
  rcases DataW.trod_slice hu hf with ⟨hcs, _⟩ | ⟨a, len, cap, elems, rest, n, _, hcs, hx, _, hl, hm, hlen, hels, _, _⟩
  · obtain rfl : c = .slice none 0 0 := by simpa using hcs
    exact ⟨[], lst_nil K W 0, by simp, by simp⟩
  · obtain rfl : c = .slice (some a) len cap := by simpa using hcs
    have hd := congrArg Prod.fst hx
    simp only at hd
    have hbig := hz ((elems.length + rest.length) * Try.prog.bytesOf te) (by
      rw [hd]; simp [DataW.weights, hu])
    rw [hb] at hbig
    have hr := reachBytes_lt
    have hlb : len * bytes ≤ reachBytes := Nat.le_trans (Nat.mul_le_mul_right _ (by omega)) hbig
    have hcount : len ≤ 17592186044416 := by
      have h9 : len * 8 ≤ len * bytes := Nat.mul_le_mul_left _ h8
      omega
    have hbulk : len ≤ Rows.uptoBulk y.1 := by
      rw [hd]
      simp only [Rows.uptoBulk]
      have := gbulk_len (elems.map fun x => x.fst)
      rw [List.length_map] at this
      omega
    have hspot0 : 0 < len → a.spot = none := fun h0 => by
      have e := hels 0 h0
      have hie : 0 < elems.length := by omega
      rw [List.getElem?_eq_getElem hie, hc] at e
      obtain ⟨cs, hcc, _⟩ := Option.bind_eq_some_iff.1 e
      obtain ⟨_, hcl, hce⟩ := World.cells?_some hcc
      have h1 := hce 0 hs
      rw [List.getElem?_eq_getElem (by omega)] at h1
      have := World.cell?_spot h1
      simpa [Addr.add] using this
    have each : ∀ i, i < len → ∃ q, ∃ b o, a = ⟨b, o, none⟩ ∧ At K W b (o + i * K.size) q := by
      intro i hi
      have e := hels i hi
      have hie : i < elems.length := by omega
      rw [List.getElem?_eq_getElem hie, hc] at e
      obtain ⟨cs, hcc, ht⟩ := Option.bind_eq_some_iff.1 e
      obtain ⟨_, hcl, hce⟩ := World.cells?_some hcc
      obtain ⟨q, hq⟩ := hel _ cs _ ht (fun k hk => hz k (by
        rw [hd]
        simp only [DataW.weights, hu]
        refine List.mem_cons_of_mem _ (List.mem_append_left _ ?_)
        exact gweights_at (i := i) (by rw [List.getElem?_map, List.getElem?_eq_getElem hie]; rfl) k hk))
      obtain ⟨b, off, spot⟩ := a
      have hspot : spot = none := hspot0 (by omega)
      subst hspot
      refine ⟨q, b, off, rfl, cs, hq, fun j u hj => ?_⟩
      have hjs : j < K.size := by
        have := (List.getElem?_eq_some_iff.1 hj).1
        omega
      have h1 := hce j hjs
      rw [gadd, gadd, hj] at h1
      exact h1
    have build : ∀ k, k ≤ len → ∃ l : List α, l.length = k ∧ ∀ j (h : j < l.length), ∃ b o, a = ⟨b, o, none⟩ ∧ At K W b (o + j * K.size) l[j] := by
      intro k
      induction k with
      | zero => exact fun _ => ⟨[], rfl, fun j h => absurd h (Nat.not_lt_zero _)⟩
      | succ k ih =>
        intro hk
        obtain ⟨l, h1, h2⟩ := ih (by omega)
        obtain ⟨q, b, o, e, hq⟩ := each k (by omega)
        refine ⟨l ++ [q], by rw [List.length_append, h1]; rfl, fun j hj => ?_⟩
        by_cases hjl : j < l.length
        · rw [List.getElem_append_left hjl]; exact h2 j hjl
        · obtain rfl : j = k := by rw [List.length_append] at hj; simp at hj; omega
          rw [List.getElem_append_right (by omega)]
          simp only [h1, Nat.sub_self, List.getElem_cons_zero]
          exact ⟨b, o, e, hq⟩
    obtain ⟨l, h1, h2⟩ := build len (Nat.le_refl _)
    subst h1
    refine ⟨l, ⟨some a, cap, rfl, fun j hj => ?_, hl, hcount⟩, hbulk, hlb⟩
    obtain ⟨b, o, e, hq⟩ := h2 j hj
    exact ⟨b, o, by rw [e], hq⟩
theorem opens_list {K : Rep α} {ts te : TypeId} {bytes : Nat} (hu : Try.prog.underlying ts = some (.slice te)) (hc : Try.prog.cellsOf te = K.size) (hb : Try.prog.bytesOf te = bytes) (h8 : 8 ≤ bytes) (hs : 0 < K.size) (hel : Opens enc W base spare held K te) : Opens enc W base spare held (listK K) ts := fun n cs y h hz => by
  have hone : ∃ c, cs = [c] := by
    rcases DataW.trod_slice hu h with ⟨hcs, _⟩ | ⟨a, len, cap, _, _, _, _, hcs, _⟩
    · exact ⟨_, hcs⟩
    · exact ⟨_, hcs⟩
  obtain ⟨c, rfl⟩ := hone
  obtain ⟨l, hl, _⟩ := open_lst hu hc hb h8 hs hel h hz
  exact ⟨l, c, rfl, hl⟩
/-- Fields, one behind another. -/
theorem opens_pair {K : Rep α} {L : Rep β} {cs : List Value} (h1 : ∃ x, K.R W (cs.take K.size) x) (h2 : ∃ y, L.R W (cs.drop K.size) y) : ∃ z, (pairK K L).R W cs z := by
  obtain ⟨x, hx⟩ := h1
  obtain ⟨y, hy⟩ := h2
  exact ⟨(x, y), cs.take K.size, cs.drop K.size, (List.take_append_drop _ _).symm, hx, hy⟩
theorem opens_iso {K : Rep α} {f : β → α} (g : α → β) (hg : ∀ x, f (g x) = x) {cs : List Value} (h : ∃ x, K.R W cs x) : ∃ y, (isoK K f).R W cs y := by
  obtain ⟨x, hx⟩ := h
  exact ⟨g x, by show K.R W cs (f (g x)); rw [hg]; exact hx⟩
end
end Go.Proofs.Ytcpgodkgdceocaa
