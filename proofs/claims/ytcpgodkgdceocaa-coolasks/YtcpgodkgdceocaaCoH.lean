/- Layer 7: rows of offers and of coolings that are the call's own; appends to them; slices.Clone; Clean, the program's and the document's. -/
import Derived.Test.YtcpgodkgdceocaaCoG
import Derived.Test.YtcpgodkgdceocaaGenD
import Derived.Deep.DeepAppendRoom
import Derived.Lib.SliceRun
namespace Go.Proofs.Ytcpgodkgdceocaa
open Go.RowKit Suf Val

def encL (x : VOff) : List Value := [.string (bytesT x.1), .string (bytesT x.2.1), .string (bytesT x.2.2)]
def flatO (l : List VOff) : List Value := l.flatMap encL
theorem flatO_snoc (l : List VOff) (x : VOff) : flatO (l ++ [x]) = flatO l ++ encL x := by unfold flatO; rw [List.flatMap_append]; simp
theorem flatO_len (l : List VOff) : (flatO l).length = l.length * 3 := by
  unfold flatO
  induction l with
  | nil => rfl
  | cons x l ih => rw [List.flatMap_cons, List.length_append, ih, List.length_cons]; show 3 + _ = _; omega
def OwnO (w : World) (base : Nat) (v : Value) (l : List VOff) : Prop := w.ownsRow base 23 3 v l.length (flatO l) ∧ (∀ x ∈ l, okO x) ∧ l.length ≤ 17592186044416
theorem OwnO.lst {w : World} {base : Nat} {v : Value} {l : List VOff} (h : OwnO w base v l) : Lst offK w v l := by
  refine rows_lst h.1 ⟨l.map encL, (List.flatMap_def), by simp, fun j hj hj' => ?_⟩ rfl (by have := h.2.2; omega)
  rw [List.getElem_map]
  obtain ⟨h1, h2, h3⟩ := h.2.1 l[j] (List.getElem_mem hj')
  exact off_row h1 h2 h3
theorem OwnO.val {w : World} {base : Nat} {v : Value} {l : List VOff} (h : OwnO w base v l) : ∃ a c, v = .slice a l.length c := h.lst.val
theorem OwnO.mono {w : World} {base base' : Nat} {v : Value} {l : List VOff} (h : OwnO w base v l) (hb : base' ≤ base) : OwnO w base' v l := by
  refine ⟨⟨h.1.1, ?_⟩, h.2⟩
  rcases h.1.2 with h1 | ⟨g, cap, cur, e, hg, h2⟩
  · exact Or.inl h1
  · exact Or.inr ⟨g, cap, cur, e, Nat.le_trans hb hg, h2⟩
theorem OwnO.below {w w' : World} {base : Nat} {v : Value} {l : List VOff} (h : OwnO w base v l) (hb : Below w.heap.size w w') : OwnO w' base v l := ⟨grow_below h.1 hb, h.2⟩
theorem own_ne {w : World} {base : Nat} {T : TypeId} {sz : Nat} {v : Value} {n : Nat} {xs : List Value} (h : w.ownsRow base T sz v n xs) {k : Nat} (hk : k < base) : some k ≠ v.ownBlock := fun e => by
  have := (h.lt k e.symm).1
  omega
def encC (x : VCool) : List Value := [.string (bytesT x.1.1), .string (bytesT x.1.2.1), .string (bytesT x.1.2.2), .int .i64 x.2]
def flatC (l : List VCool) : List Value := l.flatMap encC
theorem flatC_snoc (l : List VCool) (x : VCool) : flatC (l ++ [x]) = flatC l ++ encC x := by unfold flatC; rw [List.flatMap_append]; simp
theorem flatC_app (l m : List VCool) : flatC (l ++ m) = flatC l ++ flatC m := by unfold flatC; rw [List.flatMap_append]
theorem flatO_app (l m : List VOff) : flatO (l ++ m) = flatO l ++ flatO m := by unfold flatO; rw [List.flatMap_append]
theorem rows_c {w : World} {l : List VCool} (h : ∀ x ∈ l, okO x.1) : RowsOf coolK w (flatC l) l := by
  refine ⟨l.map encC, (List.flatMap_def), by simp, fun j hj hj' => ?_⟩
  rw [List.getElem_map]
  obtain ⟨h1, h2, h3⟩ := h l[j] (List.getElem_mem hj')
  exact cool_row h1 h2 h3
theorem rows_o {w : World} {l : List VOff} (h : ∀ x ∈ l, okO x) : RowsOf offK w (flatO l) l := by
  refine ⟨l.map encL, (List.flatMap_def), by simp, fun j hj hj' => ?_⟩
  rw [List.getElem_map]
  obtain ⟨h1, h2, h3⟩ := h l[j] (List.getElem_mem hj')
  exact off_row h1 h2 h3
theorem flat_of {α : Type} {K : Rep α} {enc : α → List Value} (hK : ∀ {w : World} {cs : List Value} {x : α}, K.R w cs x → cs = enc x) {w : World} {news : List Value} {l : List α} (h : RowsOf K w news l) : news = l.flatMap enc := by
  obtain ⟨css, rfl, hlen, hr⟩ := h
  rw [List.flatMap_def]
  congr 1
  refine List.ext_getElem (by simpa using hlen) fun j h1 h2 => ?_
  rw [List.getElem_map]
  exact hK (hr j h1 (by simpa using h2))
theorem enc_c {w : World} {cs : List Value} {x : VCool} (h : coolK.R w cs x) : cs = encC x := by
  obtain ⟨c1, c2, rfl, ⟨d1, d2, rfl, ⟨rfl, _⟩, e1, e2, rfl, ⟨rfl, _⟩, ⟨rfl, _⟩⟩, rfl⟩ := h
  rfl
theorem enc_o {w : World} {cs : List Value} {x : VOff} (h : offK.R w cs x) : cs = encL x := by
  obtain ⟨d1, d2, rfl, ⟨rfl, _⟩, e1, e2, rfl, ⟨rfl, _⟩, ⟨rfl, _⟩⟩ := h
  rfl
theorem ok_c {w : World} {v : Value} {l : List VCool} (h : Lst coolK w v l) : ∀ x ∈ l, okO x.1 := fun x hx => by
  obtain ⟨j, hj, rfl⟩ := List.mem_iff_getElem.1 hx
  obtain ⟨a, c, rfl⟩ := h.val
  obtain ⟨b, o, _, hat⟩ := h.at hj
  obtain ⟨⟨_, h1⟩, ⟨_, h2⟩, _, h3⟩ := off_at.1 (cool_at.1 hat).1
  exact ⟨h1, h2, h3⟩
theorem ok_o {w : World} {v : Value} {l : List VOff} (h : Lst offK w v l) : ∀ x ∈ l, okO x := fun x hx => by
  obtain ⟨j, hj, rfl⟩ := List.mem_iff_getElem.1 hx
  obtain ⟨a, c, rfl⟩ := h.val
  obtain ⟨b, o, _, hat⟩ := h.at hj
  obtain ⟨⟨_, h1⟩, ⟨_, h2⟩, _, h3⟩ := off_at.1 hat
  exact ⟨h1, h2, h3⟩
/-- A row of coolings that is the call's own. -/
def OwnC (w : World) (base : Nat) (v : Value) (l : List VCool) : Prop := w.ownsRow base 25 4 v l.length (flatC l) ∧ (∀ x ∈ l, okO x.1) ∧ l.length ≤ 17592186044416
theorem OwnC.lst {w : World} {base : Nat} {v : Value} {l : List VCool} (h : OwnC w base v l) : Lst coolK w v l := rows_lst h.1 (rows_c h.2.1) rfl h.2.2
theorem OwnC.val {w : World} {base : Nat} {v : Value} {l : List VCool} (h : OwnC w base v l) : ∃ a c, v = .slice a l.length c := h.lst.val
theorem OwnC.mono {w : World} {base base' : Nat} {v : Value} {l : List VCool} (h : OwnC w base v l) (hb : base' ≤ base) : OwnC w base' v l := by
  refine ⟨⟨h.1.1, ?_⟩, h.2⟩
  rcases h.1.2 with h1 | ⟨g, cap, cur, e, hg, h2⟩
  · exact Or.inl h1
  · exact Or.inr ⟨g, cap, cur, e, Nat.le_trans hb hg, h2⟩
theorem OwnC.below {w w' : World} {base : Nat} {v : Value} {l : List VCool} (h : OwnC w base v l) (hb : Below w.heap.size w w') : OwnC w' base v l := ⟨grow_below h.1 hb, h.2⟩
theorem ownC_nil (w : World) (base : Nat) : OwnC w base (.slice none 0 0) [] := ⟨⟨rfl, Or.inl ⟨rfl, rfl⟩⟩, fun x hx => (by cases hx), by simp⟩
theorem ownO_nil (w : World) (base : Nat) : OwnO w base (.slice none 0 0) [] := ⟨⟨rfl, Or.inl ⟨rfl, rfl⟩⟩, fun x hx => (by cases hx), by simp⟩
theorem one_c {W : World} (c : VCool) (h : okO c.1) : Lst coolK (W.alloc (.cells #[.string (bytesT c.1.1), .string (bytesT c.1.2.1), .string (bytesT c.1.2.2), .int .i64 c.2] 25)) (.slice (some ⟨W.heap.size, 0, none⟩) 1 1) [c] :=
  rows_block (t := 25) (rows_one (cool_row (w := W) (x := c) h.1 h.2.1 h.2.2)) (by simp) rfl rfl
theorem one_o {W : World} (o : VOff) (h : okO o) : Lst offK (W.alloc (.cells #[.string (bytesT o.1), .string (bytesT o.2.1), .string (bytesT o.2.2)] 23)) (.slice (some ⟨W.heap.size, 0, none⟩) 1 1) [o] :=
  rows_block (t := 23) (rows_one (off_row (w := W) (x := o) h.1 h.2.1 h.2.2)) (by simp) rfl rfl
section
variable {w : World} {ops : Array Oper} {rest : List Oper} {o : Oper} {a : Act} {Q : Exit → Act → World → Prop}
/-- Some appended to a row of coolings of the call's own. -/
theorem append_cools (hgd : o.guard = none) (s x : Operand) (ho : o.op = .call { callee := .builtin .append, args := #[s, x], argTypes := #[29, 29] })
    (base : Nat) (v : Value) (r : List VCool) (hs : a.eval s = v) (hown : OwnC w base v r) (u : Value) (l : List VCool) (hx : a.eval x = u) (hsrc : Lst coolK w u l) (hlen : (r.length + l.length) * 56 ≤ 140737488355328) (hbase : base ≤ w.heap.size)
    (h : ∀ v' w', OwnC w' base v' (r ++ l) → w.grownBy w' v.ownBlock → wpList Try.prog ops Q rest (a.put o.dst v') w') : wpList Try.prog ops Q (o :: rest) a w := by
  refine append_lst tells_cool hgd s x ho base v r.length _ hs hown.1 u l hx w (Below.refl _ _) hsrc (by unfold maxLen; omega) hlen hbase fun v' w' news hr h1 h2 => h v' w' ⟨?_, fun y hy => ?_, ?_⟩ h2
  · rw [flat_of (enc := encC) enc_c hr] at h1
    rw [List.length_append, flatC_app]; exact h1
  · rcases List.mem_append.1 hy with hy | hy
    · exact hown.2.1 y hy
    · exact ok_c hsrc y hy
  · rw [List.length_append]; omega
theorem append_offs (hgd : o.guard = none) (s x : Operand) (ho : o.op = .call { callee := .builtin .append, args := #[s, x], argTypes := #[35, 35] })
    (base : Nat) (v : Value) (r : List VOff) (hs : a.eval s = v) (hown : OwnO w base v r) (u : Value) (l : List VOff) (hx : a.eval x = u) (hsrc : Lst offK w u l) (hlen : (r.length + l.length) * 48 ≤ 140737488355328) (hbase : base ≤ w.heap.size)
    (h : ∀ v' w', OwnO w' base v' (r ++ l) → w.grownBy w' v.ownBlock → wpList Try.prog ops Q rest (a.put o.dst v') w') : wpList Try.prog ops Q (o :: rest) a w := by
  refine append_lst tells_off hgd s x ho base v r.length _ hs hown.1 u l hx w (Below.refl _ _) hsrc (by unfold maxLen; omega) hlen hbase fun v' w' news hr h1 h2 => h v' w' ⟨?_, fun y hy => ?_, ?_⟩ h2
  · rw [flat_of (enc := encL) enc_o hr] at h1
    rw [List.length_append, flatO_app]; exact h1
  · rcases List.mem_append.1 hy with hy | hy
    · exact hown.2.1 y hy
    · exact ok_o hsrc y hy
  · rw [List.length_append]; omega
/-- .. in place, where there is room. -/
theorem append_room (hgd : o.guard = none) (s x : Operand) (ho : o.op = .call { callee := .builtin .append, args := #[s, x], argTypes := #[29, 29] })
    (base g cap n : Nat) (r : List VCool) (hs : a.eval s = .slice (some ⟨g, 0, none⟩) n cap) (hn : n = r.length) (hown : OwnC w base (.slice (some ⟨g, 0, none⟩) n cap) r) (ad : Addr) (c0 : Nat) (c : VCool) (hx : a.eval x = .slice (some ad) 1 c0) (hsrc : Lst coolK w (.slice (some ad) 1 c0) [c]) (hroom : n + 1 ≤ cap) (hlen : n + 1 ≤ 17592186044416)
    (h : ∀ w', OwnC w' base (.slice (some ⟨g, 0, none⟩) (n + 1) cap) (r ++ [c]) → w.grownBy w' (some g) → wpList Try.prog ops Q rest (a.put o.dst (.slice (some ⟨g, 0, none⟩) (n + 1) cap)) w') : wpList Try.prog ops Q (o :: rest) a w := by
  subst hn
  obtain ⟨⟨z, hinfo, hzs⟩, ht, hsz⟩ := tells_cool
  obtain ⟨i, hi, hz, hz1, hz2⟩ := ginfo hinfo
  obtain ⟨news, hr, hc⟩ := lst_rows hsrc
  refine wpList_append_own_spare w hgd s x 29 ho base 25 i 4 ht hi hz1 g r.length cap _ hs hown.1 ad 1 c0 news hx (by rw [hr.len]; rfl) (hc ad rfl) hr.one hroom fun w' h1 h2 => h w' ⟨?_, fun y hy => ?_, ?_⟩ h2
  · rw [flat_of (enc := encC) enc_c hr] at h1
    rw [List.length_append, flatC_app]; exact h1
  · rcases List.mem_append.1 hy with hy | hy
    · exact hown.2.1 y hy
    · exact ok_c hsrc y hy
  · rw [List.length_append]; exact hlen
end
set_option maxHeartbeats 4000000 in
theorem clone_any (v : Value) (l : List VCool) (w : World) (hv : Lst coolK w v l) (hl : l.length * 56 ≤ 140737488355328) :
    Calls Try.prog 31 #[v] w fun e w' => (∃ v', e = .returned v' ∧ OwnC w' w.heap.size v' l) ∧ Below w.heap.size w w' := by
  have HV := hide hv
  have HL := hide hl
  obtain ⟨a, c, rfl⟩ := hv.val
  cases a with
  | none =>
    have hm : l = [] := by
      cases l with
      | nil => rfl
      | cons t m => obtain ⟨b, o, e, _⟩ := hv.at (j := 0) (by simp); cases e
    subst hm
    have q1 := fun W => Lib.run_eql_slice_nil (P := Try.prog) W 29 25 none 0 c 0 0 Try.underlying29
    clear hv hl HV HL
    go_enter Try.func31, Try.ntmps31
    go_wp2_with fail
    go_ret
    exact ⟨⟨_, rfl, ownC_nil _ _⟩, Below.refl _ _⟩
  | some ad =>
    obtain ⟨n, hn⟩ : ∃ n, n = l.length := ⟨_, rfl⟩
    rw [← hn] at HV ⊢
    have q1 := fun W => Lib.run_eql_slice_nil (P := Try.prog) W 29 25 (some ad) n c 0 0 Try.underlying29
    have B0 : Hid (Below w.heap.size w (w.alloc (.cells #[] 25))) := boxb _
    have O0 : Hid (OwnC (w.alloc (.cells #[] 25)) w.heap.size (.slice (some ⟨w.heap.size, 0, none⟩) 0 0) []) := ⟨grow_empty (Nat.le_refl _), fun x hx => (by cases hx), by simp⟩
    clear hv hl hn
    go_enter Try.func31, Try.ntmps31
    go_wp2_with (at_builtin; refine append_cools rfl _ _ rfl w.heap.size _ [] rfl (unhide O0) _ l rfl ((unhide HV).below (unhide B0)) (by have := unhide HL; simpa using this) (unhide B0).size ?_; intro v' w9 hown hg; have H9 := hide (And.intro hown hg); clear hown hg; go_frame)
    obtain ⟨hown, hg⟩ := unhide H9
    have B9 := hide (grow_on (unhide B0) (unhide O0).1 hg)
    have R9 := hide hown
    clear H9 hown hg
    go_wp2_with fail
    go_ret
    exact ⟨⟨_, rfl, unhide R9⟩, unhide B9⟩
end Go.Proofs.Ytcpgodkgdceocaa
