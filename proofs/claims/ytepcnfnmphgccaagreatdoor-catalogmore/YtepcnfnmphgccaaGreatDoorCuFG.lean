/- Layer 6: contracts of Has, Price, Open. -/
import Derived.Test.YtepcnfnmphgccaaGreatDoorCuEG
import Derived.Test.YtepcnfnmphgccaaGreatDoorCuCG
namespace Go.Proofs.YtepcnfnmphgccaaGreatDoor
open Go.RowKit Suf Val Go.Maps

theorem five_price {ts : List VType} {o : VOff} {a1 a2 p : Int} {q : Bool} {u : Value} {ok : Bool} (h : Five (findR ts o) a1 a2 p q u ok) : p = (priceR ts o).1 ∧ ok = (priceR ts o).2 ∧ q = openR ts o ∧ a1 = (hasR ts o).1.1 ∧ a2 = (hasR ts o).1.2 ∧ ok = (hasR ts o).2 := by
  unfold priceR openR hasR
  cases hf : findR ts o with
  | none =>
    rw [hf] at h
    obtain ⟨h1, h2, h3, h4, _, h6⟩ := h
    exact ⟨h3, h6, h4, h1, h2, h6⟩
  | some y =>
    rw [hf] at h
    obtain ⟨h1, h2, h3, h4, h6⟩ := h
    exact ⟨h3, h6, h4, h1, h2, h6⟩
def put2 (w : World) (B : Nat) (a b : Value) : World := (w.setCell ⟨B, 0, none⟩ a).setCell ⟨B, 1, none⟩ b
theorem put2_below {w W : World} {base B : Nat} (h : Below base w W) (hB : base ≤ B) (a b : Value) : Below base w (put2 W B a b) :=
  (h.setCell (p := ⟨B, 0, none⟩) hB a).setCell (p := ⟨B, 1, none⟩) hB b
structure ASlot (W : World) (B : Nat) : Prop where
  c0 : W.cell? ⟨B, 0, none⟩ = some (.int .i64 0)
  c1 : W.cell? ⟨B, 1, none⟩ = some (.int .i64 0)
  fr : ∀ o, W.frozen? ⟨B, o, none⟩ = false
  lt : B < W.heap.size
theorem ASlot.below {W W' : World} {B : Nat} (h : ASlot W B) (hb : Below W.heap.size W W') : ASlot W' B :=
  ⟨cell_kept hb h.c0, cell_kept hb h.c1, fun o => by rw [hb.frozen (p := ⟨B, o, none⟩) h.lt]; exact h.fr o, Nat.lt_of_lt_of_le h.lt hb.size⟩
theorem aslot_new (w : World) : ASlot (w.alloc (.cells #[.int .i64 0, .int .i64 0] 28)) w.heap.size :=
  ⟨by simp [go_sem], by simp [go_sem], fun o => by simp [go_sem], by simp⟩
set_option maxHeartbeats 4000000 in
theorem pprice_any (v : Value) (l : List VType) (o : VOff) (w : World) (hL : Laid w) (hv : Lst typK w v l) (ho : okO o) :
    Calls Tryz.prog 10 #[v, offA o] w fun e w' => e = .returned (.tuple #[.int .i64 (priceR l o).1, .bool (priceR l o).2]) ∧ Below w.heap.size w w' := by
  obtain ⟨W1, hW1⟩ : ∃ W, W = w.alloc (.cells #[.string (bytesT o.1), .string (bytesT o.2.1), .string (bytesT o.2.2)] 24) := ⟨_, rfl⟩
  have B1 : Hid (Below w.heap.size w W1) := by rw [hW1]; exact boxb _
  have GW := hide hW1
  clear hW1
  have cf := hide (pfind_any v l o W1 (hL.below (unhide B1)) (hv.below (unhide B1)) ho)
  obtain ⟨a, c, rfl⟩ := hv.val
  clear hL hv ho
  obtain ⟨n, hn⟩ : ∃ n, n = l.length := ⟨_, rfl⟩
  rw [← hn] at cf ⊢
  clear hn
  obtain ⟨r, hr⟩ : ∃ r, r = priceR l o := ⟨_, rfl⟩
  rw [← hr]
  have HR := hide hr
  clear hr
  unfold offA at cf ⊢
  go_enter Tryz.func10, Tryz.ntmps10
  go_wp2_with fail
  rw [← unhide GW]
  refine (unhide cf).mono ?_
  rintro e w2 ⟨⟨a1, a2, p, q, ua, un, uc, ok, rfl, hfv, _⟩, hw2⟩
  have B2 := hide (chain (unhide B1) hw2)
  have hfin : Hid (p = r.1 ∧ ok = r.2) := by
    show _ ∧ _
    rw [unhide HR]
    exact ⟨(five_price hfv).1, (five_price hfv).2.1⟩
  clear hw2 hfv cf GW B1 HR
  obtain ⟨rfl, rfl⟩ : p = r.1 ∧ ok = r.2 := unhide hfin
  go_wp2_with fail
  go_ret2
  exact ⟨rfl, chain (unhide B2) (boxb _)⟩
set_option maxHeartbeats 4000000 in
theorem popen_any (v : Value) (l : List VType) (o : VOff) (w : World) (hL : Laid w) (hv : Lst typK w v l) (ho : okO o) :
    Calls Tryz.prog 17 #[v, offA o] w fun e w' => e = .returned (.bool (openR l o)) ∧ Below w.heap.size w w' := by
  obtain ⟨W1, hW1⟩ : ∃ W, W = w.alloc (.cells #[.string (bytesT o.1), .string (bytesT o.2.1), .string (bytesT o.2.2)] 24) := ⟨_, rfl⟩
  have B1 : Hid (Below w.heap.size w W1) := by rw [hW1]; exact boxb _
  have GW := hide hW1
  clear hW1
  have cf := hide (pfind_any v l o W1 (hL.below (unhide B1)) (hv.below (unhide B1)) ho)
  obtain ⟨a, c, rfl⟩ := hv.val
  clear hL hv ho
  obtain ⟨n, hn⟩ : ∃ n, n = l.length := ⟨_, rfl⟩
  rw [← hn] at cf ⊢
  clear hn
  obtain ⟨r, hr⟩ : ∃ r, r = openR l o := ⟨_, rfl⟩
  rw [← hr]
  have HR := hide hr
  clear hr
  unfold offA at cf ⊢
  go_enter Tryz.func17, Tryz.ntmps17
  go_wp2_with fail
  rw [← unhide GW]
  refine (unhide cf).mono ?_
  rintro e w2 ⟨⟨a1, a2, p, q, ua, un, uc, ok, rfl, hfv, _⟩, hw2⟩
  have B2 := hide (chain (unhide B1) hw2)
  have hfin : Hid (q = r) := by
    show _ = _
    rw [unhide HR]
    exact (five_price hfv).2.2.1
  clear hw2 hfv cf GW B1 HR
  obtain rfl : q = r := unhide hfin
  go_wp2_with fail
  go_ret
  exact ⟨rfl, chain (unhide B2) (boxb _)⟩
set_option maxHeartbeats 4000000 in
theorem phas_any (v : Value) (l : List VType) (o : VOff) (w : World) (hL : Laid w) (hv : Lst typK w v l) (ho : okO o) :
    Calls Tryz.prog 8 #[v, offA o] w fun e w' => e = .returned (.tuple #[.agg #[.int .i64 (hasR l o).1.1, .int .i64 (hasR l o).1.2], .bool (hasR l o).2]) ∧ Below w.heap.size w w' := by
  obtain ⟨W1, hW1⟩ : ∃ W, W = (w.alloc (.cells #[.string (bytesT o.1), .string (bytesT o.2.1), .string (bytesT o.2.2)] 24)).alloc (.cells #[.int .i64 0, .int .i64 0] 28) := ⟨_, rfl⟩
  have B1 : Hid (Below w.heap.size w W1) := by rw [hW1]; exact chain (boxb _) (boxb _)
  have S1 : Hid (ASlot W1 (w.heap.size + 1)) := by
    rw [hW1]
    have := aslot_new (w.alloc (.cells #[.string (bytesT o.1), .string (bytesT o.2.1), .string (bytesT o.2.2)] 24))
    rwa [World.size_alloc] at this
  have O1 : Hid (W1.cell? ⟨w.heap.size, 0, none⟩ = some (.string (bytesT o.1)) ∧ W1.cell? ⟨w.heap.size, 1, none⟩ = some (.string (bytesT o.2.1)) ∧ W1.cell? ⟨w.heap.size, 2, none⟩ = some (.string (bytesT o.2.2))) := by
    rw [hW1]
    exact ⟨cell_box6 _ (by simp [go_sem]), cell_box6 _ (by simp [go_sem]), cell_box6 _ (by simp [go_sem])⟩
  have GW := hide hW1
  clear hW1
  have cf := hide (pfind_any v l o W1 (hL.below (unhide B1)) (hv.below (unhide B1)) ho)
  obtain ⟨a, c, rfl⟩ := hv.val
  clear hL hv ho
  obtain ⟨n, hn⟩ : ∃ n, n = l.length := ⟨_, rfl⟩
  rw [← hn] at cf ⊢
  clear hn
  obtain ⟨r, hr⟩ : ∃ r, r = hasR l o := ⟨_, rfl⟩
  rw [← hr]
  have HR := hide hr
  clear hr
  obtain ⟨PP, hPP⟩ : ∃ P, P = fun (e : Ending) (w' : World) => e = .returned (.tuple #[.agg #[.int .i64 r.1.1, .int .i64 r.1.2], .bool r.2]) ∧ Below w.heap.size w w' := ⟨_, rfl⟩
  show Calls _ _ _ _ (fun e w' => (fun (e : Ending) (w' : World) => e = .returned (.tuple #[.agg #[.int .i64 r.1.1, .int .i64 r.1.2], .bool r.2]) ∧ Below w.heap.size w w') e w')
  rw [← hPP]
  have HPP := hide hPP
  clear hPP
  unfold offA at cf ⊢
  go_enter Tryz.func8, Tryz.ntmps8
  obtain ⟨o0, o1, o2⟩ := unhide O1
  go_wp2_with fail
  rw [← unhide GW]
  go_wp2_with fail
  refine (unhide cf).mono ?_
  rintro e w2 ⟨⟨a1, a2, p, q, ua, un, uc, ok, rfl, hfv, _⟩, hw2⟩
  have B2 := hide (chain (chain (unhide B1) hw2) (boxb (.cells #[.int .i64 a1, .int .i64 a2, .int .i64 p, .bool q, .slice ua un uc] 61)))
  obtain ⟨c0, c1, fr, lt⟩ := (unhide S1).below (chain hw2 (boxb (.cells #[.int .i64 a1, .int .i64 a2, .int .i64 p, .bool q, .slice ua un uc] 61)))
  have hfin : Hid (a1 = r.1.1 ∧ a2 = r.1.2 ∧ ok = r.2) := by
    show _ ∧ _
    rw [unhide HR]
    exact (five_price hfv).2.2.2
  clear hw2 hfv cf GW B1 HR S1 O1 o0 o1 o2
  go_wp2_with fail
  refine bodyPost_ret (v := .tuple #[.agg #[.int .i64 a1, .int .i64 a2], .bool ok]) (by simp [results, Tryz.results8, go_sem, c0, c1]) rfl ?_
  rw [unhide HPP]
  exact ⟨by rw [(unhide hfin).1, (unhide hfin).2.1, (unhide hfin).2.2], put2_below (unhide B2) (by omega) _ _⟩
end Go.Proofs.YtepcnfnmphgccaaGreatDoor

/- Layer 6: contracts of labels and Labels. -/
namespace Go.Proofs.YtepcnfnmphgccaaGreatDoor
open Go.RowKit Suf Val Go.Maps Go.Sort

theorem enters_cmpL : ∀ args w, (callFunc 51 args).run Tryz.prog w = .ok (.enter 51 args) w := enters_of Tryz.func51 (by kernel_rfl) rfl
theorem aggL (w : World) : (isAgg 38).run Tryz.prog w = .ok true w := by kernel_rfl
theorem sizeLb (w : World) : (Go.sizeOf 38).run Tryz.prog w = .ok 2 w := by kernel_rfl
def encLb (x : Lab) : List Value := [.string (bytesT x.1), .string (bytesT x.2)]
def cfL (x y : Lab) : Int := Lib.compareBytes x.1 y.1
theorem lt_cfL (x y : Lab) : Go.Proofs.ltOf cfL x y = byKey x y := cmp_lt6 x.1 y.1
theorem swoL : Go.Sort.SWO (Go.Proofs.ltOf cfL) where
  irrefl x := by rw [lt_cfL]; exact lt_irrefl _
  trans x y z h1 h2 := by rw [lt_cfL] at *; exact lt_trans h1 h2
  ntrans x y z h1 h2 := by
    rw [lt_cfL] at *
    unfold byKey at *
    cases h : lt x.1 z.1 with
    | false => rfl
    | true =>
      rcases lt_total y.1 z.1 with hl | hl | hl
      · rw [h2] at hl; cases hl
      · rw [hl] at h1; rw [h1] at h; cases h
      · have := lt_trans h hl; rw [h1] at this; cases this
set_option maxHeartbeats 2000000 in
theorem cmpL_closure (x y : Lab) (W : World) : Calls Tryz.prog 51 #[.agg (encLb x).toArray, .agg (encLb y).toArray] W fun e w' => e = .returned (.int .i64 (cfL x y)) ∧ ∃ q os', w' = Go.Sort.grow (W.drewN q) os' := by
  have hcon := fun W' => Tryz.strings_Compare (bytesT x.1) (bytesT y.1) W'
  have hr : Lib.compareBytes (bytesT x.1).data.toList (bytesT y.1).data.toList = cfL x y := rfl
  rw [hr] at hcon
  generalize cfL x y = r at hcon ⊢
  clear hr
  show Calls Tryz.prog 51 #[.agg #[.string (bytesT x.1), .string (bytesT x.2)], .agg #[.string (bytesT y.1), .string (bytesT y.2)]] W _
  go_enter Tryz.func51, Tryz.ntmps51
  go_wp2_with (go_at_call 52; refine (hcon _).mono ?_; rintro e w' ⟨rfl, rfl⟩)
  go_ret
  exact ⟨rfl, ((Gr.refl W).alloc _).alloc _⟩
/-- Labels in a row of the call's own. -/
def OwnL (w : World) (base : Nat) (v : Value) (l : List Lab) : Prop := w.ownsRow base 38 2 v l.length (l.flatMap encLb) ∧ (∀ x ∈ l, short x.1 ∧ short x.2) ∧ l.length ≤ 1048576
theorem OwnL.lst {w : World} {base : Nat} {v : Value} {l : List Lab} (h : OwnL w base v l) : Lst labK w v l := by
  refine rows_lst h.1 ⟨l.map encLb, (List.flatMap_def), by simp, fun j hj hj' => ?_⟩ rfl (by have := h.2.2; omega)
  rw [List.getElem_map]
  obtain ⟨h1, h2⟩ := h.2.1 l[j] (List.getElem_mem hj')
  exact lab_row h1 h2
theorem OwnL.val {w : World} {base : Nat} {v : Value} {l : List Lab} (h : OwnL w base v l) : ∃ a c, v = .slice a l.length c := h.lst.val
theorem flatL_rows {w : World} {news : List Value} {l : List Lab} (h : RowsOf labK w news l) : news = l.flatMap encLb := by
  obtain ⟨css, rfl, hlen, hr⟩ := h
  have : css = l.map encLb := by
    apply List.ext_getElem (by simp [hlen])
    intro i h1 h2
    have h3 : i < l.length := by rw [← hlen]; exact h1
    rw [List.getElem_map]
    have := hr i h1 h3
    obtain ⟨a, b, e, ⟨e1, _⟩, ⟨e2, _⟩⟩ := this
    rw [e, e1, e2]; rfl
  rw [this]; rfl

theorem labs_nodup {t : VType} (h : TypeOk t) (o : VOff) (pool name : Txt) : ((fiveL o pool name ++ t.labs).map (·.1)).Nodup := by
  have hl := tlab_ok _ _ h.labsOk
  have hs := labsF_srt t.labs (fiveL o pool name) (five_srt o pool name) (fun x hx => own_five (hl.1 x hx).2.1 o pool name) hl.2
  refine (((labsF_perm t.labs (fiveL o pool name)).map (·.1)).nodup_iff).1 ?_
  refine List.pairwise_map.2 (hs.imp fun {a b} h => lt_ne h)
theorem srt_labs {l : List Lab} (hn : (l.map (·.1)).Nodup) (hp : l.Pairwise fun a b => byKey b a = false) : Srt byKey l := by
  have hn' : l.Pairwise fun a b => a.1 ≠ b.1 := List.pairwise_map.1 hn
  refine (hn'.and hp).imp ?_
  rintro a b ⟨h1, h2⟩
  rcases lt_total a.1 b.1 with h | h | h
  · exact h
  · exact absurd h h1
  · unfold byKey at h2; rw [h2] at h; cases h
theorem five_row (w : World) (base : Nat) (hb : base ≤ w.heap.size) (o : VOff) (pool name : Txt) : (w.alloc (.cells #[.string (bytesT kHost), .string (bytesT name), .string (bytesT kKind), .string (bytesT o.2.2), .string (bytesT kPool), .string (bytesT pool), .string (bytesT kType), .string (bytesT o.1), .string (bytesT kZone), .string (bytesT o.2.1)] 38)).ownsRow base 38 2 (.slice (some ⟨w.heap.size, 0, none⟩) 5 5) 5 ((fiveL o pool name).flatMap encLb) :=
  ⟨rfl, Or.inr ⟨w.heap.size, 5, _, rfl, hb, World.alloc_heap_new w _, Nat.le_refl _, by decide, rfl, rfl⟩⟩
theorem short5 : short kHost ∧ short kKind ∧ short kPool ∧ short kType ∧ short kZone := by unfold short; decide
def labPost (w : World) (l : List Lab) (e : Ending) (w' : World) : Prop := ∃ v, e = .returned v ∧ OwnL w' w.heap.size v l ∧ Below w.heap.size w w'
set_option maxRecDepth 100000 in
set_option maxHeartbeats 16000000 in
theorem plabs_any (t : VType) (o : VOff) (a1 a2 p : Int) (q : Bool) (ua : Option Addr) (un uc : Nat) (pool name : Txt) (w0 w : World) (hb0 : Below w0.heap.size w0 w) (hu : Lst labK w0 (.slice ua un uc) t.labs) (ht : TypeOk t) (ho : okO o) (hp : short pool) (hn : short name) :
    Calls Tryz.prog 30 #[offA o, .agg #[.int .i64 a1, .int .i64 a2, .int .i64 p, .bool q, .slice ua un uc], .string (bytesT pool), .string (bytesT name)] w fun e w' => labPost w (labsF (fiveL o pool name) t.labs) e w' := by
  have h4 : t.labs.length ≤ 4 := ht.labs
  have hun : un = t.labs.length := hu.cap.1
  have hsh : Hid (∀ x ∈ fiveL o pool name ++ t.labs, short x.1 ∧ short x.2) := fun x hx => by
    rcases List.mem_append.1 hx with hx | hx
    · obtain ⟨s1, s2, s3, s4, s5⟩ := short5
      unfold fiveL at hx
      simp only [List.mem_cons, List.not_mem_nil, or_false] at hx
      rcases hx with rfl | rfl | rfl | rfl | rfl
      · exact ⟨s1, hn⟩
      · exact ⟨s2, ho.2.2⟩
      · exact ⟨s3, hp⟩
      · exact ⟨s4, ho.1⟩
      · exact ⟨s5, ho.2.1⟩
    · obtain ⟨j, hj, rfl⟩ := List.getElem_of_mem hx
      obtain ⟨b, ob, _, hat⟩ := hu.at hj
      obtain ⟨⟨_, g1⟩, _, g2⟩ := lab_at.1 hat
      exact ⟨g1, g2⟩
  have hfin : Hid (∀ (xs' : List Lab) (v : Value) (w' : World), xs'.Perm (fiveL o pool name ++ t.labs) → (xs'.Pairwise fun a b => Go.Proofs.ltOf cfL b a = false) → w'.ownsRow w.heap.size 38 2 v (5 + t.labs.length) (xs'.flatMap encLb) → Below w.heap.size w w' → labPost w (labsF (fiveL o pool name) t.labs) (.returned v) w') := fun xs' v w' hpm hpw hr hb => by
    have hn' : (xs'.map (·.1)).Nodup := ((hpm.map (·.1)).nodup_iff).2 (labs_nodup ht o pool name)
    have he : xs' = labsF (fiveL o pool name) t.labs := labs_is ht (srt_labs hn' (hpw.imp fun {a b} h => by rw [lt_cfL] at h; exact h)) hpm
    have hlen : xs'.length = 5 + t.labs.length := by rw [hpm.length_eq, List.length_append]; rfl
    refine ⟨v, rfl, ⟨?_, ?_, ?_⟩, hb⟩
    · rw [← he, hlen]; exact hr
    · rw [← he]; exact fun x hx => unhide hsh x (hpm.mem_iff.1 hx)
    · rw [← he, hlen]; omega
  obtain ⟨PP, hPP⟩ : ∃ P, P = labPost w (labsF (fiveL o pool name) t.labs) := ⟨_, rfl⟩
  show Calls _ _ _ _ (fun e w' => labPost w (labsF (fiveL o pool name) t.labs) e w')
  rw [← hPP] at hfin ⊢
  clear hPP hsh ho hp hn
  have HU := hide hu
  have HB0 := hide hb0
  have B2 : Hid (Below w.heap.size w (((w.alloc (.cells #[.string (bytesT o.1), .string (bytesT o.2.1), .string (bytesT o.2.2)] 24)).alloc (.cells #[.int .i64 a1, .int .i64 a2, .int .i64 p, .bool q, .slice ua un uc] 61)).alloc (.cells #[.string (bytesT kHost), .string (bytesT name), .string (bytesT kKind), .string (bytesT o.2.2), .string (bytesT kPool), .string (bytesT pool), .string (bytesT kType), .string (bytesT o.1), .string (bytesT kZone), .string (bytesT o.2.1)] 38))) := chain (chain (boxb _) (boxb _)) (boxb _)
  have R2 : Hid ((((w.alloc (.cells #[.string (bytesT o.1), .string (bytesT o.2.1), .string (bytesT o.2.2)] 24)).alloc (.cells #[.int .i64 a1, .int .i64 a2, .int .i64 p, .bool q, .slice ua un uc] 61)).alloc (.cells #[.string (bytesT kHost), .string (bytesT name), .string (bytesT kKind), .string (bytesT o.2.2), .string (bytesT kPool), .string (bytesT pool), .string (bytesT kType), .string (bytesT o.1), .string (bytesT kZone), .string (bytesT o.2.1)] 38)).ownsRow w.heap.size 38 2 (.slice (some ⟨w.heap.size + 2, 0, none⟩) 5 5) 5 ((fiveL o pool name).flatMap encLb)) := by
    have h := five_row ((w.alloc (.cells #[.string (bytesT o.1), .string (bytesT o.2.1), .string (bytesT o.2.2)] 24)).alloc (.cells #[.int .i64 a1, .int .i64 a2, .int .i64 p, .bool q, .slice ua un uc] 61)) w.heap.size (by simp; omega) o pool name
    rw [World.size_alloc, World.size_alloc] at h
    exact h
  have o0 := cell_box6 (.cells #[.int .i64 a1, .int .i64 a2, .int .i64 p, .bool q, .slice ua un uc] 61) (show (w.alloc (.cells #[.string (bytesT o.1), .string (bytesT o.2.1), .string (bytesT o.2.2)] 24)).cell? ⟨w.heap.size, 0, none⟩ = some (.string (bytesT o.1)) by simp [go_sem])
  have o1 := cell_box6 (.cells #[.int .i64 a1, .int .i64 a2, .int .i64 p, .bool q, .slice ua un uc] 61) (show (w.alloc (.cells #[.string (bytesT o.1), .string (bytesT o.2.1), .string (bytesT o.2.2)] 24)).cell? ⟨w.heap.size, 1, none⟩ = some (.string (bytesT o.2.1)) by simp [go_sem])
  have o2 := cell_box6 (.cells #[.int .i64 a1, .int .i64 a2, .int .i64 p, .bool q, .slice ua un uc] 61) (show (w.alloc (.cells #[.string (bytesT o.1), .string (bytesT o.2.1), .string (bytesT o.2.2)] 24)).cell? ⟨w.heap.size, 2, none⟩ = some (.string (bytesT o.2.2)) by simp [go_sem])
  have r4 := cell_box6 (.cells #[.string (bytesT kHost), .string (bytesT name), .string (bytesT kKind), .string (bytesT o.2.2), .string (bytesT kPool), .string (bytesT pool), .string (bytesT kType), .string (bytesT o.1), .string (bytesT kZone), .string (bytesT o.2.1)] 38) (show ((w.alloc (.cells #[.string (bytesT o.1), .string (bytesT o.2.1), .string (bytesT o.2.2)] 24)).alloc (.cells #[.int .i64 a1, .int .i64 a2, .int .i64 p, .bool q, .slice ua un uc] 61)).cell? ⟨w.heap.size + 1, 4, none⟩ = some (.slice ua un uc) by simp [go_sem])
  have hel := @enters_cmpL
  clear hu hb0
  rw [← hun] at hfin h4
  have HM := hide hun
  clear hun
  unfold offA
  go_enter Tryz.func30, Tryz.ntmps30
  go_wp2_with (at_builtin; refine append_lst tells_lab rfl _ _ rfl w.heap.size _ 5 _ rfl (unhide R2) _ t.labs rfl w0 (chain (unhide HB0) (unhide B2)) (unhide HU) (by rw [← unhide HM]; unfold maxLen; omega) (by rw [← unhide HM]; omega) (unhide B2).size ?_; intro v' w3 news hnews hown hg; have H3 := hide (And.intro hnews (And.intro hown hg)); clear hnews hown hg; go_frame)
  obtain ⟨hnews, hown, hg⟩ := unhide H3
  rw [flatL_rows hnews, ← List.flatMap_append, ← unhide HM] at hown
  have B3 := hide (grow_on (unhide B2) (unhide R2) hg)
  have HO3 := hide hown
  clear hnews hown hg H3 R2 B2 o0 o1 o2 r4
  obtain ⟨xa, xc, rfl⟩ : ∃ xa xc, v' = .slice xa (5 + un) xc := by
    rcases (unhide HO3).2 with ⟨e1, e2⟩ | ⟨g, cap, cur, e1, _⟩
    · omega
    · exact ⟨_, _, e1⟩
  have hsort := hide (sortG_any (α := Lab) (enc := encLb) Tryz.sortK aggL sizeLb (fun _ => rfl) (by decide) (fun x v hv => by
      unfold encLb at hv
      simp only [List.mem_cons, List.not_mem_nil, or_false] at hv
      rcases hv with rfl | rfl <;> rfl) cfL swoL 51 #[] xa (5 + un) xc w.heap.size 38 (fiveL o pool name ++ t.labs) w3 (unhide HO3) (by rw [List.length_append, ← unhide HM]; rfl) (by omega) enters_cmpL (fun W _ x y => cmpL_closure x y W))
  go_wp2_with fail
  refine (unhide hsort).mono ?_
  rintro e w4 ⟨rfl, xs', hpm, hpw, hr, hg4⟩
  have H4 := hide (unhide hfin xs' _ w4 hpm hpw (by rw [← unhide HM] at *; exact hr) (grow_on (unhide B3) (unhide HO3) hg4))
  clear hpm hpw hr hg4 hsort hfin HO3
  go_wp2_with fail
  exact unhide H4
end Go.Proofs.YtepcnfnmphgccaaGreatDoor
