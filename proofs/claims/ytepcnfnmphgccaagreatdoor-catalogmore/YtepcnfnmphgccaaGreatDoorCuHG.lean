/- Layer 6: contracts of Labels, Offers. -/
import Derived.Test.YtepcnfnmphgccaaGreatDoorCuFG
import Derived.Test.YtepcnfnmphgccaaGreatDoorCuDG
namespace Go.Proofs.YtepcnfnmphgccaaGreatDoor
open Go.RowKit Suf Val Go.Maps Go.Sort

theorem ownL_nil (w : World) (base : Nat) : OwnL w base (.slice none 0 0) [] := ⟨World.ownsRow_nil _ _ _ _, fun x hx => (by cases hx), by simp⟩
theorem OwnL.below {w w' : World} {base : Nat} {v : Value} {l : List Lab} (h : OwnL w base v l) (hb : Below w.heap.size w w') : OwnL w' base v l := ⟨grow_below h.1 hb, h.2⟩
theorem OwnL.mono {w : World} {base base' : Nat} {v : Value} {l : List Lab} (h : OwnL w base v l) (hb : base' ≤ base) : OwnL w base' v l := by
  refine ⟨⟨h.1.1, ?_⟩, h.2⟩
  rcases h.1.2 with h1 | ⟨g, cap, cur, e, hg, h2⟩
  · exact Or.inl h1
  · exact Or.inr ⟨g, cap, cur, e, Nat.le_trans hb hg, h2⟩
theorem five_some {y : VType × VOfg} {a1 a2 p : Int} {q : Bool} {u : Value} {ok : Bool} (h : Five (some y) a1 a2 p q u ok) : ok = true := h.2.2.2.2
theorem five_none {a1 a2 p : Int} {q : Bool} {u : Value} {ok : Bool} (h : Five none a1 a2 p q u ok) : ok = false := h.2.2.2.2.2
set_option maxHeartbeats 8000000 in
theorem pLabels_any (v : Value) (l : List VType) (o : VOff) (pool name : Txt) (w : World) (hL : Laid w) (hv : Lst typK w v l) (ho : okO o) (hp : short pool) (hn : short name) :
    Calls Tryz.prog 14 #[v, offA o, .string (bytesT pool), .string (bytesT name)] w fun e w' => labPost w (labsR l o pool name) e w' := by
  obtain ⟨W1, hW1⟩ : ∃ W, W = w.alloc (.cells #[.string (bytesT o.1), .string (bytesT o.2.1), .string (bytesT o.2.2)] 24) := ⟨_, rfl⟩
  have B1 : Hid (Below w.heap.size w W1) := by rw [hW1]; exact boxb _
  have O1 : Hid (W1.cell? ⟨w.heap.size, 0, none⟩ = some (.string (bytesT o.1)) ∧ W1.cell? ⟨w.heap.size, 1, none⟩ = some (.string (bytesT o.2.1)) ∧ W1.cell? ⟨w.heap.size, 2, none⟩ = some (.string (bytesT o.2.2))) := by
    rw [hW1]
    exact ⟨by simp [go_sem], by simp [go_sem], by simp [go_sem]⟩
  have GW := hide hW1
  clear hW1
  have cf := hide (pfind_any v l o W1 (hL.below (unhide B1)) (hv.below (unhide B1)) ho)
  obtain ⟨a, c, rfl⟩ := hv.val
  have HO := hide ho
  have HP := hide hp
  have HN := hide hn
  clear hL hv ho hp hn
  have hlabs : Hid (∀ y, findR l o = some y → labsR l o pool name = labsF (fiveL o pool name) y.1.labs ∧ TypeOk y.1) := fun y hy => by
    refine ⟨by unfold labsR; rw [hy], ?_⟩
    obtain ⟨hc, h1, _⟩ := find_key hy
    exact (cat_ok hc).2.1 _ h1
  have hnone : Hid (findR l o = none → labsR l o pool name = []) := fun hy => by unfold labsR; rw [hy]
  obtain ⟨r, hr⟩ : ∃ r, r = labsR l o pool name := ⟨_, rfl⟩
  rw [← hr] at hlabs hnone ⊢
  clear hr
  obtain ⟨PP, hPP⟩ : ∃ P, P = labPost w r := ⟨_, rfl⟩
  show Calls _ _ _ _ (fun e w' => labPost w r e w')
  rw [← hPP]
  have HPP := hide hPP
  clear hPP
  obtain ⟨n, hn⟩ : ∃ n, n = l.length := ⟨_, rfl⟩
  rw [← hn] at cf ⊢
  clear hn
  obtain ⟨R, hR⟩ : ∃ R, R = findR l o := ⟨_, rfl⟩
  rw [← hR] at cf hlabs hnone
  clear hR
  unfold offA at cf ⊢
  obtain ⟨o0, o1, o2⟩ := unhide O1
  go_enter Tryz.func14, Tryz.ntmps14
  go_wp2_with fail
  rw [← unhide GW]
  go_wp2_with fail
  refine (unhide cf).mono ?_
  rintro e w2 ⟨⟨a1, a2, p, q, ua, un, uc, ok, rfl, hfv, hlb⟩, hw2⟩
  clear o0 o1 o2
  cases R with
  | none =>
    obtain rfl := five_none hfv
    have hres := hide ((unhide hnone) rfl)
    have B2 := hide (chain (chain (unhide B1) hw2) (boxb (.cells #[.int .i64 a1, .int .i64 a2, .int .i64 p, .bool q, .slice ua un uc] 61)))
    clear hw2 hfv hlb cf GW hlabs hnone O1
    go_wp2_with fail
    show PP (.returned (.slice none 0 0)) _
    rw [unhide HPP, unhide hres]
    exact ⟨_, rfl, ownL_nil _ _, unhide B2⟩
  | some y =>
    obtain rfl := five_some hfv
    obtain ⟨hres, hok⟩ := (unhide hlabs) y rfl
    have hu := hlb y rfl
    obtain ⟨W3, hW3⟩ : ∃ W, W = w2.alloc (.cells #[.int .i64 a1, .int .i64 a2, .int .i64 p, .bool q, .slice ua un uc] 61) := ⟨_, rfl⟩
    have B23 : Hid (Below w2.heap.size w2 W3) := by rw [hW3]; exact boxb _
    have G3 := hide hW3
    clear hW3
    have hb13 : Below W1.heap.size W1 W3 := chain hw2 (unhide B23)
    have cl := hide (plabs_any y.1 o a1 a2 p q ua un uc pool name W1 W3 hb13 hu hok (unhide HO) (unhide HP) (unhide HN))
    have B3 := hide (chain (unhide B1) hb13)
    have O3 := hide (And.intro (cell_kept hb13 (unhide O1).1) (And.intro (cell_kept hb13 (unhide O1).2.1) (cell_kept hb13 (unhide O1).2.2)))
    have HR := hide hres
    clear hw2 hfv hlb cf GW hlabs hnone O1 hu hok hb13 B23 hres
    unfold offA at cl
    have O4 := unhide O3
    rw [unhide G3] at O4
    obtain ⟨o0, o1, o2⟩ := O4
    go_wp2_with fail
    clear o0 o1 o2
    rw [← unhide G3]
    refine (unhide cl).mono ?_
    rintro e w4 ⟨v, rfl, hown, hw4⟩
    have HW := hide hown
    have B4 := hide (chain (unhide B3) hw4)
    have hsz : Hid (w.heap.size ≤ W3.heap.size) := (unhide B3).size
    clear hown hw4 cl G3
    obtain ⟨va, vc, rfl⟩ := (unhide HW).val
    go_wp2_with fail
    show PP _ _
    rw [unhide HPP, unhide HR]
    exact ⟨_, rfl, (unhide HW).mono (unhide hsz), unhide B4⟩

/-! Offers. -/
def OwnO (w : World) (base : Nat) (v : Value) (l : List VOff) : Prop := w.ownsRow base 24 3 v l.length (flatO l) ∧ (∀ x ∈ l, okO x) ∧ l.length ≤ 17592186044416
theorem OwnO.lst {w : World} {base : Nat} {v : Value} {l : List VOff} (h : OwnO w base v l) : Lst offK w v l := by
  refine rows_lst h.1 ⟨l.map encL, (List.flatMap_def), by simp, fun j hj hj' => ?_⟩ rfl (by have := h.2.2; omega)
  rw [List.getElem_map]
  obtain ⟨h1, h2, h3⟩ := h.2.1 l[j] (List.getElem_mem hj')
  exact off_row h1 h2 h3
theorem OwnO.val {w : World} {base : Nat} {v : Value} {l : List VOff} (h : OwnO w base v l) : ∃ a c, v = .slice a l.length c := h.lst.val
theorem OwnO.mono {w : World} {base base' : Nat} {v : Value} {l : List VOff} (h : OwnO w base v l) (hb : base' ≤ base) : OwnO w base' v l := by
  refine ⟨⟨h.1.1, ?_⟩, h.2⟩
  rcases h.1.2 with h1 | ⟨g, cap, cur, e, hg, h2⟩
  · exact Or.inl h1
  · exact Or.inr ⟨g, cap, cur, e, Nat.le_trans hb hg, h2⟩
theorem OwnO.below {w w' : World} {base : Nat} {v : Value} {l : List VOff} (h : OwnO w base v l) (hb : Below w.heap.size w w') : OwnO w' base v l := ⟨grow_below h.1 hb, h.2⟩
def prF (g : VOff → Option (VType × VOfg)) (o : VOff) : Int := match g o with
  | some y => y.2.price
  | none => 0
def ordPost (w : World) (l : List VOff) (e : Ending) (w' : World) : Prop := ∃ v, e = .returned v ∧ OwnO w' w.heap.size v l ∧ Below w.heap.size w w'
theorem orderedT_any (g : VOff → Option (VType × VOfg)) (b n : Nat) (w0 w : World) (h : Tab w0 w b g n) (S : List VOff) (hn : S.length ≤ 1048576) (hcov : ∀ o, okO o → (g o).isSome = true → o ∈ S) (out : List VOff) (hout : ∀ l : List VOff, Srt (aheadO (prF g)) l → (∀ o, o ∈ l ↔ okO o ∧ (g o).isSome = true) → l = out) :
    Calls Tryz.prog 37 #[.map (some b)] w fun e w' => ordPost w out e w' := by
  obtain ⟨f, h1, h2⟩ := h
  have hs : ∀ o, okO o → (f o).isSome = (g o).isSome := fun o ho => (h2 o ho).isSome
  refine (ordered_any (prF g) f b n w h1 S hn (fun x hx hf => hcov x hx (by rw [← hs x hx]; exact hf)) (fun o ho => ?_)).mono ?_
  · rcases h2 o ho with ⟨e1, e2⟩ | ⟨y, v, e1, e2, u, e3, hu⟩
    · exact ⟨0, 0, false, none, 0, 0, by rw [e2]; unfold prF; rw [e1]; rfl⟩
    · obtain ⟨ua, uc, rfl⟩ := hu.val
      exact ⟨_, _, _, ua, _, uc, by rw [e2, e3]; unfold prF; rw [e1]; rfl⟩
  · rintro e w' ⟨v, l, rfl, g1, g2, g3, g4, g5⟩
    have hm : ∀ o, o ∈ l ↔ okO o ∧ (g o).isSome = true := fun o => (g2 o).trans ⟨fun h => ⟨h.1, by rw [← hs o h.1]; exact h.2⟩, fun h => ⟨h.1, by rw [hs o h.1]; exact h.2⟩⟩
    have := hout l g1 hm
    rw [← this]
    exact ⟨v, rfl, ⟨g3, fun x hx => ((hm x).1 hx).1, Nat.le_trans g4 (by decide)⟩, g5⟩
theorem srt_to {p1 p2 : VOff → Int} {l : List VOff} (h : Srt (aheadO p1) l) (he : ∀ o ∈ l, p1 o = p2 o) : Srt (aheadO p2) l :=
  h.imp_of_mem fun {a b} ha hb hab => by unfold aheadO at hab ⊢; rw [← he a ha, ← he b hb]; exact hab
def keysS (ts : List VType) : List VOff := (pairsT (alwR ts)).map keyP
theorem keysS_len (ts : List VType) : (keysS ts).length ≤ 1048576 := by
  have hc := cat_ok (alw_ok ts)
  have : ∀ l : List VType, (∀ t ∈ l, TypeOk t) → (pairsT l).length ≤ l.length * 6 := fun l => by
    induction l with
    | nil => intro _; simp [pairsT]
    | cons t l ih =>
      intro h
      have h1 := ih (fun u hu => h u (by simp [hu]))
      have h2 := (h t (by simp)).offs
      unfold pairsT ofgsP at h1 ⊢
      rw [List.flatMap_cons, List.length_append, List.length_map, List.length_cons]
      omega
  have h := this _ hc.2.1
  unfold keysS
  rw [List.length_map]
  have := hc.1
  omega
theorem keysS_cov {ts : List VType} {o : VOff} (h : (findR ts o).isSome = true) : o ∈ keysS ts := by
  obtain ⟨y, hy⟩ := Option.isSome_iff_exists.1 h
  obtain ⟨hc, h1, h2, h3⟩ := find_key hy
  exact List.mem_map.2 ⟨y, mem_pairs.2 ⟨by unfold alwR; rw [if_pos hc]; exact h1, h2⟩, h3.symm⟩
end Go.Proofs.YtepcnfnmphgccaaGreatDoor

/- Layer 6: contracts of Offers, Order. -/
namespace Go.Proofs.YtepcnfnmphgccaaGreatDoor
open Go.RowKit Suf Val Go.Maps Go.Sort

theorem delT_any (g : VOff → Option (VType × VOfg)) (b n : Nat) (w0 w : World) (h : Tab w0 w b g n) :
    Calls Tryz.prog 35 #[.map (some b), .func (.func 36) #[] #[]] w fun e w' => e = .returned (.tuple #[]) ∧ Tab w0 w' b (fun o => (g o).filter (fun y => y.2.opn)) n ∧ w.grownBy w' (some b) := by
  obtain ⟨f, h1, h2⟩ := h
  refine (delF_any f b n w h1 (fun o v ho hv => ?_)).mono ?_
  · rcases h2 o ho with ⟨_, e2⟩ | ⟨y, z, _, e2, u, e3, hu⟩
    · rw [hv] at e2; cases e2
    · obtain ⟨ua, uc, rfl⟩ := hu.val
      rw [hv] at e2
      rw [Option.some.inj e2, e3]
      exact ⟨_, _, _, _, ua, _, uc, rfl⟩
  · rintro e w' ⟨rfl, g1, g2⟩
    refine ⟨rfl, ⟨_, g1, fun o ho => ?_⟩, g2⟩
    show OptRel (RowIs w0) ((g o).filter (fun y => y.2.opn)) ((f o).filter openV)
    rcases h2 o ho with ⟨e1, e2⟩ | ⟨y, z, e1, e2, u, e3, hu⟩
    · exact Or.inl ⟨by rw [e1]; rfl, by rw [e2]; rfl⟩
    · have hop : openV z = y.2.opn := by
        obtain ⟨ua, uc, rfl⟩ := hu.val
        rw [e3]; rfl
      rw [e1, e2, Option.filter_some, Option.filter_some, hop]
      by_cases hb : y.2.opn = true
      · rw [if_pos hb, if_pos hb]
        exact Or.inr ⟨_, _, rfl, rfl, u, e3, hu⟩
      · rw [if_neg hb, if_neg hb]
        exact Or.inl ⟨rfl, rfl⟩
theorem find_short {w : World} {v : Value} {l : List VType} (hv : Lst typK w v l) {o : VOff} (h : (findR l o).isSome = true) : okO o := by
  obtain ⟨y, hy⟩ := Option.isSome_iff_exists.1 h
  obtain ⟨_, h1, h2, h3⟩ := find_key hy
  rw [h3]; exact typ_short hv h1 h2
theorem isSome_filter {α : Type} {p : α → Bool} {x : Option α} (h : (x.filter p).isSome = true) : x.isSome = true := by
  cases x with
  | none => exact h
  | some y => rfl
theorem offers_out {w : World} {v : Value} {ts : List VType} (hv : Lst typK w v ts) {l : List VOff} (hs : Srt (aheadO (prF (fun o => (findR ts o).filter (fun y => y.2.opn)))) l) (hm : ∀ o, o ∈ l ↔ okO o ∧ ((findR ts o).filter (fun y => y.2.opn)).isSome = true) : l = offersR ts := by
  refine offers_is (srt_to hs fun o ho => ?_) (fun o => (hm o).trans ⟨fun h => h.2, fun h => ⟨find_short hv (isSome_filter h), h⟩⟩)
  have h := ((hm o).1 ho).2
  obtain ⟨y, hy⟩ := Option.isSome_iff_exists.1 h
  have hf : findR ts o = some y := by
    cases hf : findR ts o with
    | none => rw [hf] at hy; cases hy
    | some z =>
      rw [hf, Option.filter_some] at hy
      split at hy
      · exact hy
      · cases hy
  unfold prF
  simp only [hy]
  exact (price_of hf).symm
theorem order_out {w : World} {v : Value} {ts : List VType} (hv : Lst typK w v ts) {l2 l : List VOff} (hs : Srt (aheadO (prF (fun o => if o ∈ l2 then findR ts o else none))) l) (hm : ∀ o, o ∈ l ↔ okO o ∧ (if o ∈ l2 then findR ts o else none).isSome = true) : l = orderR ts l2 := by
  refine order_some (srt_to hs fun o ho => ?_) (fun o => (hm o).trans ⟨fun h => ?_, fun h => ⟨find_short hv h.2, by rw [if_pos h.1]; exact h.2⟩⟩)
  · have h := ((hm o).1 ho).2
    by_cases e : o ∈ l2
    · rw [if_pos e] at h
      obtain ⟨y, hy⟩ := Option.isSome_iff_exists.1 h
      unfold prF
      simp only [if_pos e, hy]
      exact (price_of hy).symm
    · rw [if_neg e] at h; cases h
  · by_cases e : o ∈ l2
    · have h2 := h.2
      rw [if_pos e] at h2
      exact ⟨e, h2⟩
    · have h2 := h.2
      rw [if_neg e] at h2; cases h2
theorem ordPost.up {w w1 : World} {l : List VOff} {e : Ending} {w' : World} (h : ordPost w1 l e w') (hb : Below w.heap.size w w1) : ordPost w l e w' := by
  obtain ⟨v, rfl, h1, h2⟩ := h
  exact ⟨v, rfl, h1.mono hb.size, chain hb h2⟩
set_option maxHeartbeats 4000000 in
theorem pOffers_any (v : Value) (l : List VType) (w : World) (hL : Laid w) (hv : Lst typK w v l) :
    Calls Tryz.prog 20 #[v] w fun e w' => ordPost w (offersR l) e w' := by
  have cal := hide (pallowed_any v l w hL hv)
  have hA := hide (alw_lst hv)
  have hok := cat_ok (alw_ok l)
  have ctab : Hid (∀ w1, Below w.heap.size w w1 → Calls Tryz.prog 33 #[alwV v l] w1 fun e w' => (e = .returned (.map (some w1.heap.size))) ∧ Tab w w' w1.heap.size (findR l) 72 ∧ Below w1.heap.size w1 w') := fun w1 hb => by
    refine (ptable_any _ (alwR l) w w1 (unhide hA) hb hok.2.1 hok.1).mono ?_
    rintro e w' ⟨rfl, ht, h2⟩
    exact ⟨rfl, ht.congr (fun o _ => tab_alw l o), h2⟩
  have cord : Hid (∀ (w3 : World) (b : Nat), Tab w w3 b (fun o => (findR l o).filter (fun y => y.2.opn)) 72 → Calls Tryz.prog 37 #[.map (some b)] w3 fun e w' => ordPost w3 (offersR l) e w') := fun w3 b ht =>
    orderedT_any _ b 72 w w3 ht (keysS l) (keysS_len l) (fun o _ h => keysS_cov (isSome_filter h)) _ (fun l' hs hm => offers_out hv hs hm)
  obtain ⟨u, hu⟩ : ∃ u, u = alwV v l := ⟨_, rfl⟩
  rw [← hu] at cal ctab hA
  obtain ⟨ua, uc, rfl⟩ := (unhide hA).val
  obtain ⟨m, hm⟩ : ∃ m, m = (alwR l).length := ⟨_, rfl⟩
  rw [← hm] at cal ctab
  obtain ⟨a, c, rfl⟩ := hv.val
  clear hL hv hA hok hu hm
  obtain ⟨n, hn⟩ : ∃ n, n = l.length := ⟨_, rfl⟩
  rw [← hn] at cal ⊢
  clear hn
  obtain ⟨R, hR⟩ : ∃ R, R = offersR l := ⟨_, rfl⟩
  rw [← hR] at cord ⊢
  clear hR
  obtain ⟨PP, hPP⟩ : ∃ P, P = ordPost w R := ⟨_, rfl⟩
  show Calls _ _ _ _ (fun e w' => ordPost w R e w')
  rw [← hPP]
  have HPP := hide hPP
  clear hPP
  go_enter Tryz.func20, Tryz.ntmps20
  go_wp2_with fail
  refine (unhide cal).mono ?_
  rintro e w1 ⟨rfl, hw1⟩
  have B1 := hide hw1
  have c1 := hide (unhide ctab w1 hw1)
  clear hw1 cal ctab
  go_wp2_with fail
  refine (unhide c1).mono ?_
  rintro e w2 ⟨rfl, ht2, hw2⟩
  have c2 := hide (delT_any _ _ _ _ _ ht2)
  have B2 := hide (chain (unhide B1) hw2)
  have hle : w.heap.size ≤ w1.heap.size := (unhide B1).size
  clear ht2 hw2 c1
  obtain ⟨b, hb⟩ : ∃ b, b = w1.heap.size := ⟨_, rfl⟩
  rw [← hb] at c2 hle ⊢
  clear hb
  go_wp2_with fail
  refine (unhide c2).mono ?_
  rintro e w3 ⟨rfl, ht3, hg3⟩
  have B3 := hide (grown_bel6 (unhide B2) hg3 hle)
  have c3 := hide (unhide cord w3 b ht3)
  clear ht3 hg3 c2 cord B1 B2
  go_wp2_with fail
  refine (unhide c3).mono ?_
  rintro e w4 hp
  have H := hide (ordPost.up hp (unhide B3))
  obtain ⟨va, rfl, hown, _⟩ := hp
  obtain ⟨xa, xc, rfl⟩ := hown.val
  clear hown c3
  go_wp2_with fail
  show PP _ _
  rw [unhide HPP]
  exact unhide H

theorem five_row_eq {y : VType × VOfg} {a1 a2 p : Int} {q : Bool} {u : Value} {ok : Bool} (h : Five (some y) a1 a2 p q u ok) : Value.agg #[.int .i64 a1, .int .i64 a2, .int .i64 p, .bool q, u] = rowV y u := by
  obtain ⟨h1, h2, h3, h4, _⟩ := h
  rw [h1, h2, h3, h4]; rfl
theorem off_short {w : World} {v : Value} {l : List VOff} (h : Lst offK w v l) : ∀ o ∈ l, okO o := fun o ho => by
  obtain ⟨a, c, rfl⟩ := h.val
  obtain ⟨j, hj, e⟩ := List.getElem_of_mem ho
  obtain ⟨b, ob, _, hat⟩ := h.at hj
  rw [e] at hat
  obtain ⟨⟨_, s0⟩, ⟨_, s1⟩, _, s2⟩ := off_at.1 hat
  exact ⟨s0, s1, s2⟩
theorem take_mem {l : List VOff} {k : Nat} (h : k < l.length) (g : VOff → Option (VType × VOfg)) (x : VOff) : (if x ∈ l.take (k + 1) then g x else none) = if l[k] = x then g x else if x ∈ l.take k then g x else none := by
  rw [take_at6 l k h]
  by_cases e : l[k] = x
  · rw [if_pos e, if_pos (List.mem_append.2 (Or.inr (by rw [e]; exact List.mem_singleton.2 rfl)))]
  · rw [if_neg e]
    by_cases h2 : x ∈ l.take k
    · rw [if_pos h2, if_pos (List.mem_append.2 (Or.inl h2))]
    · rw [if_neg h2, if_neg (by
        intro hx
        rcases List.mem_append.1 hx with hx | hx
        · exact h2 hx
        · rw [List.mem_singleton] at hx; exact e hx.symm)]
set_option maxRecDepth 100000 in
set_option maxHeartbeats 16000000 in
theorem pOrder_any (v : Value) (l : List VType) (v2 : Value) (l2 : List VOff) (w : World) (hL : Laid w) (hv : Lst typK w v l) (hv2 : Lst offK w v2 l2) :
    Calls Tryz.prog 21 #[v, v2] w fun e w' => ordPost w (orderR l l2) e w' := by
  have cal := hide (pallowed_any v l w hL hv)
  have hA := hide (alw_lst hv)
  have hok := cat_ok (alw_ok l)
  have ctab : Hid (∀ w1, Below w.heap.size w w1 → Calls Tryz.prog 33 #[alwV v l] w1 fun e w' => (e = .returned (.map (some w1.heap.size))) ∧ Tab w w' w1.heap.size (findR l) 72 ∧ Below w1.heap.size w1 w') := fun w1 hb => by
    refine (ptable_any _ (alwR l) w w1 (unhide hA) hb hok.2.1 hok.1).mono ?_
    rintro e w' ⟨rfl, ht, h2⟩
    exact ⟨rfl, ht.congr (fun o _ => tab_alw l o), h2⟩
  have cord : Hid (∀ (w3 : World) (b n : Nat), Tab w w3 b (fun o => if o ∈ l2 then findR l o else none) n → Calls Tryz.prog 37 #[.map (some b)] w3 fun e w' => ordPost w3 (orderR l l2) e w') := fun w3 b n ht =>
    orderedT_any _ b n w w3 ht (keysS l) (keysS_len l) (fun o _ h => keysS_cov (by by_cases e : o ∈ l2; rw [if_pos e] at h; exact h; rw [if_neg e] at h; cases h)) _ (fun l' hs hm => order_out hv hs hm)
  obtain ⟨u, hu⟩ : ∃ u, u = alwV v l := ⟨_, rfl⟩
  rw [← hu] at cal ctab hA
  obtain ⟨ua, uc, rfl⟩ := (unhide hA).val
  obtain ⟨m, hm⟩ : ∃ m, m = (alwR l).length := ⟨_, rfl⟩
  rw [← hm] at cal ctab
  obtain ⟨a, c, rfl⟩ := hv.val
  have HV2 := hide hv2
  have HS2 := hide (off_short hv2)
  have hlen2 := hv2.len
  obtain ⟨a2, c2, rfl⟩ := hv2.val
  clear hL hv hA hok hu hm hv2
  obtain ⟨n, hn⟩ : ∃ n, n = l.length := ⟨_, rfl⟩
  rw [← hn] at cal ⊢
  clear hn
  obtain ⟨N, hN⟩ : ∃ N, N = l2.length := ⟨_, rfl⟩
  rw [← hN] at hlen2 HV2 ⊢
  have HN := hide hN
  clear hN
  obtain ⟨R, hR⟩ : ∃ R, R = orderR l l2 := ⟨_, rfl⟩
  rw [← hR] at cord ⊢
  clear hR
  obtain ⟨PP, hPP⟩ : ∃ P, P = ordPost w R := ⟨_, rfl⟩
  show Calls _ _ _ _ (fun e w' => ordPost w R e w')
  rw [← hPP]
  have HPP := hide hPP
  clear hPP
  have hmm := @run_makeMap Tryz.prog
  go_enter Tryz.func21, Tryz.ntmps21
  go_wp2_with fail
  refine (unhide cal).mono ?_
  rintro e w1 ⟨rfl, hw1⟩
  have B1 := hide hw1
  have c1 := hide (unhide ctab w1 hw1)
  clear hw1 cal ctab
  go_wp2_with fail
  refine (unhide c1).mono ?_
  rintro e w2 ⟨rfl, ht2, hw2⟩
  have B2 := hide (chain (unhide B1) hw2)
  have T2 := hide ht2
  have hlt : w1.heap.size < w2.heap.size := ht2.lt
  have hle : w.heap.size ≤ w1.heap.size := (unhide B1).size
  clear ht2 hw2 c1 B1
  obtain ⟨b, hb⟩ : ∃ b, b = w1.heap.size := ⟨_, rfl⟩
  rw [← hb] at hle hlt T2 ⊢
  clear hb
  go_wp2_with fail
  clear hmm
  go_loopw [17] (fun i W => ∃ k : Nat, k ≤ N ∧ i = .int .i64 k ∧ Hid (Tab w W b (findR l) 72) ∧ Hid (Tab w W w2.heap.size (fun o => if o ∈ l2.take k then findR l o else none) k) ∧ Hid (Below w.heap.size w W)) (fun i _ => N - (intOf i).toNat)
  case atStart => exact ⟨0, Nat.zero_le _, rfl, (unhide T2).below (boxb _), (tab_new w w2).congr (fun _ _ => by simp), chain (unhide B2) (boxb _)⟩
  case round =>
    obtain ⟨k, hk, rfl, htab, hond, hbel⟩ := hrel
    by_cases hltk : k < N
    · have hlk : k < l2.length := by rw [← unhide HN]; exact hltk
      obtain ⟨bb, ob, rfl, hat⟩ := ((unhide HV2).below (unhide hbel)).at hlk
      have htk := hide (take_mem hlk (findR l))
      have hso := hide (unhide HS2 _ (List.getElem_mem hlk))
      obtain ⟨o, ho⟩ : ∃ o, o = l2[k] := ⟨_, rfl⟩
      rw [← ho] at hat htk hso
      obtain ⟨⟨h0, _⟩, ⟨h1, _⟩, h2, _⟩ := off_at.1 hat
      rw [show offK.size = 3 from rfl] at h0 h1 h2
      clear ho hlk hat
      have B3 : Hid (Below wr.heap.size wr (wr.alloc (.cells #[.string (bytesT o.1), .string (bytesT o.2.1), .string (bytesT o.2.2)] 24))) := boxb _
      have hT3 := hide ((unhide htab).below (unhide B3))
      obtain ⟨a1, a2', p, q, ua', un', uc', ok, hfv, hlb, hrun⟩ := look5 (unhide hT3) (unhide hso)
      have HF := hide hfv
      have HL := hide hlb
      have hsA : offA o = .agg #[.string (bytesT o.1), .string (bytesT o.2.1), .string (bytesT o.2.2)] := rfl
      rw [hsA] at hrun
      clear hfv hlb hsA
      have BR : Hid (Below wr.heap.size wr ((wr.alloc (.cells #[.string (bytesT o.1), .string (bytesT o.2.1), .string (bytesT o.2.2)] 24)).alloc (.cells #[.int .i64 a1, .int .i64 a2', .int .i64 p, .bool q, .slice ua' un' uc'] 61))) := chain (boxb _) (boxb _)
      have e0 := cell_box6 (.cells #[.int .i64 a1, .int .i64 a2', .int .i64 p, .bool q, .slice ua' un' uc'] 61) (show (wr.alloc (.cells #[.string (bytesT o.1), .string (bytesT o.2.1), .string (bytesT o.2.2)] 24)).cell? ⟨wr.heap.size, 0, none⟩ = some (.string (bytesT o.1)) by simp [go_sem])
      have e1 := cell_box6 (.cells #[.int .i64 a1, .int .i64 a2', .int .i64 p, .bool q, .slice ua' un' uc'] 61) (show (wr.alloc (.cells #[.string (bytesT o.1), .string (bytesT o.2.1), .string (bytesT o.2.2)] 24)).cell? ⟨wr.heap.size, 1, none⟩ = some (.string (bytesT o.2.1)) by simp [go_sem])
      have e2 := cell_box6 (.cells #[.int .i64 a1, .int .i64 a2', .int .i64 p, .bool q, .slice ua' un' uc'] 61) (show (wr.alloc (.cells #[.string (bytesT o.1), .string (bytesT o.2.1), .string (bytesT o.2.2)] 24)).cell? ⟨wr.heap.size, 2, none⟩ = some (.string (bytesT o.2.2)) by simp [go_sem])
      have TA := hide ((unhide htab).below (unhide BR))
      have TB := hide ((unhide hond).below (unhide BR))
      have BB := hide (chain (unhide hbel) (unhide BR))
      obtain ⟨RR, hRR⟩ : ∃ RR, RR = findR l o := ⟨_, rfl⟩
      rw [← hRR] at HF HL
      clear htab hond hT3 B3
      cases RR with
      | none =>
        obtain rfl := five_none (unhide HF)
        have TN : Hid (Tab w ((wr.alloc (.cells #[.string (bytesT o.1), .string (bytesT o.2.1), .string (bytesT o.2.2)] 24)).alloc (.cells #[.int .i64 a1, .int .i64 a2', .int .i64 p, .bool q, .slice ua' un' uc'] 61)) w2.heap.size (fun x => if x ∈ l2.take (k + 1) then findR l x else none) (k + 1)) := ((unhide TB).mono (Nat.le_succ _)).congr (fun x _ => by
          rw [unhide htk x]
          by_cases e : o = x
          · rw [if_pos e, ← e]
            have hn : findR l o = none := hRR.symm
            rw [hn]
            split <;> rfl
          · rw [if_neg e])
        clear hRR HF HL htk TB
        go_wp2_with fail
        exact ⟨⟨k + 1, by omega, by go_num, TA, TN, BB⟩, by simp [intOf]; omega⟩
      | some y =>
        obtain rfl := five_some (unhide HF)
        have hlab := hide (unhide HL y rfl)
        have hrow := hide (five_row_eq (unhide HF))
        have hcg : Hid (∀ x, (if o = x then some y else if x ∈ l2.take k then findR l x else none) = if x ∈ l2.take (k + 1) then findR l x else none) := fun x => by
          rw [unhide htk x]
          by_cases e : o = x
          · rw [if_pos e, if_pos e, ← e]; exact hRR
          · rw [if_neg e, if_neg e]
        have hk44 : Hid (k < maxLen) := by show _ < _; unfold maxLen; omega
        have hle2 : Hid (w.heap.size ≤ w2.heap.size) := (unhide B2).size
        clear hRR HF HL htk
        go_wp2_with (at_mapUpdate; refine wpList_tab rfl _ _ _ _ rfl 61 Tryz.underlying76 (unhide TB) (unhide hk44) rfl o rfl (unhide hso) y (.slice ua' un' uc') (unhide hrow) (unhide hlab) ?_; intro w4 ht4 hg4; have TN := hide (ht4.congr (fun x _ => unhide hcg x)); have TA4 := hide ((unhide TA).kept hg4 (fun e => absurd (Option.some.inj e) (Nat.ne_of_lt hlt))); have BN := hide (grown_bel6 (unhide BB) hg4 (unhide hle2)); clear ht4 hg4)
        go_roundw
        case rel => exact ⟨k + 1, by omega, by go_num, TA4, TN, BN⟩
        case measure => simp [intOf]; omega
    · obtain rfl : k = N := by omega
      have hT : Hid (Tab w wr w2.heap.size (fun o => if o ∈ l2 then findR l o else none) k) := by
        have h := unhide hond
        rw [List.take_of_length_le (l := l2) (by rw [← unhide HN]; exact Nat.le_refl _)] at h
        exact h
      have c3 := hide (unhide cord wr _ _ (unhide hT))
      have BE := hbel
      clear hT cord hond htab hbel
      go_wp2_with fail
      refine (unhide c3).mono ?_
      rintro e w4 hp
      have H := hide (ordPost.up hp (unhide BE))
      obtain ⟨va, rfl, hown, _⟩ := hp
      obtain ⟨xa, xc, rfl⟩ := hown.val
      clear hown c3
      go_wp2_with fail
      show PP _ _
      rw [unhide HPP]
      exact unhide H
end Go.Proofs.YtepcnfnmphgccaaGreatDoor
