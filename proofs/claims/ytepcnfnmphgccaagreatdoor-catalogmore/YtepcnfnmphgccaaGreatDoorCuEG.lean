/- Layer 6: contract of find: what is said of an offer. -/
import Derived.Test.YtepcnfnmphgccaaGreatDoorCuBG
namespace Go.Proofs.YtepcnfnmphgccaaGreatDoor
open Go.RowKit Suf Val Go.Maps

def put5 (w : World) (B : Nat) (a b c d e : Value) : World := ((((w.setCell ⟨B, 0, none⟩ a).setCell ⟨B, 1, none⟩ b).setCell ⟨B, 2, none⟩ c).setCell ⟨B, 3, none⟩ d).setCell ⟨B, 4, none⟩ e
theorem put5_below {w W : World} {base B : Nat} (h : Below base w W) (hB : base ≤ B) (a b c d e : Value) : Below base w (put5 W B a b c d e) :=
  ((((h.setCell (p := ⟨B, 0, none⟩) hB a).setCell (p := ⟨B, 1, none⟩) hB b).setCell (p := ⟨B, 2, none⟩) hB c).setCell (p := ⟨B, 3, none⟩) hB d).setCell (p := ⟨B, 4, none⟩) hB e
/-- Where a row that is told will lie. -/
structure RSlot (W : World) (B : Nat) : Prop where
  c0 : W.cell? ⟨B, 0, none⟩ = some (.int .i64 0)
  c1 : W.cell? ⟨B, 1, none⟩ = some (.int .i64 0)
  c2 : W.cell? ⟨B, 2, none⟩ = some (.int .i64 0)
  c3 : W.cell? ⟨B, 3, none⟩ = some (.bool false)
  c4 : W.cell? ⟨B, 4, none⟩ = some (.slice none 0 0)
  fr : ∀ o, W.frozen? ⟨B, o, none⟩ = false
  lt : B < W.heap.size
theorem RSlot.below {W W' : World} {B : Nat} (h : RSlot W B) (hb : Below W.heap.size W W') : RSlot W' B :=
  ⟨cell_kept hb h.c0, cell_kept hb h.c1, cell_kept hb h.c2, cell_kept hb h.c3, cell_kept hb h.c4, fun o => by rw [hb.frozen (p := ⟨B, o, none⟩) h.lt]; exact h.fr o, Nat.lt_of_lt_of_le h.lt hb.size⟩
theorem rslot_new (w : World) : RSlot (w.alloc (.cells #[.int .i64 0, .int .i64 0, .int .i64 0, .bool false, .slice none 0 0] 61)) w.heap.size :=
  ⟨by simp [go_sem], by simp [go_sem], by simp [go_sem], by simp [go_sem], by simp [go_sem], fun o => by simp [go_sem], by simp⟩

/-- What find tells; labels lie in w. -/
def FindP (w : World) (l : List VType) (o : VOff) (e : Ending) : Prop :=
  (findR l o = none ∧ e = .returned (.tuple #[zeroRow, .bool false])) ∨ ∃ p u, findR l o = some p ∧ e = .returned (.tuple #[rowV p u, .bool true]) ∧ Lst labK w u p.1.labs
theorem idx_cases {α : Type} (p : α → Bool) (l : List α) : (l.any p = false ∧ idxI p l = -1) ∨ ∃ k, ∃ h : k < l.length, p l[k] = true ∧ idxI p l = k := by
  cases h : l.any p with
  | false => exact Or.inl ⟨rfl, idx_none h⟩
  | true =>
    refine Or.inr ?_
    unfold idxI
    cases hf : l.findIdx? p with
    | some i =>
      obtain ⟨h1, h2, _⟩ := List.findIdx?_eq_some_iff_getElem.1 hf
      exact ⟨i, h1, h2, rfl⟩
    | none =>
      obtain ⟨x, hx, hp⟩ := List.any_eq_true.1 h
      have := List.findIdx?_eq_none_iff.1 hf x hx
      rw [hp] at this
      cases this
/-- Put together: what stands in the result's cells is told. -/
theorem lookT {w0 W : World} {b n : Nat} {g : VOff → Option (VType × VOfg)} (h : Tab w0 W b g n) {o : VOff} (ho : okO o) {p : VType × VOfg} (hg : g o = some p) : ∃ u, Lst labK w0 u p.1.labs ∧ (Instr.lookup 76 (.map (some b)) (offA o) true).run Tryz.prog W = .ok (.tuple #[rowV p u, .bool true]) W := by
  obtain ⟨f, h1, h2⟩ := h
  obtain ⟨v, hv, u, rfl, hu⟩ := (h2 o ho).some_of hg
  refine ⟨u, hu, ?_⟩
  have := h1.run_ok (T := offT) Tryz.underlying76 (zeroR W) o ho
  rw [hv] at this
  exact this
theorem lookN {w0 W : World} {b n : Nat} {g : VOff → Option (VType × VOfg)} (h : Tab w0 W b g n) {o : VOff} (ho : okO o) (hg : g o = none) : (Instr.lookup 76 (.map (some b)) (offA o) true).run Tryz.prog W = .ok (.tuple #[zeroRow, .bool false]) W := by
  obtain ⟨f, h1, h2⟩ := h
  have hv := (h2 o ho).none_of hg
  have := h1.run_ok (T := offT) Tryz.underlying76 (zeroR W) o ho
  rw [hv] at this
  exact this
/-- What a lookup tells, as five values. -/
def Five (g : Option (VType × VOfg)) (a1 a2 p : Int) (q : Bool) (u : Value) (ok : Bool) : Prop := match g with
  | none => a1 = 0 ∧ a2 = 0 ∧ p = 0 ∧ q = false ∧ u = .slice none 0 0 ∧ ok = false
  | some y => a1 = y.1.cap.1 - y.1.ovr.1 ∧ a2 = y.1.cap.2 - y.1.ovr.2 ∧ p = y.2.price ∧ q = y.2.opn ∧ ok = true
theorem look5 {w0 W : World} {b n : Nat} {g : VOff → Option (VType × VOfg)} (h : Tab w0 W b g n) {o : VOff} (ho : okO o) : ∃ a1 a2 p q ua un uc ok, Five (g o) a1 a2 p q (.slice ua un uc) ok ∧ (∀ y, g o = some y → Lst labK w0 (.slice ua un uc) y.1.labs) ∧ (Instr.lookup 76 (.map (some b)) (offA o) true).run Tryz.prog W = .ok (.tuple #[.agg #[.int .i64 a1, .int .i64 a2, .int .i64 p, .bool q, .slice ua un uc], .bool ok]) W := by
  cases hg : g o with
  | none => exact ⟨0, 0, 0, false, none, 0, 0, false, ⟨rfl, rfl, rfl, rfl, rfl, rfl⟩, fun y e => (by cases e), lookN h ho hg⟩
  | some y =>
    obtain ⟨u, hu, hr⟩ := lookT h ho hg
    obtain ⟨ua, uc, rfl⟩ := hu.val
    exact ⟨_, _, _, _, ua, y.1.labs.length, uc, true, ⟨rfl, rfl, rfl, rfl, rfl⟩, fun z e => (by cases e; exact hu), hr⟩
theorem look5_later {W : World} {b : Nat} {o : VOff} {r : Value} {w0 : World} {n : Nat} {g : VOff → Option (VType × VOfg)} (h : Tab w0 W b g n) (ho : okO o) (hr : (Instr.lookup 76 (.map (some b)) (offA o) true).run Tryz.prog W = .ok r W) {W' : World} (hb : Below W.heap.size W W') : (Instr.lookup 76 (.map (some b)) (offA o) true).run Tryz.prog W' = .ok r W' := by
  obtain ⟨f, h1, h2⟩ := h
  have e1 := h1.run_ok (T := offT) Tryz.underlying76 (zeroR W) o ho
  have e2 := (h1.below hb).run_ok (T := offT) Tryz.underlying76 (zeroR W') o ho
  have e3 : Result.ok r W = Result.ok (.tuple #[(f o).getD zeroRow, .bool (f o).isSome]) W := hr.symm.trans e1
  have e4 := (Result.ok.inj e3).1
  rw [e4]; exact e2

theorem slice_one (b ob m uc k : Nat) (hk : k < uc) (V : World) : (Instr.slice 22 (.slice (some ⟨b, ob, none⟩) m uc) (some (.int .i64 (k : Int))) (some (.int .i64 ((k : Int) + 1))) none).run Tryz.prog V = .ok (.slice (some ⟨b, ob + k * 7, none⟩) 1 (uc - k)) V := by
  have he : Tryz.prog.elem 22 = 57 := by kernel_rfl
  have ht : Tryz.prog.underlying 22 = some (.slice (Tryz.prog.elem 22)) := by rw [he]; exact Tryz.underlying22
  rw [run_slice_lh (ht := ht) (h0 := by omega) (h1 := by omega) (h2 := by omega), he]
  rw [show (Go.sizeOf 57).run Tryz.prog V = .ok 7 V by kernel_rfl]
  simp only [Result.andThen, sliced]
  rw [if_neg (by omega), show ((k : Int) + 1).toNat = k + 1 by omega, Int.toNat_natCast, show k + 1 - k = 1 by omega]
  show Result.ok (Value.slice (some ((⟨b, ob, none⟩ : Addr).add (k * 7))) 1 (uc - k)) V = _
  rw [gadd]
theorem slice_one_at (b ob m uc k : Nat) (hk : k < uc) (V : World) : (Instr.sliceAt 22 (.slice (some ⟨b, ob, none⟩) m uc) (some (.int .i64 (k : Int))) (some (.int .i64 ((k : Int) + 1))) none).run Tryz.prog V = .ok (.slice (some ⟨b, ob + k * 7, none⟩) 1 (uc - k)) V := by
  have he : Tryz.prog.elem 22 = 57 := by kernel_rfl
  have ht : Tryz.prog.underlying 22 = some (.slice (Tryz.prog.elem 22)) := by rw [he]; exact Tryz.underlying22
  rw [run_sliceAt_slice (h := ht)]
  exact slice_one b ob m uc k hk V
/-- What find tells of an offer of which R is said. -/
def findPost (w : World) (R : Option (VType × VOfg)) (e : Ending) (w' : World) : Prop :=
  (∃ a1 a2 p q ua un uc ok, e = .returned (.tuple #[.agg #[.int .i64 a1, .int .i64 a2, .int .i64 p, .bool q, .slice ua un uc], .bool ok]) ∧ Five R a1 a2 p q (.slice ua un uc) ok ∧ (∀ y, R = some y → Lst labK w (.slice ua un uc) y.1.labs)) ∧ Below w.heap.size w w'
set_option maxRecDepth 100000 in
set_option maxHeartbeats 16000000 in
theorem pfind_any (v : Value) (l : List VType) (o : VOff) (w : World) (hL : Laid w) (hv : Lst typK w v l) (ho : okO o) :
    Calls Tryz.prog 27 #[v, offA o] w fun e w' => findPost w (findR l o) e w' := by
  obtain ⟨a, c, rfl⟩ := hv.val
  obtain ⟨W1, hW1⟩ : ∃ W, W = (w.alloc (.cells #[.string (bytesT o.1), .string (bytesT o.2.1), .string (bytesT o.2.2)] 24)).alloc (.cells #[.int .i64 0, .int .i64 0, .int .i64 0, .bool false, .slice none 0 0] 61) := ⟨_, rfl⟩
  have B1 : Hid (Below w.heap.size w W1) := by rw [hW1]; exact chain (boxb _) (boxb _)
  have S1 : Hid (RSlot W1 (w.heap.size + 1)) := by
    rw [hW1]
    have := rslot_new (w.alloc (.cells #[.string (bytesT o.1), .string (bytesT o.2.1), .string (bytesT o.2.2)] 24))
    rwa [World.size_alloc] at this
  have O1 : Hid (W1.cell? ⟨w.heap.size, 0, none⟩ = some (.string (bytesT o.1)) ∧ W1.cell? ⟨w.heap.size, 1, none⟩ = some (.string (bytesT o.2.1)) ∧ W1.cell? ⟨w.heap.size, 2, none⟩ = some (.string (bytesT o.2.2))) := by
    rw [hW1]
    exact ⟨cell_box6 _ (by simp [go_sem]), cell_box6 _ (by simp [go_sem]), cell_box6 _ (by simp [go_sem])⟩
  have GW := hide hW1
  clear hW1
  have cal := hide (pallowed_any _ l W1 (hL.below (unhide B1)) (hv.below (unhide B1)))
  have hu := alw_lst hv
  clear hL hv
  obtain ⟨L, hL⟩ : ∃ L, L = alwR l := ⟨_, rfl⟩
  rw [← hL] at hu
  have HLc : Hid (catR L = 0) := by rw [hL]; exact alw_ok l
  have HLf : Hid (∀ x, findR L x = findR l x) := by rw [hL]; exact find_alw l
  clear hL
  obtain ⟨ua, uc, hU⟩ := hu.val
  rw [hU] at cal hu
  clear hU
  obtain ⟨n, hn⟩ : ∃ n, n = l.length := ⟨_, rfl⟩
  rw [← hn] at cal ⊢
  clear hn
  obtain ⟨R, hR⟩ : ∃ R, R = findR l o := ⟨_, rfl⟩
  rw [← hR]
  have HR := hide hR
  clear hR
  obtain ⟨PP, hPP⟩ : ∃ P, P = findPost w R := ⟨_, rfl⟩
  show Calls _ _ _ _ (fun e w' => findPost w R e w')
  rw [← hPP]
  have HPP := hide hPP
  clear hPP
  have hsA : offA o = .agg #[.string (bytesT o.1), .string (bytesT o.2.1), .string (bytesT o.2.2)] := rfl
  have hcap := hu.cap.2
  have hlen := hu.len
  have HU := hide hu
  have HO := hide ho
  clear ho hu
  rw [hsA]
  clear hsA
  go_enter Tryz.func27, Tryz.ntmps27
  go_wp2_with fail
  rw [← unhide GW]
  refine (unhide cal).mono ?_
  rintro e w2 ⟨rfl, hw2⟩
  have B2 := hide (chain (unhide B1) hw2)
  have S2 := hide ((unhide S1).below hw2)
  have O2 := hide (And.intro (cell_kept hw2 (unhide O1).1) (And.intro (cell_kept hw2 (unhide O1).2.1) (cell_kept hw2 (unhide O1).2.2)))
  clear hw2 S1 O1 cal GW B1
  have cix := hide (index_typ 47 w.heap.size (fun t => t.name == o.1) _ L w2 ((unhide HU).below (unhide B2)) enters_fname fun W' x v1 v2 _ hW' => clos_fname x v1 v2 o.1 w.heap.size W' (cell_kept hW' (unhide O2).1))
  rcases idx_cases (fun t => t.name == o.1) L with ⟨hany, hidx⟩ | ⟨k, hk, hkp, hidx⟩
  · rw [hidx] at cix
    have hnone : Hid (R = none) := by show _ = _; rw [unhide HR, ← unhide HLf o]; exact find_no hany
    clear hany hidx HR
    go_wp2_with fail
    refine (unhide cix).mono ?_
    rintro e w3 ⟨rfl, hw3⟩
    have B3 := hide (chain (unhide B2) hw3)
    obtain ⟨c0, c1, c2, c3, c4, fr, lt⟩ := (unhide S2).below hw3
    clear hw3 S2 O2 cix
    go_wp2_with fail
    refine bodyPost_ret (v := .tuple #[.agg #[.int .i64 0, .int .i64 0, .int .i64 0, .bool false, .slice none 0 0], .bool false]) (by simp [results, Tryz.results27, go_sem, c0, c1, c2, c3, c4]) rfl ?_
    rw [unhide HPP]
    refine ⟨⟨0, 0, 0, false, none, 0, 0, false, rfl, ?_, ?_⟩, put5_below (unhide B3) (by omega) _ _ _ _ _⟩
    · rw [unhide hnone]; exact ⟨rfl, rfl, rfl, rfl, rfl, rfl⟩
    · intro y e
      rw [unhide hnone] at e; cases e
  · rw [hidx] at cix
    have hfk : Hid (findR [L[k]] o = R) := by
      show _ = _
      rw [unhide HR, ← unhide HLf o]
      exact find_one (unhide HLc) hk (by simpa using hkp)
    have h12 : L.length ≤ 12 := (cat_ok (unhide HLc)).1
    have hcat : Hid (catR [L[k]] = 0) := cat_one (type_in (unhide HLc) (List.getElem_mem hk))
    have hok : Hid (TypeOk L[k]) := (cat_ok (unhide HLc)).2.1 _ (List.getElem_mem hk)
    obtain ⟨b, ob, rfl, _⟩ := (unhide HU).at hk
    have hone : Hid (Lst typK w (.slice (some ⟨b, ob + k * 7, none⟩) 1 (uc - k)) [L[k]]) := by
      have h := ((unhide HU).drop (k := k) (Nat.le_of_lt hk)).take (k := 1) (by rw [List.length_drop]; omega)
      rw [List.drop_eq_getElem_cons hk] at h
      exact h
    obtain ⟨t, ht⟩ : ∃ t, t = L[k] := ⟨_, rfl⟩
    rw [← ht] at hfk hok hone hcat
    obtain ⟨m, hm⟩ : ∃ m, m = L.length := ⟨_, rfl⟩
    rw [← hm] at hcap h12 cix hk ⊢
    have HK := hide hk
    have HC := hide hcap
    have H12 := hide h12
    clear hlen hidx hkp ht hm HLc HLf HR HU hk hcap h12
    go_wp2_with fail
    refine (unhide cix).mono ?_
    rintro e w3 ⟨rfl, hw3⟩
    have B3 := hide (chain (unhide B2) hw3)
    have S3 := hide ((unhide S2).below hw3)
    have O3 := hide (And.intro (cell_kept hw3 (unhide O2).1) (And.intro (cell_kept hw3 (unhide O2).2.1) (cell_kept hw3 (unhide O2).2.2)))
    clear hw3 S2 O2 cix B2
    have hk := unhide HK
    have hcap := unhide HC
    have h12 := unhide H12
    have hb1 : decide ((k : Int) < 0) = false := by simp
    have hs1 := slice_one b ob m uc k (by omega)
    have hs2 := slice_one_at b ob m uc k (by omega)
    have hne : ¬ uc = k := by omega
    have hwr : IntKind.i64.wrap ((k : Int) + 1) = (k : Int) + 1 := by simp [IntKind.wrap, IntKind.bits, IntKind.signed]; omega
    have hto : ((k : Int) + 1).toNat = k + 1 := by omega
    have hto2 : k + 1 - k = 1 := by omega
    have i0 : (0 : Int) ≤ (k : Int) := by omega
    have i1 : (k : Int) ≤ (k : Int) + 1 := by omega
    have i2 : (k : Int) + 1 ≤ (uc : Int) := by omega
    have kbel : Hid (∀ V V', (Hid (Below w3.heap.size w3 V) ∧ V.cell? ⟨w.heap.size, 0, none⟩ = some (.string (bytesT o.1)) ∧ V.cell? ⟨w.heap.size, 1, none⟩ = some (.string (bytesT o.2.1)) ∧ V.cell? ⟨w.heap.size, 2, none⟩ = some (.string (bytesT o.2.2))) → Below V.heap.size V V' → Hid (Below w3.heap.size w3 V') ∧ V'.cell? ⟨w.heap.size, 0, none⟩ = some (.string (bytesT o.1)) ∧ V'.cell? ⟨w.heap.size, 1, none⟩ = some (.string (bytesT o.2.1)) ∧ V'.cell? ⟨w.heap.size, 2, none⟩ = some (.string (bytesT o.2.2))) := fun V V' h hb => ⟨chain (unhide h.1) hb, cell_kept hb h.2.1, cell_kept hb h.2.2.1, cell_kept hb h.2.2.2⟩
    have kdrew : Hid (∀ V, (Hid (Below w3.heap.size w3 V) ∧ V.cell? ⟨w.heap.size, 0, none⟩ = some (.string (bytesT o.1)) ∧ V.cell? ⟨w.heap.size, 1, none⟩ = some (.string (bytesT o.2.1)) ∧ V.cell? ⟨w.heap.size, 2, none⟩ = some (.string (bytesT o.2.2))) → Hid (Below w3.heap.size w3 V.drew) ∧ V.drew.cell? ⟨w.heap.size, 0, none⟩ = some (.string (bytesT o.1)) ∧ V.drew.cell? ⟨w.heap.size, 1, none⟩ = some (.string (bytesT o.2.1)) ∧ V.drew.cell? ⟨w.heap.size, 2, none⟩ = some (.string (bytesT o.2.2))) := fun V h => unhide kbel _ _ h (below_drew6 V)
    have kalloc : Hid (∀ V o', (Hid (Below w3.heap.size w3 V) ∧ V.cell? ⟨w.heap.size, 0, none⟩ = some (.string (bytesT o.1)) ∧ V.cell? ⟨w.heap.size, 1, none⟩ = some (.string (bytesT o.2.1)) ∧ V.cell? ⟨w.heap.size, 2, none⟩ = some (.string (bytesT o.2.2))) → Hid (Below w3.heap.size w3 (V.alloc o')) ∧ (V.alloc o').cell? ⟨w.heap.size, 0, none⟩ = some (.string (bytesT o.1)) ∧ (V.alloc o').cell? ⟨w.heap.size, 1, none⟩ = some (.string (bytesT o.2.1)) ∧ (V.alloc o').cell? ⟨w.heap.size, 2, none⟩ = some (.string (bytesT o.2.2))) := fun V o' h => unhide kbel _ _ h (boxb o')
    have hS : Hid (Below w3.heap.size w3 w3) ∧ w3.cell? ⟨w.heap.size, 0, none⟩ = some (.string (bytesT o.1)) ∧ w3.cell? ⟨w.heap.size, 1, none⟩ = some (.string (bytesT o.2.1)) ∧ w3.cell? ⟨w.heap.size, 2, none⟩ = some (.string (bytesT o.2.2)) := ⟨Below.refl _ _, unhide O3⟩
    have kset : Hid (∀ V B2 i x, (Hid (Below w3.heap.size w3 V) ∧ V.cell? ⟨w.heap.size, 0, none⟩ = some (.string (bytesT o.1)) ∧ V.cell? ⟨w.heap.size, 1, none⟩ = some (.string (bytesT o.2.1)) ∧ V.cell? ⟨w.heap.size, 2, none⟩ = some (.string (bytesT o.2.2))) → w3.heap.size ≤ B2 → Hid (Below w3.heap.size w3 (V.setCell ⟨B2, i, none⟩ x)) ∧ (V.setCell ⟨B2, i, none⟩ x).cell? ⟨w.heap.size, 0, none⟩ = some (.string (bytesT o.1)) ∧ (V.setCell ⟨B2, i, none⟩ x).cell? ⟨w.heap.size, 1, none⟩ = some (.string (bytesT o.2.1)) ∧ (V.setCell ⟨B2, i, none⟩ x).cell? ⟨w.heap.size, 2, none⟩ = some (.string (bytesT o.2.2))) := fun V B2 i x h hle => by
      have hb := (unhide h.1).setCell (p := ⟨B2, i, none⟩) hle x
      exact ⟨hb, cell_kept hb (unhide O3).1, cell_kept hb (unhide O3).2.1, cell_kept hb (unhide O3).2.2⟩
    have RS0 : Hid (RSlot (w3.alloc (.cells #[.int .i64 0, .int .i64 0, .int .i64 0, .bool false, .slice none 0 0] 61)) w3.heap.size) := rslot_new w3
    have ctab : Hid (∀ V, Hid (Below w3.heap.size w3 V) → Calls Tryz.prog 33 #[.slice (some ⟨b, ob + k * 7, none⟩) 1 (uc - k)] V fun e w' => ∃ B', (e = .returned (.map (some B')) ∧ Below V.heap.size V w') ∧ ∃ a1 a2 p q ua un uc ok, (Five R a1 a2 p q (.slice ua un uc) ok ∧ (∀ y, R = some y → Lst labK w (.slice ua un uc) y.1.labs)) ∧ ∀ V', Below w'.heap.size w' V' → (Instr.lookup 76 (.map (some B')) (.agg #[.string (bytesT o.1), .string (bytesT o.2.1), .string (bytesT o.2.2)]) true).run Tryz.prog V' = .ok (.tuple #[.agg #[.int .i64 a1, .int .i64 a2, .int .i64 p, .bool q, .slice ua un uc], .bool ok]) V') := fun V hV => by
      refine (ptable_any _ [t] w V (unhide hone) (chain (unhide B3) (unhide hV)) (fun t' ht' => by rw [List.mem_singleton] at ht'; rw [ht']; exact unhide hok) (by simp)).mono ?_
      rintro e w' ⟨he, htab, hb⟩
      obtain ⟨a1, a2, p, q, ua', un', uc', ok, h1, h2, h3⟩ := look5 htab (unhide HO)
      have hfr : tabP (pairsT [t]) o = R := by
        rw [← unhide hfk]
        exact tab_is (unhide hcat) o
      rw [hfr] at h1 h2
      exact ⟨_, ⟨he, hb⟩, a1, a2, p, q, ua', un', uc', ok, ⟨h1, h2⟩, fun V' hb' => look5_later htab (unhide HO) h3 hb'⟩
    clear hone hok hfk hcat HO
    go_wp2_with fail
    go_region_held3 (fun V => Hid (Below w3.heap.size w3 V) ∧ V.cell? ⟨w.heap.size, 0, none⟩ = some (.string (bytesT o.1)) ∧ V.cell? ⟨w.heap.size, 1, none⟩ = some (.string (bytesT o.2.1)) ∧ V.cell? ⟨w.heap.size, 2, none⟩ = some (.string (bytesT o.2.2)))
      (first | (with_reducible exact hS) | (with_reducible assumption) | (with_reducible refine unhide kset _ _ _ _ (unhide kset _ _ _ _ (unhide kset _ _ _ _ (unhide kset _ _ _ _ (unhide kset _ _ _ _ ?_ ?_) ?_) ?_) ?_) ?_; (first | (with_reducible assumption) | (with_reducible refine unhide kalloc _ _ ?_; with_reducible assumption)); all_goals (first | exact Nat.le_refl _ | exact hle9)) | (with_reducible refine unhide kdrew _ ?_; with_reducible assumption) | (with_reducible refine unhide kalloc _ _ ?_; with_reducible assumption) | (with_reducible refine unhide kdrew _ (unhide kalloc _ _ ?_); with_reducible assumption) | (with_reducible refine unhide kbel _ _ ?_ hw9; first | (with_reducible assumption) | (with_reducible refine unhide kdrew _ ?_; with_reducible assumption) | (with_reducible refine unhide kdrew _ (unhide kalloc _ _ ?_); with_reducible assumption)) | (with_reducible refine unhide kalloc _ _ (unhide kbel _ _ ?_ hw9); first | (with_reducible assumption) | (with_reducible refine unhide kdrew _ ?_; with_reducible assumption)))
      (first
        | (go_at_call 33; refine (unhide ctab _ ?_).mono ?_; (exact And.left ‹_›); rintro e w9 ⟨B', ⟨rfl, hw9⟩, a1, a2, p, q, ua', un', uc', ok, hfv, hlk⟩; have hl0 := hlk _ (Below.refl _ _); have rs : RSlot w9 w3.heap.size := RSlot.below ((unhide RS0).below (below_drew6 _)) hw9; obtain ⟨r0, r1, r2, r3, r4, rf, rl⟩ := rs; have hle9 : w3.heap.size ≤ w9.heap.size := Nat.le_of_lt rl)
        | (go_at_call 33; refine (unhide ctab _ ?_).mono ?_; (exact And.left ‹_›); rintro e w9 ⟨B', ⟨rfl, hw9⟩, a1, a2, p, q, ua', un', uc', ok, hfv, hlk⟩; have hl0 := hlk _ (Below.refl _ _); have hl1 := fun o' => hlk _ (boxb o'); have hle9 : w3.heap.size ≤ w9.heap.size := hw9.size))
    all_goals
      rename_i hH
      obtain ⟨c0, c1, c2, c3, c4, fr, lt⟩ := (unhide S3).below (unhide hH.1)
      have BF := hide (chain (unhide B3) (unhide hH.1))
      have HFV := hide hfv
      clear hfv hlk hH
      go_wp2_with fail
      refine bodyPost_ret (v := .tuple #[.agg #[.int .i64 a1, .int .i64 a2, .int .i64 p, .bool q, .slice ua' un' uc'], .bool ok]) (by simp [results, Tryz.results27, go_sem, c0, c1, c2, c3, c4]) rfl ?_
      rw [unhide HPP]
      exact ⟨⟨a1, a2, p, q, ua', un', uc', ok, rfl, unhide HFV⟩, put5_below (unhide BF) (by omega) _ _ _ _ _⟩
end Go.Proofs.YtepcnfnmphgccaaGreatDoor
