/- Layer 6: the keys of a map of offers, collected: maps.Keys, slices.AppendSeq, slices.Collect at this row. -/
import Derived.Test.YtepcnfnmphgccaaGreatDoorMpOffG
import Derived.Shelf.SlIter.Collect
namespace Go.Proofs.YtepcnfnmphgccaaGreatDoor
open Go.RowKit Go.Maps Go.Sort Go.Shelf Val

abbrev KO := { x : VOff // okO x }
def encO (x : KO) : Value := offA x.1
def encL (x : VOff) : List Value := [.string (bytesT x.1), .string (bytesT x.2.1), .string (bytesT x.2.2)]
def flatO (l : List VOff) : List Value := l.flatMap encL
theorem flatO_snoc (l : List VOff) (x : VOff) : flatO (l ++ [x]) = flatO l ++ encL x := by unfold flatO; rw [List.flatMap_append]; simp
theorem flatO_len (l : List VOff) : (flatO l).length = l.length * 3 := by
  unfold flatO
  induction l with
  | nil => rfl
  | cons x l ih => rw [List.flatMap_cons, List.length_append, ih, List.length_cons]; show 3 + _ = _; omega
theorem keyO_inv {v : Value} {l : Lit} (h : keyOf Tryz.prog 24 v = some l) (hk : ∃ x, okO x ∧ l = litO x) : ∃ x : KO, v = encO x ∧ l = litO x.1 := by
  obtain ⟨x, hx, rfl⟩ := hk
  exact ⟨⟨x, hx⟩, off_law.inj h (key_off hx), rfl⟩
/-- No key twice; a key is on the list just where the map has it and it is no longer to come. -/
def CollO (D0 : DataW Value) (left : Lit → Bool) (ss : List KO) : Prop := (ss.map (·.1)).Nodup ∧ ∀ x : KO, x ∈ ss ↔ (has D0 (litO x.1) = true ∧ left (litO x.1) = false)
theorem collO_start (D0 : DataW Value) : CollO D0 (has D0) [] := ⟨List.nodup_nil, fun x => ⟨fun h => (by cases h), fun h => (by have h1 := h.1; rw [h.2] at h1; cases h1)⟩⟩
theorem CollO.step {D0 : DataW Value} {left : Lit → Bool} {ss : List KO} (h : CollO D0 left ss) {x : KO} {y : DataW Value} (hlk : left (litO x.1) = true) (hat : ∀ zd, D0.atKey (litO x.1) zd = y) : CollO D0 (fun z => left z && !z.sameKey (litO x.1)) (ss ++ [x]) := by
  have hhas : has D0 (litO x.1) = true := has_true_of_atKey hat
  have hnew : x ∉ ss := fun hx => by have := ((h.2 x).1 hx).2; rw [hlk] at this; cases this
  refine ⟨?_, fun y => ?_⟩
  · rw [List.map_append]
    refine List.nodup_append.2 ⟨h.1, by simp, fun a ha b hb => ?_⟩
    rw [List.map_singleton, List.mem_singleton] at hb
    subst hb
    intro e
    obtain ⟨z, hz, ez⟩ := List.mem_map.1 ha
    exact hnew (by have : z = x := Subtype.ext (ez.trans e); rw [← this]; exact hz)
  · by_cases hy : y = x
    · subst hy
      have hsk : (litO y.1).sameKey (litO y.1) = true := WideAt.sameKey_self (offT.isLit y.2)
      simp [hhas, hsk]
    · have hne : (litO y.1).sameKey (litO x.1) = false := by
        cases hs : (litO y.1).sameKey (litO x.1) with
        | false => rfl
        | true => exact absurd (Subtype.ext (offT.litInj y.2 x.2 (WideAt.sameKey_eq hs))) hy
      simp [h.2 y, hy, hne]
def KeysO (D0 : DataW Value) (ss : List KO) : Prop := (ss.map (·.1)).Nodup ∧ (∀ x : KO, x ∈ ss ↔ has D0 (litO x.1) = true) ∧ ss.length ≤ Maps.size D0
theorem CollO.all {D0 : DataW Value} {left : Lit → Bool} {ss : List KO} (h : CollO D0 left ss) (hl : ∀ kl, left kl = false) (hs : ss.length ≤ Maps.size D0) : KeysO D0 ss := ⟨h.1, fun x => by rw [h.2 x, hl]; simp, hs⟩

set_option maxRecDepth 100000 in
set_option maxHeartbeats 2000000 in
theorem keys1_in (F : Fence) (n : Nat) (h10 : F.fn 79) (hro : F.round = none) (hn : 1 ≤ n) (l Bm b nn : Nat) (D0 : DataW Value) (hkeys : ∀ l, has D0 l = true → ∃ x, okO x ∧ l = litO x) (J : List KO → World → Prop)
    (hY : ∀ pre x W, J pre W → pre.length < Maps.size D0 → YieldAt F (n - 1) Tryz.prog l #[encO x] W fun e W' => e = .returned (.bool true) ∧ J (pre ++ [x]) W' ∧ KeepsWalks W W')
    (W : World) (hJ : AbidesFrom W.heap.size J) (hm : W.cell? ⟨Bm, 0, none⟩ = some (.map (some b))) (hown : W.ownsMap Tryz.prog 24 selfElem b nn D0) (h0 : J [] W) :
    CallsIn F n Tryz.prog 79 #[.func (.yield l) #[] #[], .pointer (some ⟨Bm, 0, none⟩)] W fun e W' => (∃ v, e = .returned v) ∧ ∃ ss : List KO, KeysO D0 ss ∧ J ss W' := by
  have hkeyD : ∀ {left : Lit → Bool} {kl : Lit} {y : DataW Value}, (∀ zd, D0.atKey kl zd = y) → ∃ x, okO x ∧ kl = litO x := fun h => hkeys _ (has_true_of_atKey h)
  refine callsIn_of_wp Tryz.func79 rfl h10 ?_ hro
  simp only [Tryz.ntmps79, List.size_toArray, List.length_cons, List.length_nil, Nat.reduceAdd, Nat.reduceSub, Array.replicate_succ, Array.replicate_zero, List.push_toArray, List.append_toArray, List.nil_append, List.cons_append]
  gi_wp2_with (first
    | (gi_at_range; refine wpListIn_range_own _ rfl _ 76 rfl 24 61 off_law Tryz.underlying76 _ b nn _ rfl hown ?_; intro w0 hrg0 hg0 hs0)
    | gi_in)
  go_frame
  gi_loopw [3] (fun _ wr => ∃ (left : Lit → Bool) (cnt : Nat) (ss : List KO), wr.ranges Tryz.prog 24 selfElem b W.heap.size nn D0 left cnt ∧ ss.length + cnt ≤ Maps.size D0 ∧ CollO D0 left ss ∧ J ss wr)
    (fun _ wr => wr.rangeLeft b W.heap.size)
  case atStart =>
    exact ⟨_, _, [], hrg0, by simp, collO_start D0, hJ [] W w0 none h0 hg0 (fun r e => by cases e)⟩
  case round =>
    obtain ⟨left, cnt, ss, hrg, hcs, hC, hJs⟩ := hrel
    gi_wp2_with (first
      | (gi_at_next; refine wpListIn_next_ranges _ rfl _ rfl 24 off_law selfElem id id (fun key kl hk => ⟨key, rfl⟩) (fun v _ _ => ⟨v, rfl⟩) b W.heap.size nn _ _ _ rfl hrg ?_ ?_)
      | gi_in)
    · intro hc0 hl0
      gi_wp2
      go_end0
      exact ⟨⟨_, rfl⟩, ss, hC.all hl0 (by omega), hJs⟩
    · intro key c kl yd yp w2 cnt2 hkey hlk hv hat hrg2 hlt hg2 hs2 hen
      obtain ⟨x, ex, rfl⟩ := keyO_inv hkey (hkeyD (left := left) hat)
      subst ex
      have hJ1 : J ss w2 := hJ ss wr w2 (some W.heap.size) hJs hg2 (fun r e => by cases e; exact ⟨Nat.le_refl _, hrg.iter_walk⟩)
      have henc : encO x = .agg #[.string (bytesT x.1.1), .string (bytesT x.1.2.1), .string (bytesT x.1.2.2)] := rfl
      have hJ2 : J ss (w2.alloc (.cells #[.string (bytesT x.1.1), .string (bytesT x.1.2.1), .string (bytesT x.1.2.2)] 24)) := hJ ss w2 _ none hJ1 (World.grownBy_alloc w2 _ none) (fun r e => by cases e)
      have hrg3' := hrg2.of_walks (KeepsWalks.alloc w2 (.cells #[.string (bytesT x.1.1), .string (bytesT x.1.2.1), .string (bytesT x.1.2.2)] 24))
      obtain ⟨fn, tmps, assign, body, hy, hR⟩ := hY ss x _ hJ2 (by omega)
      rw [henc] at hy hen
      clear hs2
      gi_wp2
      refine hR.mono ?_
      rintro e W3 ⟨rfl, hJ3, hk3⟩
      gi_wp2
      have hrg3 := hrg3'.of_walks hk3
      go_roundw
      case rel => exact ⟨_, cnt2, ss ++ [x], hrg3, by simp; omega, hC.step hlk hat, hJ3⟩
      case measure => rw [hrg3.left_eq, hrg.left_eq]; exact hlt

/-- maps.Keys(m) hands back an iterator over m's keys. -/
theorem keys_gives (F : Fence) (n : Nat) (h10 : F.fn 79) (hro : F.round = none) (hn : 1 ≤ n) (Bm b nn : Nat) (D0 : DataW Value) (hkeys : ∀ l, has D0 l = true → ∃ x, okO x ∧ l = litO x) (w : World) (hBm : Bm < w.heap.size)
    (hm : w.cell? ⟨Bm, 0, none⟩ = some (.map (some b))) (hown : w.ownsMap Tryz.prog 24 selfElem b nn D0) :
    SeqGives F n Tryz.prog 79 #[.pointer (some ⟨Bm, 0, none⟩)] encO (KeysO D0) (Maps.size D0) w := fun l J W hW hJ hY h0 => by
  have hown' : W.ownsMap Tryz.prog 24 selfElem b nn D0 := by
    have hbl := hown.lt
    obtain ⟨es, clock, hb, Ft, hs, hD⟩ := hown
    exact ⟨es, clock, (hW.block b hbl).trans hb, Ft, hs, hD⟩
  exact keys1_in F n h10 hro hn l Bm b nn D0 hkeys J hY W hJ ((hW.cell (p := ⟨Bm, 0, none⟩) hBm).trans hm) hown' h0

def apAssign : Code := (Code.region 2 #[{ dst := some 5, op := Op.alloc 24, type := 0, pos := "iter.go:51", after := #[], guard := none }, { dst := none, op := Op.store 24 (Operand.tmp 5) (Operand.tmp 7), type := 0, pos := "iter.go:51", after := #[{ on := 0, ground := Ground.data }, { on := 0, ground := Ground.phase }], guard := none }] false)
def apBody : Code := (Code.block 1 (Code.region 3 #[{ dst := some 8, op := Op.load 41 (Operand.tmp 2), type := 41, pos := "iter.go:52", after := #[], guard := none }, { dst := some 9, op := Op.load 24 (Operand.tmp 5), type := 24, pos := "iter.go:52", after := #[], guard := none }, { dst := some 10, op := Op.buildSlice 41 1 #[(0, Operand.tmp 9)], type := 41, pos := "iter.go:52", after := #[{ on := 1, ground := Ground.data }], guard := none }, { dst := some 11, op := Op.call { callee := Callee.builtin Builtin.append, args := #[Operand.tmp 8, Operand.tmp 10], argTypes := #[41, 41] }, type := 41, pos := "iter.go:52", after := #[{ on := 0, ground := Ground.data }, { on := 2, ground := Ground.data }], guard := none }, { dst := none, op := Op.store 41 (Operand.tmp 2) (Operand.tmp 11), type := 0, pos := "iter.go:52", after := #[{ on := 3, ground := Ground.data }, { on := 3, ground := Ground.chain }, { on := 0, ground := Ground.phase }, { on := 1, ground := Ground.phase }, { on := 2, ground := Ground.phase }, { on := 3, ground := Ground.phase }], guard := none }] false))
/-- The loop's record. -/
def apRec (fn : FuncId) (sv : Value) (Bs D : Nat) (st : LoopState) (pend : Option Code) : Loop :=
  { state := st, pending := pend, fn, tmps := #[.slice none 0 0, sv, .pointer (some ⟨Bs, 0, none⟩), undef, .slice none 0 0, undef, sv, undef, undef, undef, undef, undef, undef], params := #[7], assign := apAssign, body := apBody, defers := D }
/-- Between two rounds. -/
structure ApAt (w0 : World) (fn : FuncId) (sv : Value) (Bs l D : Nat) (ss : List KO) (W : World) : Prop where
  box : ∃ v, W.heap[Bs]? = some (.cells #[v] 41 (0, 0)) ∧ W.ownsRow w0.heap.size 24 3 v ss.length (flatO (ss.map (·.1))) ∧ (v = .slice none 0 0 ↔ ss = [])
  L : W.heap[l]? = some (.loop (apRec fn sv Bs D .ready none))
  K : W.heap[D]? = some (.deferred (some []))
  below : Below w0.heap.size w0 W
theorem ap_abides (w0 : World) (fn : FuncId) (sv : Value) (Bs l D B : Nat) (hB : w0.heap.size ≤ B) : AbidesFrom B (ApAt w0 fn sv Bs l D) := fun s W W' row h hg hrow => by
  have hrow' : ∀ r, row = some r → ∃ o : Obj, W.heap[r]? = some o ∧ o.isWalk = true := fun r e => (hrow r e).2
  obtain ⟨v, hv, hr, hn⟩ := h.box
  exact ⟨⟨v, (grownBy_keeps hg hrow' hv rfl).trans hv, ownsRow_abides_a hr hg hrow', hn⟩, (grownBy_keeps hg hrow' h.L rfl).trans h.L, (grownBy_keeps hg hrow' h.K rfl).trans h.K,
    h.below.grown hg h.below.size (fun k e => Nat.le_trans hB (hrow k e).1)⟩
theorem off_info : (Tryz.prog.info? 24).map (fun i => (i.zero, i.size, i.bytes)) = some (some (.agg #[.string ⟨#[]⟩, .string ⟨#[]⟩, .string ⟨#[]⟩]), 3, 48) := by kernel_rfl
theorem news_off (w : World) (x : VOff) : ∀ j u, (encL x)[j]? = some u → (w.alloc (.cells #[.string (bytesT x.1), .string (bytesT x.2.1), .string (bytesT x.2.2)] 24)).cell? ((⟨w.heap.size, 0, none⟩ : Addr).add j) = some u :=
  World.news_of_block (cs := #[.string (bytesT x.1), .string (bytesT x.2.1), .string (bytesT x.2.2)]) (World.alloc_heap_new _ _)

set_option maxRecDepth 100000 in
set_option maxHeartbeats 4000000 in
theorem apYield (F : Fence) (m : Nat) (w0 : World) (fn : FuncId) (hfn : F.fn fn) (sv : Value) (Bs l D : Nat) (hBl : Bs ≠ l) (hDl : D ≠ l) (hDB : D ≠ Bs) (h0B : w0.heap.size ≤ Bs) (h0l : w0.heap.size ≤ l)
    (N : Nat) (hN : N ≤ maxLen) (hNb : N * 48 ≤ 140737488355328) (ss : List KO) (x : KO) (W : World) (h : ApAt w0 fn sv Bs l D ss W) (hlen : ss.length < N) :
    YieldAt F m Tryz.prog l #[encO x] W fun e W' => e = .returned (.bool true) ∧ ApAt w0 fn sv Bs l D (ss ++ [x]) W' ∧ KeepsWalks W W' := by
  have hne : (41 : Nat) ≠ 24 := by decide
  obtain ⟨i0, hi, hz0, hz1, hz2⟩ := info_parts off_info
  have hflat : flatO ((ss ++ [x]).map (·.1)) = flatO (ss.map (·.1)) ++ encL x.1 := by rw [List.map_append, List.map_singleton, flatO_snoc]
  refine ⟨fn, #[.slice none 0 0, sv, .pointer (some ⟨Bs, 0, none⟩), undef, .slice none 0 0, undef, sv, encO x, undef, undef, undef, undef, undef], apAssign, apBody, by simpa [apRec] using run_yield (P := Tryz.prog) (args := #[encO x]) h.L rfl, roundIn_of_wpIn hfn ?_⟩
  obtain ⟨W5, hW5⟩ : ∃ W5, W.alloc (.cells #[.string (bytesT x.1.1), .string (bytesT x.1.2.1), .string (bytesT x.1.2.2)] 24) = W5 := ⟨_, rfl⟩
  have h5 : ApAt w0 fn sv Bs l D ss W5 := by rw [← hW5]; exact ap_abides w0 fn sv Bs l D w0.heap.size (Nat.le_refl _) ss W _ none h (World.grownBy_alloc W _ none) (fun r e => by cases e)
  have hX5 : W5.heap[W.heap.size]? = some (.cells #[.string (bytesT x.1.1), .string (bytesT x.1.2.1), .string (bytesT x.1.2.2)] 24 (0, 0)) := by rw [← hW5]; exact World.alloc_heap_new W _
  have hk5 : KeepsWalks W W5 := by rw [← hW5]; exact KeepsWalks.alloc _ _
  have hlW : l < W.heap.size := (Array.getElem?_eq_some_iff.1 h.L).1
  obtain ⟨v, hv, hrow, _⟩ := h5.box
  have hl : l < W5.heap.size := (Array.getElem?_eq_some_iff.1 h5.L).1
  have hbr := run_beginRound (P := Tryz.prog) h5.L rfl
  obtain ⟨W2, hW2⟩ : ∃ W2, W5.putObj l (.loop { apRec fn sv Bs D .ready none with state := .busy }) = W2 := ⟨_, rfl⟩
  rw [hW2] at hbr
  have hX2 : W2.heap[W.heap.size]? = some (.cells #[.string (bytesT x.1.1), .string (bytesT x.1.2.1), .string (bytesT x.1.2.2)] 24 (0, 0)) := by rw [← hW2]; exact (World.putObj_heap_other (by omega)).trans hX5
  have hx0 : W2.cell? ⟨W.heap.size, 0, none⟩ = some (.string (bytesT x.1.1)) := by unfold World.cell?; rw [hX2]; rfl
  have hx1 : W2.cell? ⟨W.heap.size, 1, none⟩ = some (.string (bytesT x.1.2.1)) := by unfold World.cell?; rw [hX2]; rfl
  have hx2 : W2.cell? ⟨W.heap.size, 2, none⟩ = some (.string (bytesT x.1.2.2)) := by unfold World.cell?; rw [hX2]; rfl
  have hg2 : W5.grownBy W2 (some l) := by rw [← hW2]; exact grownBy_putObj_a _ _ _
  have hk2 : KeepsWalks W W2 := hk5.trans (by rw [← hW2]; exact KeepsWalks.putObj _ h5.L rfl)
  have hv2 : W2.heap[Bs]? = some (.cells #[v] 41 (0, 0)) := by rw [← hW2]; exact (World.putObj_heap_other hBl).trans hv
  have hK2 : W2.heap[D]? = some (.deferred (some [])) := by rw [← hW2]; exact (World.putObj_heap_other hDl).trans h5.K
  have hL2 : W2.heap[l]? = some (.loop { apRec fn sv Bs D .ready none with state := .busy }) := by rw [← hW2]; exact World.putObj_heap_same hl
  have hrow2 : W2.ownsRow w0.heap.size 24 3 v ss.length (flatO (ss.map (·.1))) := hrow.kept hg2 (ownsRow_ne_a hrow h5.L (fun cur e => by first | cases e | exact hne (Obj.cells.inj e).2.1))
  have hb2 : Below w0.heap.size w0 W2 := h5.below.grown hg2 h5.below.size (fun k e => by cases e; exact h0l)
  obtain ⟨hc2, hf2⟩ := cell_of_box_a hv2
  have hBlt : Bs < W2.heap.size := (Array.getElem?_eq_some_iff.1 hv2).1
  have hl2 : l < W2.heap.size := (Array.getElem?_eq_some_iff.1 hL2).1
  have hDlt : D < W2.heap.size := (Array.getElem?_eq_some_iff.1 hK2).1
  have ne_of : ∀ {j : Nat} {o : Obj}, W2.heap[j]? = some o → (∀ cur, o ≠ .cells cur 24 (0, 0)) → some j ≠ v.ownBlock := fun hj hno => by
    rcases ownsRow_ne_a hrow2 hj hno with e | e
    · rw [e]; simp
    · exact fun e' => e e'.symm
  clear hW2
  have henc : encO x = .agg #[.string (bytesT x.1.1), .string (bytesT x.1.2.1), .string (bytesT x.1.2.2)] := rfl
  rw [henc]
  unfold apAssign
  gi_wp2_with gi_round_op_a
  unfold apBody
  gi_wp2_with (first
    | (gi_at_builtin; refine wpListIn_append_own _ rfl _ _ 41 rfl w0.heap.size 24 i0 (.agg #[.string ⟨#[]⟩, .string ⟨#[]⟩, .string ⟨#[]⟩]) 3 48 Tryz.underlying41 hi hz0 hz1 hz2 rfl (by decide) _ _ _ rfl (hrow2.alloc _) ⟨W2.heap.size, 0, none⟩ 1 1 (encL x.1) rfl rfl (news_off _ _) (by simp [Value.oneCell', encL]) (by omega) (by omega) (by have := hb2.size; simp; omega) ?_; intro v' w3 hown' hg3 hnil3
       have hv3 : w3.heap[Bs]? = some (.cells #[v] 41 (0, 0)) := (hg3.block Bs (by simp; omega) (ne_of hv2 (fun cur e => by first | cases e | exact hne (Obj.cells.inj e).2.1))).trans ((Below.heap_alloc _ _ Bs hBlt).trans hv2)
       obtain ⟨hc3, hf3⟩ := cell_of_box_a hv3
       obtain ⟨g', cap', cur', rfl, hbase', hgb', hr1, hr2, hr3, hr4⟩ : ∃ g' cap' cur', v' = .slice (some ⟨g', 0, none⟩) (ss.length + 1) cap' ∧ w0.heap.size ≤ g' ∧ w3.heap[g']? = some (.cells cur' 24 (0, 0)) ∧ ss.length + 1 ≤ cap' ∧ cap' ≤ maxLen ∧ cur'.size = cap' * 3 ∧ cur'.toList.take ((ss.length + 1) * 3) = flatO (ss.map (·.1)) ++ encL x.1 := by
         rcases hown'.2 with ⟨_, h0⟩ | h'
         · exact absurd h0 (by omega)
         · exact h'
       go_frame)
    | gi_round_op_a)
  have hg3' : (W2.alloc (.cells #[.string (bytesT x.1.1), .string (bytesT x.1.2.1), .string (bytesT x.1.2.2)] 24)).grownBy w3 v.ownBlock := hg3
  have hL3 : w3.heap[l]? = some (.loop { apRec fn sv Bs D .ready none with state := .busy }) := (hg3'.block l (by simp; omega) (ne_of hL2 (fun cur e => by first | cases e | exact hne (Obj.cells.inj e).2.1))).trans ((Below.heap_alloc _ _ l hl2).trans hL2)
  have hK3 : w3.heap[D]? = some (.deferred (some [])) := (hg3'.block D (by simp; omega) (ne_of hK2 (fun cur e => by first | cases e | exact hne (Obj.cells.inj e).2.1))).trans ((Below.heap_alloc _ _ D hDlt).trans hK2)
  obtain ⟨w4, hw4⟩ : ∃ w4, w3.setCell ⟨Bs, 0, none⟩ (.slice (some ⟨g', 0, none⟩) (ss.length + 1) cap') = w4 := ⟨_, rfl⟩
  rw [hw4]
  have hg4 : w3.grownBy w4 (some Bs) := by rw [← hw4]; exact grownBy_setCell0_a _ _ _
  have hv4 : w4.heap[Bs]? = some (.cells #[.slice (some ⟨g', 0, none⟩) (ss.length + 1) cap'] 41 (0, 0)) := by rw [← hw4]; exact heap_setCell_box_a _ hv3
  have hL4 : w4.heap[l]? = some (.loop { apRec fn sv Bs D .ready none with state := .busy }) := (hg4.block l (Array.getElem?_eq_some_iff.1 hL3).1 (fun e => hBl (by cases e; rfl))).trans hL3
  have hK4 : w4.heap[D]? = some (.deferred (some [])) := (hg4.block D (Array.getElem?_eq_some_iff.1 hK3).1 (fun e => hDB (by cases e; rfl))).trans hK3
  have hrow4 := hown'.kept hg4 (ownsRow_ne_a hown' hv3 (fun cur e => by first | cases e | exact hne (Obj.cells.inj e).2.1))
  have hl4 : l < w4.heap.size := (Array.getElem?_eq_some_iff.1 hL4).1
  have hb3 : Below w0.heap.size w0 w3 := (hb2.alloc hb2.size _).grown hg3' (by have := hb2.size; simp; omega) (fun k e => (hrow2.lt k e).1)
  have hb4 : Below w0.heap.size w0 w4 := hb3.grown hg4 hb3.size (fun k e => by cases e; exact h0B)
  have hk4 : KeepsWalks W w4 := ((hk2.trans (KeepsWalks.alloc _ _)).trans (KeepsWalks.of_grownBy hg3' (ownsRow_not_walk_a (hrow2.alloc _)))).trans (by rw [← hw4]; exact KeepsWalks.setCell _ _ _)
  clear hw4
  refine ⟨_, _, run_endRound none hL4, rfl, ⟨⟨_, (World.putObj_heap_other hBl).trans hv4, ?_, by simp⟩, World.putObj_heap_same hl4, (World.putObj_heap_other hDl).trans hK4, hb4.grown (grownBy_putObj_a _ _ _) hb4.size (fun k e => by cases e; exact h0l)⟩, hk4.trans (KeepsWalks.putObj _ hL4 rfl)⟩
  have := hrow4.kept (grownBy_putObj_a w4 l (.loop { { apRec fn sv Bs D .ready none with state := .busy } with state := if (none : Option Code).isNone then .ready else .done, pending := none })) (ownsRow_ne_a hrow4 hL4 (fun cur e => by first | cases e | exact hne (Obj.cells.inj e).2.1))
  rw [hflat]
  simpa using this

set_option maxRecDepth 100000 in
set_option maxHeartbeats 4000000 in
theorem appendSeq_in (F : Fence) (n : Nat) (h11 : F.fn 116) (hro : F.round = none) (hn : 2 ≤ n) (g : Nat) (lb : Array Value) (hFg : F.fn g) (eg : ∀ args w, (callFunc g args).run Tryz.prog w = .ok (.enter g args) w)
    (S : List KO → Prop) (N : Nat) (hN : N ≤ maxLen) (hNb : N * 48 ≤ 140737488355328) (w : World) (hseq : SeqGives F (n - 1) Tryz.prog g lb encO S N w) :
    CallsIn F n Tryz.prog 116 #[.slice none 0 0, .func (.func g) #[] lb] w fun e w' => ∃ (v : Value) (ss : List KO), e = .returned v ∧ S ss ∧ w'.ownsRow w.heap.size 24 3 v ss.length (flatO (ss.map (·.1))) ∧ (v = .slice none 0 0 ↔ ss = []) ∧ Below w.heap.size w w' := by
  have h1 : 1 ≤ n := by omega
  have hne : (41 : Nat) ≠ 24 := by decide
  refine callsIn_of_wp_marks Tryz.func116 rfl h11 ?_ hro
  simp only [Tryz.ntmps116, List.size_toArray, List.length_cons, List.length_nil, Nat.reduceAdd, Nat.reduceSub, Array.replicate_succ, Array.replicate_zero, List.push_toArray, List.append_toArray, List.nil_append, List.cons_append]
  gi_wp2
  refine wpIn_rangeFunc ?_
  intro fn hfn
  rw [hro]
  obtain ⟨W0, hW0⟩ : ∃ W0, w.alloc (.cells #[.slice none 0 0] 41) = W0 := ⟨_, rfl⟩
  have hs0 : W0.heap.size = w.heap.size + 1 := by rw [← hW0]; simp
  have hv0 : W0.heap[w.heap.size]? = some (.cells #[.slice none 0 0] 41 (0, 0)) := by rw [← hW0]; exact World.alloc_heap_new w _
  have hb0 : Below w.heap.size w W0 := by rw [← hW0]; exact (Below.refl _ w).alloc (Nat.le_refl _) _
  rw [hW0]
  obtain ⟨W1, hW1⟩ : ∃ W1, (W0.alloc (.deferred (some []))).alloc (.loop (apRec fn (.func (.func g) #[] lb) w.heap.size W0.heap.size .ready none)) = W1 := ⟨_, rfl⟩
  have hold : ∀ k, k < W0.heap.size → W1.heap[k]? = W0.heap[k]? := fun k hk => by
    rw [← hW1]; exact (Below.heap_alloc _ _ k (by simp; omega)).trans (Below.heap_alloc _ _ k hk)
  have hb1 : Below w.heap.size w W1 := by rw [← hW1]; exact (hb0.alloc hb0.size _).alloc (by have := hb0.size; simp; omega) _
  have hs1 : W1.heap.size = W0.heap.size + 2 := by rw [← hW1]; simp
  have hM : ApAt w fn (.func (.func g) #[] lb) w.heap.size (W0.heap.size + 1) W0.heap.size [] W1 :=
    ⟨⟨_, (hold w.heap.size (by omega)).trans hv0, ⟨rfl, .inl ⟨rfl, rfl⟩⟩, by simp⟩,
     by rw [← hW1]; have := World.alloc_heap_new (W0.alloc (.deferred (some []))) (.loop (apRec fn (.func (.func g) #[] lb) w.heap.size W0.heap.size .ready none)); rwa [World.size_alloc] at this,
     by rw [← hW1]; exact (Below.heap_alloc _ _ _ (by simp)).trans (World.alloc_heap_new W0 _), hb1⟩
  refine ⟨W0.heap.size + 1, [{ target := .collected W0.heap.size, args := #[] }], W1, { target := .fn (.func g) lb, args := #[.func (.yield (W0.heap.size + 1)) #[] #[]] }, W1, g,
    #[.func (.yield (W0.heap.size + 1)) #[] #[]] ++ lb, W1, ?_, ?_, ?_, ?_, fun _ => h1, ?_⟩
  · rw [← hW1]; exact run_enterLoop_outer _ _ _ _ _
  · simp [resolve, go_sem]
  · intro f' hf'; simp [Target.leads] at hf'; subst hf'; exact hFg
  · simp [invoke, go_sem, eg]
  · refine (hseq (W0.heap.size + 1) (ApAt w fn (.func (.func g) #[] lb) w.heap.size (W0.heap.size + 1) W0.heap.size) W1 hb1 (ap_abides _ _ _ _ _ _ _ hb1.size)
      (fun pre x W hJ hl => apYield F (n - 1 - 1) w fn hfn _ w.heap.size (W0.heap.size + 1) W0.heap.size (by omega) (by omega) (by omega) (Nat.le_refl _) (by omega) N hN hNb pre x W hJ hl) hM).mono ?_
    rintro e W2 ⟨⟨v0, rfl⟩, ss, hS, h2⟩
    obtain ⟨v, hv, hrow, hnil⟩ := h2.box
    have hend := run_endLoop (P := Tryz.prog) h2.L (by simp [apRec])
    obtain ⟨W3, hW3⟩ : ∃ W3, W2.putObj (W0.heap.size + 1) (.loop { apRec fn (.func (.func g) #[] lb) w.heap.size W0.heap.size .ready none with state := .exhausted }) = W3 := ⟨_, rfl⟩
    rw [hW3] at hend
    have hg3 : W2.grownBy W3 (some (W0.heap.size + 1)) := by rw [← hW3]; exact grownBy_putObj_a _ _ _
    have hv3 : W3.heap[w.heap.size]? = some (.cells #[v] 41 (0, 0)) := by rw [← hW3]; exact (World.putObj_heap_other (by omega)).trans hv
    have hK3 : W3.heap[W0.heap.size]? = some (.deferred (some [])) := by rw [← hW3]; exact (World.putObj_heap_other (by omega)).trans h2.K
    have hrow3 := hrow.kept hg3 (ownsRow_ne_a hrow h2.L (fun cur e => by first | cases e | exact hne (Obj.cells.inj e).2.1))
    have hb3 : Below w.heap.size w W3 := h2.below.grown hg3 h2.below.size (fun k e => by cases e; omega)
    obtain ⟨hc3, hf3⟩ := cell_of_box_a hv3
    clear hW3
    refine ⟨none, W3, hend, ?_⟩
    gi_wp2
    rw [← hs0]
    refine ⟨by simp, .inl ⟨_, _, rfl, run_takeDeferred hK3, ?_⟩⟩
    exact ⟨_, results_tmp rfl _ _ _, v, ss, rfl, hS, hrow3.kept (grownBy_putObj_a _ _ _) (ownsRow_ne_a hrow3 hK3 (fun cur e => by first | cases e | exact hne (Obj.cells.inj e).2.1)), hnil, hb3.grown (grownBy_putObj_a _ _ _) hb3.size (fun k e => by cases e; omega)⟩

theorem enters_apseq : ∀ args w, (callFunc 116 args).run Tryz.prog w = .ok (.enter 116 args) w := enters_of Tryz.func116 (by kernel_rfl) rfl
theorem enters_keys1 : ∀ args w, (callFunc 79 args).run Tryz.prog w = .ok (.enter 79 args) w := enters_of Tryz.func79 (by kernel_rfl) rfl
set_option maxHeartbeats 1000000 in
theorem collect_in (F : Fence) (n : Nat) (h8 : F.fn 77) (h11 : F.fn 116) (hro : F.round = none) (hn : 3 ≤ n) (g : Nat) (lb : Array Value) (hFg : F.fn g) (eg : ∀ args w, (callFunc g args).run Tryz.prog w = .ok (.enter g args) w)
    (S : List KO → Prop) (N : Nat) (hN : N ≤ maxLen) (hNb : N * 48 ≤ 140737488355328) (w : World) (hseq : SeqGives F (n - 1 - 1) Tryz.prog g lb encO S N w) :
    CallsIn F n Tryz.prog 77 #[.func (.func g) #[] lb] w fun e w' => ∃ (v : Value) (ss : List KO), e = .returned v ∧ S ss ∧ w'.ownsRow w.heap.size 24 3 v ss.length (flatO (ss.map (·.1))) ∧ (v = .slice none 0 0 ↔ ss = []) ∧ Below w.heap.size w w' := by
  have h1 : 1 ≤ n := by omega
  have e11 := enters_apseq
  refine callsIn_of_wp Tryz.func77 rfl h8 ?_ hro
  simp only [Tryz.ntmps77, List.size_toArray, List.length_cons, List.length_nil, Nat.reduceAdd, Nat.reduceSub, Array.replicate_succ, Array.replicate_zero, List.push_toArray, List.append_toArray, List.nil_append, List.cons_append]
  gi_wp2_with (gi_at_fn 116; refine (appendSeq_in F (n - 1) h11 hro (by omega) g lb hFg eg S N hN hNb _ hseq).mono ?_; rintro e w' ⟨v, ss, rfl, hS, hrow, hnil, hb⟩)
  go_ret
  exact ⟨v, ss, rfl, hS, hrow, hnil, hb⟩
theorem nodup_len {α : Type} [DecidableEq α] : ∀ {l m : List α}, l.Nodup → (∀ x ∈ l, x ∈ m) → l.length ≤ m.length
  | [], _, _, _ => Nat.zero_le _
  | x :: l, m, hn, h => by
    obtain ⟨h1, h2⟩ := List.nodup_cons.1 hn
    have hx := h x (by simp)
    have := nodup_len (l := l) (m := m.erase x) h2 (fun y hy => (List.mem_erase_of_ne (fun e => h1 (by rw [← e]; exact hy))).2 (h y (by simp [hy])))
    rw [List.length_erase_of_mem hx] at this
    have hpos : 0 < m.length := List.length_pos_of_mem hx
    rw [List.length_cons]; omega
theorem keys_len {D : DataW Value} {S : List VOff} {w : World} {b k : Nat} (hown : w.ownsMap Tryz.prog 24 selfElem b k D) (hkeys : ∀ l, has D l = true → ∃ x, okO x ∧ l = litO x) (hS : ∀ x, okO x → has D (litO x) = true → x ∈ S) : Maps.size D ≤ S.length := by
  obtain ⟨es, rfl, hap, hk⟩ := hown.entries off_law
  have hex : ∀ p ∈ es, ∃ x, okO x ∧ p.1 = litO x := fun p hp => hkeys p.1 (List.any_eq_true.2 ⟨p, hp, WideAt.sameKey_self (hk p hp)⟩)
  have hl : ∀ es' : List (Lit × DataW Value), (∀ p ∈ es', ∃ x, okO x ∧ p.1 = litO x) → ∃ xs : List VOff, xs.map litO = es'.map (·.1) ∧ ∀ x ∈ xs, okO x := fun es' => by
    induction es' with
    | nil => intro _; exact ⟨[], rfl, fun _ h => by cases h⟩
    | cons p l ih =>
      intro h
      obtain ⟨x, hx, e⟩ := h p (by simp)
      obtain ⟨xs, h1, h2⟩ := ih (fun q hq => h q (by simp [hq]))
      exact ⟨x :: xs, by rw [List.map_cons, List.map_cons, h1, e], fun y hy => by rcases List.mem_cons.1 hy with rfl | hy; exact hx; exact h2 y hy⟩
  obtain ⟨xs, h1, h2⟩ := hl es hex
  have hlen : xs.length = es.length := by have := congrArg List.length h1; simpa using this
  have hnd : (es.map (·.1)).Nodup := List.pairwise_map.2 hap
  have hndx : xs.Nodup := by
    rw [← h1] at hnd
    exact (List.pairwise_map.1 hnd).imp fun {a b} hne e => hne (by rw [e])
  have hsub : ∀ x ∈ xs, x ∈ S := fun x hx => hS x (h2 x hx) (by
    have : litO x ∈ es.map (·.1) := by rw [← h1]; exact List.mem_map.2 ⟨x, hx, rfl⟩
    obtain ⟨p, hp, e⟩ := List.mem_map.1 this
    exact List.any_eq_true.2 ⟨p, hp, by rw [e]; exact WideAt.sameKey_self (offT.isLit (h2 x hx))⟩)
  have := nodup_len hndx hsub
  show es.length ≤ _
  omega
/-- slices.Collect of a map's keys. -/
theorem collectK_any (Bm b nn : Nat) (f : VOff → Option Value) (w : World) (hBm : Bm < w.heap.size) (hm : w.cell? ⟨Bm, 0, none⟩ = some (.map (some b))) (hf : MapK offT w b f nn) (S : List VOff) (hN : S.length ≤ 1048576) (hS : ∀ x, okO x → (f x).isSome = true → x ∈ S) :
    Calls Tryz.prog 77 #[.func (.func 79) #[] #[.pointer (some ⟨Bm, 0, none⟩)]] w fun e w' => ∃ (v : Value) (l : List VOff), e = .returned v ∧ l.Nodup ∧ (∀ x, x ∈ l ↔ okO x ∧ (f x).isSome = true) ∧ w'.ownsRow w.heap.size 24 3 v l.length (flatO l) ∧ l.length ≤ S.length ∧ Below w.heap.size w w' := by
  obtain ⟨k, D, hown, hk, hD, hkeys⟩ := hf
  have hsz : Maps.size D ≤ S.length := keys_len hown hkeys (fun x hx h => hS x hx (by have h7 := (hD x hx).1; rw [← h7]; exact h))
  have hseq := keys_gives Fence.wide (3 - 1 - 1) trivial rfl (by decide) Bm b k D hkeys w hBm hm hown
  refine (callsIn_wide.1 (collect_in Fence.wide 3 trivial trivial rfl (by decide) _ _ trivial enters_keys1 _ (Maps.size D) (Nat.le_trans hsz (Nat.le_trans hN (by decide))) (by omega) w hseq)).mono ?_
  rintro e w' ⟨v, ss, rfl, ⟨h1, h2, h4⟩, h3, _, h5⟩
  refine ⟨v, ss.map (·.1), rfl, h1, fun x => ?_, by simpa using h3, by rw [List.length_map]; omega, h5⟩
  constructor
  · intro hx
    obtain ⟨z, hz, rfl⟩ := List.mem_map.1 hx
    exact ⟨z.2, by have h6 := (h2 z).1 hz; have h7 := (hD z.1 z.2).1; rw [← h7]; exact h6⟩
  · rintro ⟨hx, hs⟩
    exact List.mem_map.2 ⟨⟨x, hx⟩, (h2 ⟨x, hx⟩).2 (by have h7 := (hD x hx).1; rw [← h7] at hs; exact hs), rfl⟩
end Go.Proofs.YtepcnfnmphgccaaGreatDoor
