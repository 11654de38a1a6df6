/- Proved: AmountTotals returns true for every input whose values are at most 1048576 in all (the second form of the statement). -/
import Derived.Test.YtkippgdboodlfaaAmtX
import Derived.Laws.AppendOwnNone
import Derived.JoinedCond
namespace Go.Proofs.Ytkippgdboodlfaa.amountTotalsUpto
open Go.ChangeShapes Go.WideShapes Go.ChangeAt Go.RowKit
attribute [local go_sem] eq2

/-- append of a slice that came in, nil or not, onto one of the call's own. -/
theorem wpList_append_src {P : Program} {w : World} {ops : Array Oper} {rest : List Oper} {o : Oper} {a : Act} {Q : Exit → Act → World → Prop} (hgd : o.guard = none) (s x : Operand) (t : TypeId)
    (ho : o.op = .call { callee := .builtin .append, args := #[s, x], argTypes := #[t, t] })
    (base : Nat) (e : TypeId) (i : TypeInfo) (z : Value) (size bytes : Nat) (ht : P.underlying t = some (.slice e)) (hi : P.info? e = some i) (hz : i.zero = some z)
    (hsize : i.size = size) (hby : i.bytes = bytes) (hzs : z.cells.size = size) (hsz : 0 < size)
    (v : Value) (n : Nat) (xs : List Value) (hs : a.eval s = v) (hown : w.ownsRow base e size v n xs)
    (ao : Option Addr) (m c : Nat) (hnil : ao = none → m = 0 ∧ c = 0) (news : List Value) (hx : a.eval x = .slice ao m c) (hl : news.length = m * size) (hnews : ∀ ad, ao = some ad → ∀ j u, news[j]? = some u → w.cell? (ad.add j) = some u) (h1 : ∀ u ∈ news, u.oneCell' = true)
    (h63 : n + m ≤ maxLen) (hbytes : (n + m) * bytes ≤ 140737488355328) (hbase : base ≤ w.heap.size)
    (h : ∀ v' w', w'.ownsRow base e size v' (n + m) (xs ++ news) → (w' = w ∨ w.grownBy w' v.ownBlock) → wpList P ops Q rest (a.put o.dst v') w') : wpList P ops Q (o :: rest) a w := by
  cases ao with
  | none =>
    obtain ⟨rfl, rfl⟩ := hnil rfl
    have hn : news = [] := List.eq_nil_of_length_eq_zero (by rw [hl]; omega)
    subst hn
    refine wpList_append_own_none hgd s x t ho base e i size ht hi v n xs hs hown hx (h v w ?_ (Or.inl rfl))
    rw [Nat.add_zero, List.append_nil]; exact hown
  | some ad =>
    exact wpList_append_own w hgd s x t ho base e i z size bytes ht hi hz hsize hby hzs hsz v n xs hs hown ad m c news hx hl (hnews ad rfl) h1 h63 hbytes hbase (fun v' w' h2 h3 _ => h v' w' h2 (Or.inr h3))

/-- What a slice of numbers is. -/
def NumsAt (W : World) (a : Option Addr) (b off : Nat) (zs : List Int) : Prop :=
  (0 < zs.length → a = some ⟨b, off, none⟩) ∧ ∀ i, i < zs.length → W.cell? ⟨b, off + i, none⟩ = some (.int .i64 (zs.getD i 0))
theorem pairs_kept {W V : World} {a : Option Addr} {b off : Nat} {ps : List (Int × Int)} (h : Below W.heap.size W V) (hp : PairsAt W a b off ps) : PairsAt V a b off ps :=
  ⟨hp.1, fun i hi => ⟨cell_kept h (hp.2 i hi).1, cell_kept h (hp.2 i hi).2⟩⟩
theorem nums_kept {W V : World} {a : Option Addr} {b off : Nat} {zs : List Int} (h : Below W.heap.size W V) (hp : NumsAt W a b off zs) : NumsAt V a b off zs :=
  ⟨hp.1, fun i hi => cell_kept h (hp.2 i hi)⟩
theorem pairs_keptB {W V : World} {a : Option Addr} {b off : Nat} {ps : List (Int × Int)} {o : Obj} (h : Below (W.alloc o).heap.size (W.alloc o) V) (hp : PairsAt W a b off ps) : PairsAt V a b off ps :=
  ⟨hp.1, fun i hi => ⟨kept1 h (hp.2 i hi).1, kept1 h (hp.2 i hi).2⟩⟩
theorem nums_keptB {W V : World} {a : Option Addr} {b off : Nat} {zs : List Int} {o : Obj} (h : Below (W.alloc o).heap.size (W.alloc o) V) (hp : NumsAt W a b off zs) : NumsAt V a b off zs :=
  ⟨hp.1, fun i hi => kept1 h (hp.2 i hi)⟩
def cells1 (zs : List Int) : List Value := zs.map (.int .i64)
theorem own_nums {W : World} {base e : Nat} {v : Value} {zs : List Int} (h : W.ownsRow base e 1 v zs.length (cells1 zs)) : ∃ a cap g, v = .slice a zs.length cap ∧ NumsAt W a g 0 zs ∧ (a = none → zs.length = 0 ∧ cap = 0) := by
  have hc := h
  rcases h.2 with ⟨hv, hn⟩ | ⟨g, cap, cur, rfl, _, _⟩
  · exact ⟨none, 0, 0, by rw [hv, hn], ⟨fun h0 => absurd h0 (by omega), fun i hi => absurd hi (by omega)⟩, fun _ => ⟨hn, rfl⟩⟩
  · refine ⟨some ⟨g, 0, none⟩, cap, g, rfl, ⟨fun _ => rfl, fun i hi => ?_⟩, fun h => by cases h⟩
    have k0 := hc.cells (g := g) rfl i (.int .i64 (zs.getD i 0)) (by simp [cells1, List.getD, hi])
    rw [add_off] at k0
    exact k0
theorem src_pairs {W : World} {a : Option Addr} {b off : Nat} {ps : List (Int × Int)} (hp : PairsAt W a b off ps) : ∀ ad, a = some ad → ∀ j u, (flat ps)[j]? = some u → W.cell? (ad.add j) = some u := by
  intro ad ha j u hu
  have hj : j < ps.length * 2 := by
    have := (List.getElem?_eq_some_iff.1 hu).1
    rw [flat_length] at this; exact this
  have h0 := hp.1 (by omega)
  rw [ha] at h0
  injection h0 with h0
  subst h0
  rw [add_off]
  have hf := flat_at ps (j / 2) (by omega)
  have hc := hp.2 (j / 2) (by omega)
  rcases Nat.mod_two_eq_zero_or_one j with hm | hm
  · have e : j / 2 * 2 = j := by omega
    rw [e] at hf hc
    rw [hf.1] at hu; rw [hc.1]; exact hu
  · have e : j / 2 * 2 + 1 = j := by omega
    rw [Nat.add_assoc, e] at hc
    rw [e] at hf
    rw [hf.2] at hu; rw [hc.2]; exact hu
theorem one_flat : ∀ ps : List (Int × Int), ∀ u ∈ flat ps, u.oneCell' = true
  | [], u, h => by cases h
  | q :: qs, u, h => by
    rcases List.mem_cons.1 h with rfl | h
    · rfl
    · rcases List.mem_cons.1 h with rfl | h
      · rfl
      · exact one_flat qs u h
theorem src_nums {W : World} {a : Option Addr} {b off : Nat} {zs : List Int} (hp : NumsAt W a b off zs) : ∀ ad, a = some ad → ∀ j u, (cells1 zs)[j]? = some u → W.cell? (ad.add j) = some u := by
  intro ad ha j u hu
  have hj : j < zs.length := by
    have := (List.getElem?_eq_some_iff.1 hu).1
    simpa [cells1] using this
  have h0 := hp.1 (by omega)
  rw [ha] at h0
  injection h0 with h0
  subst h0
  rw [add_off, hp.2 j hj]
  simp [cells1, hj] at hu
  rw [← hu]; simp [List.getD, hj]
theorem one_nums (zs : List Int) : ∀ u ∈ cells1 zs, u.oneCell' = true := by
  intro u hu
  simp [cells1] at hu
  obtain ⟨z, _, rfl⟩ := hu
  rfl
theorem Try.infoNum : (Try.prog.info? 2).map (fun i => (i.zero, i.size, i.bytes)) = some (some (.int .i64 0), 1, 8) := by kernel_rfl
/-- Behind a slice that was made empty and appended to, all that was there is there. -/
theorem below_src {W V : World} {t : TypeId} (h : V = W.alloc (.cells #[] t) ∨ (W.alloc (.cells #[] t)).grownBy V (some W.heap.size)) : Below W.heap.size W V := by
  have h0 : Below W.heap.size W (W.alloc (.cells #[] t)) := (Below.refl _ _).alloc (Nat.le_refl _) _
  rcases h with rfl | h
  · exact h0
  · exact h0.grown h (by simp) (fun k hk => by cases hk; exact Nat.le_refl _)
theorem own_none1 (W : World) (t : TypeId) : (W.alloc (.cells #[] t)).ownsRow W.heap.size t 1 (.slice (some ⟨W.heap.size, 0, none⟩) 0 0) 0 [] :=
  ⟨rfl, Or.inr ⟨W.heap.size, 0, #[], rfl, Nat.le_refl _, block_new W #[] t, Nat.le_refl _, Nat.zero_le _, rfl, rfl⟩⟩

set_option maxRecDepth 100000 in
set_option maxHeartbeats 2000000 in
theorem walk (a : Option Addr) (len cap : Nat) (ps : List (Int × Int)) (b off : Nat) (c : Option Addr) (lenc capc : Nat) (zs : List Int) (d offd : Nat) (w : World)
    (hl : len = ps.length) (hp : PairsAt w a b off ps) (hna : a = none → len = 0 ∧ cap = 0) (hl2 : lenc = zs.length) (hq : NumsAt w c d offd zs) (hnc : c = none → lenc = 0 ∧ capc = 0) (hs1 : ps.length ≤ 1048576) (hs2 : zs.length ≤ 1048576) :
    Calls Try.prog 6 #[.slice a len cap, .slice c lenc capc] w fun e w' => e = .returned (.bool true) ∧ Below w.heap.size w w' := by
  subst hl hl2
  obtain ⟨i0, hi, hz0, hz1, hz2⟩ := info_parts Try.infoPair
  obtain ⟨j0, ji, jz0, jz1, jz2⟩ := info_parts Try.infoNum
  have HI := hide hi
  have HZ := hide hz0
  have HS := hide hz1
  have HY := hide hz2
  have JI := hide ji
  have JZ := hide jz0
  have JS := hide jz1
  have JY := hide jz2
  have HNA := hide hna
  have HNC := hide hnc
  have P0 := hide hp
  have Q0 := hide hq
  clear hi hz0 hz1 hz2 ji jz0 jz1 jz2 hna hnc hp hq
  go_enter Try.func6, Try.ntmps6
  go_wp2_with (first | (at_builtin; refine wpList_append_src rfl (.tmp 17) (.tmp 18) 31 rfl w.heap.size 26 i0 (.agg #[.int .i64 0, .int .i64 0]) 2 16 Try.underlying31 (unhide HI) (unhide HZ) (unhide HS) (unhide HY) rfl (by omega) _ 0 [] rfl (own_none w _) a ps.length cap (unhide HNA) (flat ps) rfl (flat_length ps) (src_pairs (pairs_kept ((Below.refl _ _).alloc (Nat.le_refl _) _) (unhide P0))) (one_flat ps) (by unfold maxLen; omega) (by omega) (by simp) ?_; intro v1 w1 hown1 hgrow1; have B1 := hide (below_src hgrow1); simp only [Nat.zero_add, List.nil_append] at hown1; obtain ⟨a1, cap1, g1, rfl, hp1⟩ := own_pairs hown1; have R1 := hide hp1; clear hown1 hgrow1 hp1) | (at_builtin; refine wpList_append_src rfl (.tmp 20) (.tmp 21) 32 rfl w1.heap.size 2 j0 (.int .i64 0) 1 8 Try.underlying32 (unhide JI) (unhide JZ) (unhide JS) (unhide JY) rfl (by omega) _ 0 [] rfl (own_none1 w1 _) c zs.length capc (unhide HNC) (cells1 zs) rfl (by simp [cells1]) (src_nums (nums_kept ((unhide B1).alloc (unhide B1).size _) (unhide Q0))) (one_nums zs) (by unfold maxLen; omega) (by omega) (by simp) ?_; intro v2 w2 hown2 hgrow2; have B2 := hide (below_src hgrow2); simp only [Nat.zero_add, List.nil_append] at hown2; obtain ⟨a2, cap2, g2, rfl, hp2, hn2⟩ := own_nums (zs := zs) (by simpa using hown2); have R2 := hide hp2; have N2 := hide hn2; clear hown2 hgrow2 hp2 hn2))
  have L2 := hide ((unhide B1).trans ((unhide B2).mono (unhide B1).size))
  have P2 := hide (pairs_kept (unhide B2) (pairs_kept (unhide B1) (unhide P0)))
  have A2 := hide (pairs_kept (unhide B2) (unhide R1))
  have Q2 := hide (nums_kept (unhide B2) (nums_kept (unhide B1) (unhide Q0)))
  clear B1 B2 P0 Q0 R1 HI HZ HS HY JI JZ JS JY HNA HNC N2
  refine (sum_any ps a b off ps.length cap _ rfl (by unfold maxLen; omega) (unhide P2).1 (unhide P2).2).mono ?_
  rintro e w3 ⟨rfl, hw3⟩
  have L3 := hide (below_call (unhide L2) (unhide L2).size hw3)
  have P3 := hide (pairs_kept hw3 (unhide P2))
  have A3 := hide (pairs_kept hw3 (unhide A2))
  have Q3 := hide (nums_kept hw3 (unhide Q2))
  have R3 := hide (nums_kept hw3 (unhide R2))
  clear hw3 L2 P2 A2 Q2 R2
  go_wp2_with fail
  refine (rsum_any ps a1 g1 0 ps.length cap1 _ rfl (by unfold maxLen; omega) (unhide A3).1 (pairs_kept ((Below.refl _ _).alloc (Nat.le_refl _) _) (unhide A3)).2).mono ?_
  rintro e w4 ⟨rfl, hw4⟩
  have L4 := hide (below_box (unhide L3) (unhide L3).size hw4)
  have P4 := hide (pairs_keptB hw4 (unhide P3))
  have A4 := hide (pairs_keptB hw4 (unhide A3))
  have Q4 := hide (nums_keptB hw4 (unhide Q3))
  have R4 := hide (nums_keptB hw4 (unhide R3))
  obtain ⟨x0, x1⟩ := kept_box hw4
  clear hw4 L3 P3 A3 Q3 R3
  go_wp2_with fail
  refine (total_any zs c d offd zs.length capc _ rfl (by unfold maxLen; omega) (unhide Q4).1 (nums_kept ((Below.refl _ _).alloc (Nat.le_refl _) _) (unhide Q4)).2).mono ?_
  rintro e w5 ⟨rfl, rfl⟩
  go_wp2_with fail
  refine (rtotal_any zs a2 g2 0 zs.length cap2 _ rfl hs2 (unhide R4).1 (nums_kept ((Below.refl _ _).alloc (Nat.le_refl _) _) (unhide R4)).2).mono ?_
  rintro e w5 ⟨rfl, hw5⟩
  have L5 := hide (below_box (unhide L4) (unhide L4).size hw5)
  have P5 := hide (pairs_keptB hw5 (unhide P4))
  have A5 := hide (pairs_keptB hw5 (unhide A4))
  have Q5 := hide (nums_keptB hw5 (unhide Q4))
  have R5 := hide (nums_keptB hw5 (unhide R4))
  replace x0 := kept1 hw5 x0
  replace x1 := kept1 hw5 x1
  obtain ⟨y0, y1⟩ := kept_box hw5
  clear hw5 L4 P4 A4 Q4 R4
  go_wp2_with fail
  go_loopw [15] (fun i W => ∃ k : Nat, k ≤ ps.length ∧ i = .int .i64 k ∧ Hid (Below w5.heap.size w5 W)) (fun i _ => ps.length - (intOf i).toNat)
  case atStart => exact ⟨0, Nat.zero_le _, rfl, Below.refl _ _⟩
  case round =>
    obtain ⟨k, hk, rfl, hbel⟩ := hrel
    by_cases hlt : k < ps.length
    · obtain rfl := (unhide P5).1 (by omega)
      obtain rfl := (unhide A5).1 (by omega)
      have hkl : (k : Int) < ps.length := by omega
      have d0 := cell_kept (unhide hbel) ((unhide P5).2 k hlt).1
      have d1 := cell_kept (unhide hbel) ((unhide P5).2 k hlt).2
      have e0 := cell_kept (unhide hbel) ((unhide A5).2 k hlt).1
      have e1 := cell_kept (unhide hbel) ((unhide A5).2 k hlt).2
      generalize (ps.getD k (0, 0)).1 = p at *
      generalize (ps.getD k (0, 0)).2 = q at *
      rw [Nat.zero_add] at e0 e1
      go_wp2_with fail
      go_region_held3 (fun W => W.cell? ⟨b, off + k * 2, none⟩ = some (.int .i64 p) ∧ W.cell? ⟨b, off + k * 2 + 1, none⟩ = some (.int .i64 q) ∧ W.cell? ⟨g1, k * 2, none⟩ = some (.int .i64 p) ∧ W.cell? ⟨g1, k * 2 + 1, none⟩ = some (.int .i64 q))
        (first | exact ⟨d0, d1, e0, e1⟩ | assumption) (fail)
      go_wp2_with fail
      go_roundw
      case rel => exact ⟨k + 1, by omega, by go_num, (unhide hbel).drew⟩
      case measure => simp [intOf]; omega
    · rename World => w6
      replace x0 := cell_kept (unhide hbel) x0
      replace x1 := cell_kept (unhide hbel) x1
      replace y0 := cell_kept (unhide hbel) y0
      replace y1 := cell_kept (unhide hbel) y1
      have L6 := hide (below_call (unhide L5) (unhide L5).size (unhide hbel))
      have Q6 := hide (nums_kept (unhide hbel) (unhide Q5))
      have R6 := hide (nums_kept (unhide hbel) (unhide R5))
      clear hbel L5 P5 A5 Q5 R5
      go_wp2_with fail
      go_loopw [16] (fun i W => ∃ k : Nat, k ≤ zs.length ∧ i = .int .i64 k ∧ Hid (Below w6.heap.size w6 W)) (fun i _ => zs.length - (intOf i).toNat)
      case atStart => exact ⟨0, Nat.zero_le _, rfl, Below.refl _ _⟩
      case round =>
        obtain ⟨j, hj, rfl, hbel⟩ := hrel
        by_cases hlt2 : j < zs.length
        · obtain rfl := (unhide Q6).1 (by omega)
          obtain rfl := (unhide R6).1 (by omega)
          have hkl : (j : Int) < zs.length := by omega
          have d0 := cell_kept (unhide hbel) ((unhide Q6).2 j hlt2)
          have e0 := cell_kept (unhide hbel) ((unhide R6).2 j hlt2)
          generalize zs.getD j 0 = z at *
          rw [Nat.zero_add] at e0
          go_wp2_with fail
          go_region_held3 (fun W => W.cell? ⟨d, offd + j, none⟩ = some (.int .i64 z) ∧ W.cell? ⟨g2, j, none⟩ = some (.int .i64 z))
            (first | exact ⟨d0, e0⟩ | assumption) (fail)
          go_wp2_with fail
          go_roundw
          case rel => exact ⟨j + 1, by omega, by go_num, (unhide hbel).drew⟩
          case measure => simp [intOf]; omega
        · replace x0 := cell_kept (unhide hbel) x0
          replace x1 := cell_kept (unhide hbel) x1
          replace y0 := cell_kept (unhide hbel) y0
          replace y1 := cell_kept (unhide hbel) y1
          have L7 := hide (below_call (unhide L6) (unhide L6).size (unhide hbel))
          clear hbel L6 Q6 R6
          go_wp2_with fail
          refine (live_any _).mono ?_
          rintro e w8 ⟨rfl, hw8⟩
          replace x0 := cell_kept hw8 x0
          replace x1 := cell_kept hw8 x1
          replace y0 := cell_kept hw8 y0
          replace y1 := cell_kept hw8 y1
          have L8 := hide (below_call (unhide L7) (unhide L7).size hw8)
          clear hw8
          go_wp2_with fail
          go_ret
          exact ⟨by simp, unhide L8⟩

theorem nil_shape {H : Type} {enc : TypeId × Value → H} {W : World} {base : Nat} {spare : Nat → Bool} {held : Bool} {t e : TypeId} (ht : Try.prog.underlying t = some (.slice e)) {a : Option Addr} {len cap : Nat} {d : DataW H} {p : List MemPlace}
    (h : DataW.Trod enc Try.prog W base spare held t (.slice a len cap) d p) : a = none → len = 0 ∧ cap = 0 := by
  obtain ⟨fuel, hf⟩ := h
  rcases DataW.trod_slice ht hf with ⟨hcs, _⟩ | ⟨x, l, c, elems, rest, n, _, hcs, _⟩
  · simp [Value.cells] at hcs
    exact fun _ => ⟨hcs.2.1, hcs.2.2⟩
  · simp [Value.cells] at hcs
    intro h; rw [h] at hcs; cases hcs.1
theorem open_nums {H : Type} {enc : TypeId × Value → H} {W : World} {r : Reach} {base b0 : Nat} {held : Bool} {v : Value} {d : DataW H} {p : List MemPlace}
    (hv : Value.okWide Try.prog W r b0 32 v) (h : DataW.Trod enc Try.prog W base (fun _ => true) held 32 v d p) :
    ∃ (a : Option Addr) (len cap : Nat) (zs : List Int) (b off : Nat), v = .slice a len cap ∧ len = zs.length ∧ NumsAt W a b off zs ∧
      (d = .nil ∧ zs = [] ∨ ∃ elems rest, d = .slice elems rest ∧ elems.length = zs.length) := by
  obtain ⟨a0, len, cap, rfl⟩ := okWide_slice Try.underlying32 hv
  obtain ⟨fuel, hf⟩ := h
  rcases open_ints Try.underlying32 Try.underlying2 Try.cells2 hf with ⟨hcs, hx⟩ | ⟨x, l, c, zs, hcs, _, hl, hm, hz, hx, hcell, _⟩
  · simp [Value.cells] at hcs
    obtain ⟨rfl, rfl, rfl⟩ := hcs
    simp at hx
    exact ⟨none, 0, 0, [], 0, 0, rfl, rfl, ⟨fun h => absurd h (by simp), fun i hi => absurd hi (by simp)⟩, Or.inl ⟨hx.1, rfl⟩⟩
  · simp [Value.cells] at hcs
    obtain ⟨rfl, rfl, rfl⟩ := hcs
    simp at hx hz
    have hlen : (zs.take len).length = len := by simp; omega
    by_cases h0 : 0 < len
    · obtain ⟨b, off, rfl, hc⟩ := ints_at hcell (by omega)
      refine ⟨some ⟨b, off, none⟩, len, cap, zs.take len, b, off, rfl, hlen.symm, ⟨fun _ => rfl, fun i hi => ?_⟩, Or.inr ⟨_, _, hx.1, by simp [lits]⟩⟩
      rw [hlen] at hi
      rw [hc i (by omega)]
      simp [List.getD, hi]
    · have hz0 : len = 0 := by omega
      subst hz0
      exact ⟨some x, 0, cap, [], 0, 0, rfl, rfl, ⟨fun h => absurd h (by simp), fun i hi => absurd hi (by simp)⟩, Or.inr ⟨_, _, hx.1, by simp [lits]⟩⟩

/-- A list of readings is no longer than what it holds. -/
theorem long_le {H : Type} (l : List (DataW H)) : l.length ≤ Rows.uptoBulkAll l := by
  have one : ∀ d : DataW H, 0 < Rows.uptoBulk d := by
    intro d
    cases d <;> first | (rename_i x; cases x <;> simp [Rows.uptoBulk]; done) | simp [Rows.uptoBulk]
  induction l with
  | nil => exact Nat.zero_le _
  | cons d r ih =>
    have := one d
    show r.length + 1 ≤ Rows.uptoBulk d + Rows.uptoBulkAll r
    omega
/-- What the bound gives: both lengths. -/
theorem short {H : Type} {d e : DataW H} (hk : Rows.uptoSmall H [d, e] = true) : Rows.uptoBulk d ≤ 1048576 ∧ Rows.uptoBulk e ≤ 1048576 := by
  have h : Rows.uptoBulkAll [d, e] ≤ 1048576 := of_decide_eq_true hk
  simp only [Rows.uptoBulkAll] at h
  omega
theorem short_slice {H : Type} {elems rest : List (DataW H)} (h : Rows.uptoBulk (.slice elems rest) ≤ 1048576) : elems.length ≤ 1048576 := by
  simp only [Rows.uptoBulk] at h
  have := long_le elems
  omega

theorem contract (H : Type) (enc : TypeId × Value → H) (W : World) (base : Nat) (args : Array Value) (ds gs : List (DataW H)) (before : List MemPlace)
    (hval : ∀ (j : Nat) t v, Try.f6.params[j]? = some t → args[j]? = some v → Value.okWide Try.prog W .any base t v)
    (hW : DataW.Whole enc Try.prog Try.f6.params.toList Rows.amountTotalsSpec.vars false W args.toList ds gs before) (hk : Rows.uptoSmall H (ds ++ gs) = true) :
    Calls Try.prog 6 args W fun e W' => ∃ v, e = .returned v ∧ Rows.amountTotalsSpec.post enc Try.prog Try.f6 false true false false W args v W' := by
  have hW' := hW
  obtain ⟨p, q, hA0, hV, rfl, hfz, hnd⟩ := hW
  have hA : DataW.TrodAll enc Try.prog W 0 (fun _ => true) true Try.f6.params.toList args.toList ds p := hA0
  rw [Try.params6] at hA hval
  obtain ⟨v0, vs0, d0, ds0, p0, q0, hargs, rfl, rfl, h0, r0⟩ := trodAll_cons hA
  obtain ⟨v1, vs1, d1, ds1, p1, q1, rfl, rfl, rfl, h1, r1⟩ := trodAll_cons r0
  obtain ⟨rfl, rfl, rfl⟩ := trodAll_nil r1
  obtain rfl : args = #[v0, v1] := by cases args; simp_all
  obtain ⟨rfl, rfl⟩ := trodVars_none hV
  have lt0 := places_lt h0
  have lt1 := places_lt h1
  have hs := short (d := d0) (e := d1) (by simpa using hk)
  obtain ⟨a, len, cap, ps, b, off, rfl, hl, _, hp, hd⟩ := open_pairs (hval 0 31 v0 rfl rfl) h0
  obtain ⟨c, lenc, capc, zs, d, offd, rfl, hl2, hq, hd2⟩ := open_nums (hval 1 32 v1 rfl rfl) h1
  have na := nil_shape Try.underlying31 h0
  have nc := nil_shape Try.underlying32 h1
  have s1 : ps.length ≤ 1048576 := by
    rcases hd with ⟨_, rfl⟩ | ⟨elems, rest, rfl, he⟩
    · simp
    · rw [← he]; exact short_slice hs.1
  have s2 : zs.length ≤ 1048576 := by
    rcases hd2 with ⟨_, rfl⟩ | ⟨elems, rest, rfl, he⟩
    · simp
    · rw [← he]; exact short_slice hs.2
  clear hA0
  refine (walk a len cap ps b off c lenc capc zs d offd W hl hp na hl2 hq nc s1 s2).mono fun e W' ⟨he, bel⟩ => ?_
  subst he
  exact ⟨_, rfl, _, _, _, [], _, [], hW', trodAll_mk1 (shut_bool Try.underlying4 _), (trodAll_cons_mk (Below.trod laidOut (by kernel_rfl) (of_decide_eq_true (by kernel_rfl)) h0 bel lt0) (trodAll_cons_mk (Below.trod laidOut (by kernel_rfl) (of_decide_eq_true (by kernel_rfl)) h1 bel lt1) trodAll_mk0)), rfl, bel.frame _, fun h => by cases h⟩

set_option maxRecDepth 100000 in
theorem lifted (os : Os) (started : os.Started) (H : Type) (enc : TypeId × Value → H) (F : Stop.Interp) :
    ReturnsInHanded {} Try.checked os 6 .any ((Rows.OpenSpec.upto Rows.amountTotalsSpec).pre6 enc Try.prog Try.f6 Rows.amountTotalsUptoRow.domain false) (((Rows.OpenSpec.upto Rows.amountTotalsSpec).at F).post enc Try.prog Try.f6 false true false false) := by
  refine returnsInHanded_of_cond (C := Try.checked) (s := Rows.OpenSpec.upto Rows.amountTotalsSpec) (k := Rows.uptoSmall) rfl own started (by kernel_rfl) Try.func6
    (OpenSpec.witness (enc := enc) (C := Try.checked) (s := Rows.OpenSpec.upto Rows.amountTotalsSpec) (k := Rows.uptoSmall) rfl false ⟨#[], #[.slice none 0 0, .slice none 0 0], []⟩ 8 (by kernel_rfl) (by kernel_rfl) (by kernel_rfl)
      (x := ([.nil, .nil], [], [])) (by kernel_rfl) rfl (by kernel_rfl)) ?_
  intro W base args ds gs before hval hW _ hk _
  exact contract H enc W base args ds gs before hval hW hk

theorem proved : Rows.AmountTotalsUptoSaid :=
  OpenClaim.holds_of_cond 6 Try.f6 rfl rfl rfl rfl rfl rfl rfl ⟨rfl, rfl, rfl, rfl, rfl⟩ rfl rfl rfl rfl rfl (by kernel_rfl) Try.func6 (by kernel_rfl)
    (of_decide_eq_true (by kernel_rfl)) (by unfold Func.isWrapper; first | (rw [if_pos (by decide +kernel)]; kernel_rfl) | (rw [if_neg (by decide +kernel)]; exact ⟨rfl, rfl⟩))
    (fun os started H enc _ F => lifted os started H enc F)
end Go.Proofs.Ytkippgdboodlfaa.amountTotalsUpto
namespace Go.Proofs.Ytkippgdboodlfaa
theorem amountTotalsUpto_holds : Rows.AmountTotalsUptoSaid := amountTotalsUpto.proved
#print axioms amountTotalsUpto_holds
end Go.Proofs.Ytkippgdboodlfaa
