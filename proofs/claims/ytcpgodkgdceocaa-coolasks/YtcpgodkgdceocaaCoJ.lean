/- Layer 7: Left, the program's and the document's. -/
import Derived.Test.YtcpgodkgdceocaaCoI
import Derived.Test.YtcpgodkgdceocaaMpA
import Derived.DeepKeys4
namespace Go.Proofs.Ytcpgodkgdceocaa
open Go.RowKit Go.Maps Suf Val

theorem off_law : Keyed Try.prog 23 := Keyed.of_law (deep_law_laid laidOut (m := 2) (by omega) (of_decide_eq_true (by kernel_rfl)) (by kernel_rfl) (by kernel_rfl))
def litO (x : VOff) : Lit := .string (keyBytes [.string x.1, .string x.2.1, .string x.2.2])
theorem bytesT_inj {a b : Txt} (h : bytesT a = bytesT b) : a = b := by
  have := congrArg (fun s : ByteArray => s.data.toList) h
  exact this
theorem offA_inj {x y : VOff} (h : offA x = offA y) : x = y := by
  obtain ⟨a, b, c⟩ := x
  obtain ⟨d, e, f⟩ := y
  unfold offA at h
  simp only [Value.agg.injEq, Array.mk.injEq, List.cons.injEq, Value.string.injEq, and_true] at h
  rw [bytesT_inj h.1, bytesT_inj h.2.1, bytesT_inj h.2.2]
theorem str_cells : Try.prog.cellsOf 9 = 1 := by kernel_rfl
theorem key_off {x : VOff} (h : okO x) : keyOf Try.prog 23 (offA x) = some (litO x) := by
  have h1 := short_max h.1
  have h2 := short_max h.2.1
  have h3 := short_max h.2.2
  have hf : (offA x).formed Try.prog 23 = true := by simp [Value.formed, offA, Try.underlying23, off_cells]
  have hk : Try.prog.keyType 23 = true := by kernel_rfl
  obtain ⟨m, hm⟩ : ∃ m, Try.prog.types.size + 1 = m + 1 + 1 := ⟨Try.prog.types.size - 1, by have : 0 < Try.prog.types.size := of_decide_eq_true (by kernel_rfl); omega⟩
  unfold keyOf
  rw [Try.underlying23]
  simp only [hk, hf, Bool.and_self, if_true, hm]
  simp [Program.keyLits, Try.underlying23, Try.underlying9, off_cells, str_cells, offA, h1, h2, h3, litO, bytesT_list, Value.cells]
def offT : KeyT VOff where
  k := 23
  enc := offA
  lit := litO
  ok := okO
  law := off_law
  key := key_off
  inj := offA_inj
theorem MapK.isMap {κ : Type} {T : KeyT κ} {W : World} {b n : Nat} {f : κ → Option Value} (h : MapK T W b f n) : ∃ es c, W.heap[b]? = some (.map es c) := by
  obtain ⟨k, D, ⟨es, c, hb, _⟩, _⟩ := h
  exact ⟨es, c, hb⟩
/-- Cells stay where a map is written. -/
theorem cell_map {W W' : World} {b : Nat} {p : Addr} {v : Value} (hg : W.grownBy W' (some b)) (hm : ∃ es c, W.heap[b]? = some (.map es c)) (h : W.cell? p = some v) : W'.cell? p = some v := by
  obtain ⟨es, c, hm⟩ := hm
  have hne : p.block ≠ b := fun e => by unfold World.cell? at h; rw [e, hm] at h; cases h
  have hlt : p.block < W.heap.size := by
    rcases Nat.lt_or_ge p.block W.heap.size with h1 | h1
    · exact h1
    · unfold World.cell? at h
      rw [Array.getElem?_eq_none h1] at h; cases h
  rw [World.grownBy.cell_far hg p hlt (fun e => hne (Option.some.inj e))]; exact h
theorem grown_bel6 {w W W1 : World} {b : Nat} (h : Below w.heap.size w W) (hg : W.grownBy W1 (some b)) (hb : w.heap.size ≤ b) : Below w.heap.size w W1 := h.grown hg h.size (fun k hk => by cases hk; exact hb)
def setG (l : List VCool) (now : Int) (o : VOff) : Option Value := if isCoolR l o now = true then some (.agg #[]) else none
theorem is_snoc {l : List VCool} {now : Int} {k : Nat} (h : k < l.length) (o : VOff) : isCoolR (l.take (k + 1)) o now = (isCoolR (l.take k) o now || ((l[k].1 == o) && decide (now < l[k].2))) := by
  unfold isCoolR; rw [take_at6 l k h, List.any_append]; simp
theorem set_no {l : List VCool} {now : Int} {k : Nat} (h : k < l.length) (hn : ¬ now < l[k].2) (o : VOff) : setG (l.take (k + 1)) now o = setG (l.take k) now o := by
  unfold setG; rw [is_snoc h o, decide_eq_false hn, Bool.and_false, Bool.or_false]
theorem set_yes {l : List VCool} {now : Int} {k : Nat} (h : k < l.length) (hn : now < l[k].2) (o : VOff) : (if l[k].1 = o then some (.agg #[]) else setG (l.take k) now o) = setG (l.take (k + 1)) now o := by
  unfold setG; rw [is_snoc h o, decide_eq_true hn, Bool.and_true]
  by_cases e : l[k].1 = o
  · rw [if_pos e, if_pos (by simp [e])]
  · rw [if_neg e]
    have : (l[k].1 == o) = false := by simp [e]
    rw [this, Bool.or_false]
theorem zeroU (w : World) : (zeroValue 55).run Try.prog w = .ok (.agg #[]) w := by kernel_rfl
theorem look_set {l : List VCool} {now : Int} {W : World} {b n : Nat} (h : MapK offT W b (setG l now) n) {o : VOff} (ho : okO o) : (Instr.lookup 53 (.map (some b)) (offA o) true).run Try.prog W = .ok (.tuple #[.agg #[], .bool (isCoolR l o now)]) W := by
  have := h.run_ok (T := offT) Try.underlying53 (zeroU W) o ho
  rw [show offT.enc o = offA o from rfl] at this
  rw [this]
  unfold setG
  cases isCoolR l o now <;> rfl
theorem left_snoc {l : List VCool} {m : List VOff} {now : Int} {k : Nat} (h : k < m.length) : leftR l (m.take (k + 1)) now = if isCoolR l m[k] now = true then leftR l (m.take k) now else leftR l (m.take k) now ++ [m[k]] := by
  unfold leftR
  rw [take_at6 m k h, List.filter_append]
  cases h1 : isCoolR l m[k] now <;> simp [h1]
theorem left_len (l : List VCool) (m : List VOff) (now : Int) (k : Nat) : (leftR l (m.take k) now).length ≤ k := by
  unfold leftR
  refine Nat.le_trans (List.length_filter_le _ _) ?_
  rw [List.length_take]; omega

set_option maxRecDepth 100000 in
set_option maxHeartbeats 8000000 in
theorem rleft_any (v u : Value) (l : List VCool) (m : List VOff) (now : Int) (w : World) (hv : Lst coolK w v l) (hu : Lst offK w u m) (hl : m.length * 48 ≤ 140737488355328) :
    Calls Try.prog 16 #[v, u, .int .i64 now] w fun e w' => (∃ v', e = .returned v' ∧ OwnO w' w.heap.size v' (leftR l m now)) ∧ Below w.heap.size w w' := by
  have HV := hide hv
  have HU := hide hu
  have HL := hide hl
  have hlen := hu.len
  obtain ⟨a, c, rfl⟩ := hv.val
  obtain ⟨a2, c2, rfl⟩ := hu.val
  clear hv hu hl
  obtain ⟨n0, hn0⟩ : ∃ n, n = l.length := ⟨_, rfl⟩
  rw [← hn0] at HV ⊢
  clear hn0
  obtain ⟨n, hn⟩ : ∃ n, n = m.length := ⟨_, rfl⟩
  rw [← hn] at HU HL hlen ⊢
  have HN := hide hn
  clear hn
  obtain ⟨R, hR⟩ : ∃ R, R = leftR l m now := ⟨_, rfl⟩
  rw [← hR]
  have HR := hide hR
  clear hR
  go_enter Try.func16, Try.ntmps16
  go_wp2_with fail
  go_loopw [7, 8] (fun s i W => ∃ k : Nat, k ≤ n ∧ i = .int .i64 k ∧ Hid (OwnO W w.heap.size s (leftR l (m.take k) now)) ∧ Hid (Below w.heap.size w W)) (fun _ i _ => n - (intOf i).toNat)
  case atStart => exact ⟨0, Nat.zero_le _, rfl, ownO_nil _ _, Below.refl _ _⟩
  case round =>
    obtain ⟨k, hk, rfl, hrow, hbel⟩ := hrel
    by_cases hlt : k < n
    · have hlk : k < m.length := by rw [← unhide HN]; exact hlt
      obtain ⟨b, o, rfl, hat⟩ := ((unhide HU).below (unhide hbel)).at hlk
      have hst := hide (left_snoc (l := l) (now := now) hlk)
      have hkl := hide (left_len l m now k)
      obtain ⟨y, hy⟩ : ∃ y, y = m[k] := ⟨_, rfl⟩
      rw [← hy] at hat hst
      obtain ⟨F, hF⟩ : ∃ F, F = leftR l (m.take k) now := ⟨_, rfl⟩
      rw [← hF] at hrow hst hkl
      obtain ⟨⟨h0, hs0⟩, ⟨h1, hs1⟩, h2, hs2⟩ := off_at.1 hat
      have HO : Hid (okO y) := ⟨hs0, hs1, hs2⟩
      rw [show offK.size = 3 from rfl] at h0 h1 h2
      have i0 : (0 : Int) ≤ (k : Int) := by omega
      have i1 : (k : Int) < (n : Int) := by omega
      have cc := hide (risCool_any _ l y now wr ((unhide HV).below (unhide hbel)))
      obtain ⟨q, hq⟩ : ∃ q, q = isCoolR l y now := ⟨_, rfl⟩
      rw [← hq] at hst cc
      unfold offA at cc
      clear hs0 hs1 hs2 hy hat hlk hF hq
      go_wp2_with fail
      refine (unhide cc).mono ?_
      rintro e w2 ⟨rfl, hw2⟩
      have B2 := hide (chain (unhide hbel) hw2)
      have R2 := hide ((unhide hrow).below hw2)
      have g0 := cell_kept hw2 h0
      have g1 := cell_kept hw2 h1
      have g2 := cell_kept hw2 h2
      clear hw2 cc h0 h1 h2 hrow hbel
      cases q
      rotate_left
      · have hn2 : Hid (leftR l (m.take (k + 1)) now = F) := by show _ = _; rw [unhide hst]; rfl
        clear hst
        go_wp2_with fail
        go_roundw
        case rel => exact ⟨k + 1, by omega, by go_num, by rw [unhide hn2]; exact R2, B2⟩
        case measure => simp [intOf]; omega
      have hn2 : Hid (leftR l (m.take (k + 1)) now = F ++ [y]) := by show _ = _; rw [unhide hst]; rfl
      have LS := hide (one_o (W := w2) y (unhide HO))
      have BA : Hid (Below w2.heap.size w2 (w2.alloc (.cells #[.string (bytesT y.1), .string (bytesT y.2.1), .string (bytesT y.2.2)] 23))) := boxb _
      have RA := hide ((unhide R2).below (unhide BA))
      have BB := hide (chain (unhide B2) (unhide BA))
      have hb1 : Hid ((F.length + [y].length) * 48 ≤ 140737488355328) := by have := unhide HL; have := unhide hkl; show (F.length + 1) * 48 ≤ _; omega
      clear hst hkl R2 B2
      go_wp2_with (at_builtin; refine append_offs rfl _ _ rfl w.heap.size _ F rfl (unhide RA) _ [y] rfl (unhide LS) (unhide hb1) (unhide BB).size ?_; intro v' w9 hown hg; have H9 := hide (And.intro hown hg); clear hown hg g0 g1 g2; go_frame)
      obtain ⟨hown, hg⟩ := unhide H9
      have B9 := hide (grow_on (unhide BB) (unhide RA).1 hg)
      have R9 := hide hown
      clear H9 hown hg
      go_wp2_with fail
      go_roundw
      case rel => exact ⟨k + 1, by omega, by go_num, by rw [unhide hn2]; exact R9, B9⟩
      case measure => simp [intOf]; omega
    · obtain rfl : k = n := by omega
      have hall : m.take k = m := List.take_of_length_le (by rw [← unhide HN]; exact Nat.le_refl _)
      rw [hall, ← unhide HR] at hrow
      clear hall
      go_wp2_with fail
      go_ret
      exact ⟨⟨_, rfl, unhide hrow⟩, unhide hbel⟩

set_option maxRecDepth 100000 in
set_option maxHeartbeats 8000000 in
theorem pleft_any (v u : Value) (l : List VCool) (m : List VOff) (now : Int) (w : World) (hv : Lst coolK w v l) (hu : Lst offK w u m) (hl : m.length * 48 ≤ 140737488355328) :
    Calls Try.prog 15 #[v, u, .int .i64 now] w fun e w' => (∃ v', e = .returned v' ∧ OwnO w' w.heap.size v' (leftR l m now)) ∧ Below w.heap.size w w' := by
  have HV := hide hv
  have HU := hide hu
  have HL := hide hl
  have hlen := hu.len
  have hlen1 := hv.len
  obtain ⟨a, c, rfl⟩ := hv.val
  obtain ⟨a2, c2, rfl⟩ := hu.val
  clear hv hu hl
  obtain ⟨n0, hn0⟩ : ∃ n, n = l.length := ⟨_, rfl⟩
  rw [← hn0] at HV hlen1 ⊢
  have HN0 := hide hn0
  clear hn0
  obtain ⟨n, hn⟩ : ∃ n, n = m.length := ⟨_, rfl⟩
  rw [← hn] at HU HL hlen ⊢
  have HN := hide hn
  clear hn
  obtain ⟨R, hR⟩ : ∃ R, R = leftR l m now := ⟨_, rfl⟩
  rw [← hR]
  have HR := hide hR
  clear hR
  have hmm := @run_makeMap Try.prog
  go_enter Try.func15, Try.ntmps15
  go_wp2_with fail
  clear hmm
  go_loopw [18] (fun i W => ∃ k : Nat, k ≤ n0 ∧ i = .int .i64 k ∧ Hid (MapK offT W w.heap.size (setG (l.take k) now) k) ∧ Hid (Below w.heap.size w W)) (fun i _ => n0 - (intOf i).toNat)
  case atStart => exact ⟨0, Nat.zero_le _, rfl, mapK_new offT w, boxb _⟩
  case round =>
    obtain ⟨k, hk, rfl, htab, hbel⟩ := hrel
    by_cases hlt : k < n0
    · have hlk : k < l.length := by rw [← unhide HN0]; exact hlt
      obtain ⟨b, o, rfl, hat⟩ := ((unhide HV).below (unhide hbel)).at hlk
      have hno := hide (fun (h : l[k].2 ≤ now) o => set_no (now := now) hlk (Int.not_lt.2 h) o)
      have hys := hide (fun h o => set_yes (now := now) hlk h o)
      obtain ⟨y, hy⟩ : ∃ y, y = l[k] := ⟨_, rfl⟩
      rw [← hy] at hat hno hys
      obtain ⟨h0123, h3⟩ := cool_at.1 hat
      obtain ⟨⟨h0, hs0⟩, ⟨h1, hs1⟩, h2, hs2⟩ := off_at.1 h0123
      have HO : Hid (okO y.1) := ⟨hs0, hs1, hs2⟩
      rw [show coolK.size = 4 from rfl] at h0 h1 h2 h3
      clear hs0 hs1 hs2 hy hat h0123 hlk
      have cc := hide (fun V => pcounts_any y now V)
      unfold coolA at cc
      obtain ⟨W0, hW0⟩ : ∃ W, W = wr.alloc (.cells #[.string (bytesT y.1.1), .string (bytesT y.1.2.1), .string (bytesT y.1.2.2), .int .i64 y.2] 25) := ⟨_, rfl⟩
      have B0 : Hid (Below wr.heap.size wr W0) := by rw [hW0]; exact boxb _
      have F0 : Hid (CBox W0 wr.heap.size y) := by rw [hW0]; exact cbox_new _ _
      have GW := hide hW0
      clear hW0
      go_wp2_with fail
      rw [← unhide GW]
      clear h0 h1 h2 h3
      refine (unhide cc _).mono ?_
      rintro e w2 ⟨rfl, hw2⟩
      have B2 := hide (chain (chain (unhide hbel) (unhide B0)) hw2)
      have F2 := hide ((unhide F0).below hw2)
      have T2 := hide ((unhide htab).below (chain (unhide B0) hw2))
      clear hw2 cc F0 B0 GW htab hbel
      by_cases hd : now < y.2
      case neg =>
        have hdd : decide (now < y.2) = false := decide_eq_false hd
        have T3 := hide (((unhide T2).congr (fun o _ => (unhide hno (by omega) o).symm)).mono (Nat.le_succ k))
        rw [hdd]
        clear hno hys hdd hd T2
        go_wp2_with fail
        exact ⟨⟨k + 1, by omega, by go_num, T3, B2⟩, by simp [intOf]; omega⟩
      have hdd : decide (now < y.2) = true := decide_eq_true hd
      have hstep := hide (unhide hys hd)
      rw [hdd]
      obtain ⟨f0, f1, f2, f3⟩ := unhide F2
      clear hno hys hdd hd
      go_wp2_with (at_mapUpdate; refine wpList_keepK (T := offT) rfl _ _ _ _ rfl 55 Try.underlying53 (unhide T2) (by unfold maxLen; omega) rfl y.1 rfl (unhide HO) (.agg #[]) rfl (fun o => if y.1 = o then some (.agg #[]) else setG (l.take k) now o) (if_pos rfl) (fun o ho => if_neg (fun e => ho e.symm)) ?_; intro w3 ht3 hg3; have T3 := hide (ht3.congr (fun o _ => unhide hstep o)); have B3 := hide (grown_bel6 (unhide B2) hg3 (Nat.le_refl _)); clear ht3 hg3 f0 f1 f2 f3)
      exact ⟨⟨k + 1, by omega, by go_num, T3, B3⟩, by simp [intOf]; omega⟩
    · obtain rfl : k = n0 := by omega
      have hall : l.take k = l := List.take_of_length_le (by rw [← unhide HN0]; exact Nat.le_refl _)
      rw [hall] at htab
      clear hall
      go_wp2_with fail
      obtain ⟨w2, hw2⟩ : ∃ W, W = wr := ⟨_, rfl⟩
      rw [← hw2] at hbel htab ⊢
      have B2 := hbel
      clear hbel hw2
      go_loopw [10, 32] (fun s i W => ∃ k : Nat, k ≤ n ∧ i = .int .i64 k ∧ Hid (OwnO W w2.heap.size s (leftR l (m.take k) now)) ∧ Hid (Below w2.heap.size w2 W)) (fun _ i _ => n - (intOf i).toNat)
      case atStart => exact ⟨0, Nat.zero_le _, rfl, ownO_nil _ _, Below.refl _ _⟩
      case round =>
        obtain ⟨j, hj, rfl, hrow, hbel⟩ := hrel
        by_cases hlt2 : j < n
        · have hlk : j < m.length := by rw [← unhide HN]; exact hlt2
          obtain ⟨b, o, rfl, hat⟩ := ((unhide HU).below (chain (unhide B2) (unhide hbel))).at hlk
          have hst := hide (left_snoc (l := l) (now := now) hlk)
          have hkl := hide (left_len l m now j)
          obtain ⟨y, hy⟩ : ∃ y, y = m[j] := ⟨_, rfl⟩
          rw [← hy] at hat hst
          obtain ⟨F, hF⟩ : ∃ F, F = leftR l (m.take j) now := ⟨_, rfl⟩
          rw [← hF] at hrow hst hkl
          obtain ⟨⟨h0, hs0⟩, ⟨h1, hs1⟩, h2, hs2⟩ := off_at.1 hat
          have HO : Hid (okO y) := ⟨hs0, hs1, hs2⟩
          rw [show offK.size = 3 from rfl] at h0 h1 h2
          obtain ⟨W0, hW0⟩ : ∃ W, W = wr.alloc (.cells #[.string (bytesT y.1), .string (bytesT y.2.1), .string (bytesT y.2.2)] 23) := ⟨_, rfl⟩
          have B0 : Hid (Below wr.heap.size wr W0) := by rw [hW0]; exact boxb _
          have F0 : Hid (W0.cell? ⟨wr.heap.size, 0, none⟩ = some (.string (bytesT y.1)) ∧ W0.cell? ⟨wr.heap.size, 1, none⟩ = some (.string (bytesT y.2.1)) ∧ W0.cell? ⟨wr.heap.size, 2, none⟩ = some (.string (bytesT y.2.2))) := by rw [hW0]; exact ⟨by simp [go_sem], by simp [go_sem], by simp [go_sem]⟩
          have lk := look_set (((unhide htab).below (unhide hbel)).below (unhide B0)) (unhide HO)
          obtain ⟨q, hq⟩ : ∃ q, q = isCoolR l y now := ⟨_, rfl⟩
          rw [← hq] at hst lk
          unfold offA at lk
          have GW := hide hW0
          rw [hW0] at lk
          clear hs0 hs1 hs2 hy hat hlk hF hq hW0
          have hU : (zeroValue 55).run Try.prog W0 = .ok (.agg #[]) W0 := zeroU W0
          cases q
          rotate_left
          · have hn2 : Hid (leftR l (m.take (j + 1)) now = F) := by show _ = _; rw [unhide hst]; rfl
            have R2 := hide (((unhide hrow).below (unhide B0)).below (boxb (.cells #[] 55)))
            have B3 := hide (chain (chain (unhide hbel) (unhide B0)) (boxb (.cells #[] 55)))
            rw [unhide GW] at R2 B3
            clear hst hU
            go_wp2_with fail
            exact ⟨⟨j + 1, by omega, by go_num, by rw [unhide hn2]; exact R2, B3⟩, by simp [intOf]; omega⟩
          have hn2 : Hid (leftR l (m.take (j + 1)) now = F ++ [y]) := by show _ = _; rw [unhide hst]; rfl
          obtain ⟨V, hV⟩ : ∃ V, V = W0.alloc (.cells #[] 55) := ⟨_, rfl⟩
          have BV : Hid (Below wr.heap.size wr V) := by rw [hV]; exact chain (unhide B0) (boxb _)
          have LS := hide (one_o (W := V) y (unhide HO))
          have BA : Hid (Below V.heap.size V (V.alloc (.cells #[.string (bytesT y.1), .string (bytesT y.2.1), .string (bytesT y.2.2)] 23))) := boxb _
          have RA := hide (((unhide hrow).below (unhide BV)).below (unhide BA))
          have BB := hide (chain (chain (unhide hbel) (unhide BV)) (unhide BA))
          have hb1 : Hid ((F.length + [y].length) * 48 ≤ 140737488355328) := by have := unhide HL; have := unhide hkl; show (F.length + 1) * 48 ≤ _; omega
          rw [show V.heap.size = wr.heap.size + 1 + 1 by rw [hV, unhide GW]; simp] at LS
          rw [hV, unhide GW] at LS RA BB
          clear hst hkl hU BV BA hV
          go_wp2_with (at_builtin; refine append_offs rfl _ _ rfl w2.heap.size _ F rfl (unhide RA) _ [y] rfl (unhide LS) (unhide hb1) (unhide BB).size ?_; intro v' w9 hown hg; have H9 := hide (And.intro hown hg); clear hown hg h0 h1 h2 lk; go_frame)
          obtain ⟨hown, hg⟩ := unhide H9
          have B9 := hide (grow_on (unhide BB) (unhide RA).1 hg)
          have R9 := hide hown
          clear H9 hown hg
          go_roundw
          case rel => exact ⟨j + 1, by omega, by go_num, by rw [unhide hn2]; exact R9, B9⟩
          case measure => simp [intOf]; omega
        · obtain rfl : j = n := by omega
          have hall : m.take j = m := List.take_of_length_le (by rw [← unhide HN]; exact Nat.le_refl _)
          rw [hall, ← unhide HR] at hrow
          clear hall
          go_wp2_with fail
          go_ret
          exact ⟨⟨_, rfl, (unhide hrow).mono (unhide B2).size⟩, chain (unhide B2) (unhide hbel)⟩
end Go.Proofs.Ytcpgodkgdceocaa
