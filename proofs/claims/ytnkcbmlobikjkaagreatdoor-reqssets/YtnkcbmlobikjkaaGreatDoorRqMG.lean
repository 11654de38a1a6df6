/- Layer 4: contract of the document's find. -/
import Derived.Test.YtnkcbmlobikjkaaGreatDoorRqKG
import Derived.Test.YtnkcbmlobikjkaaGreatDoorRqEG
namespace Go.Proofs.YtnkcbmlobikjkaaGreatDoor
open Go.RowKit Suf Val Go.Maps

/-- What find answers: the first place of the key, or -1. -/
def foundAt (st : List VKS) (key : Txt) (z : Int) : Prop :=
  (∃ (k : Nat) (h : k < st.length), z = k ∧ st[k].2.1 = key ∧ ∀ x ∈ st.take k, ¬ x.2.1 = key) ∨ (z = -1 ∧ ∀ x ∈ st, ¬ x.2.1 = key)

set_option maxRecDepth 100000 in
set_option maxHeartbeats 8000000 in
theorem rfind_any (xa : Option Addr) (n xc base : Nat) (st : List VKS) (key : Txt) (w : World) (hO : OwnK 45 w base (.slice xa n xc) st) (hn : n = st.length) (h16 : n ≤ 16) :
    Calls Tryz.prog 33 #[.slice xa n xc, .string (bytesT key)] w fun e w' => (∃ z : Int, e = .returned (.int .i64 z) ∧ foundAt st key z) ∧ Below w.heap.size w w' := by
  have HO := hide hO
  have HN := hide hn
  clear hO hn
  obtain ⟨R, hR⟩ : ∃ R, R = foundAt st key := ⟨_, rfl⟩
  rw [← hR]
  have HR := hide hR
  clear hR
  obtain ⟨Y, hY⟩ : ∃ Y, Y = bytesT key := ⟨_, rfl⟩
  rw [← hY]
  have GY := hide hY
  clear hY
  go_enter Tryz.func33, Tryz.ntmps33
  go_wp2_with fail
  go_loopw [5] (fun i W => ∃ k : Nat, k ≤ n ∧ i = .int .i64 k ∧ Hid (∀ x ∈ st.take k, ¬ x.2.1 = key) ∧ Hid (Below w.heap.size w W)) (fun i _ => n - (intOf i).toNat)
  case atStart => exact ⟨0, Nat.zero_le _, rfl, fun x hx => (by cases hx), Below.refl _ _⟩
  case round =>
    obtain ⟨k, hk, rfl, hnone, hbel⟩ := hrel
    by_cases hlt : k < n
    · have hxk : k < st.length := by rw [← unhide HN]; exact hlt
      obtain ⟨g, rfl, hsev⟩ := ((unhide HO).below (unhide hbel)).at hxk
      have htk := hide (take_nextG st k hxk)
      have hfd : Hid (st[k].2.1 = key → R k) := fun h => by rw [unhide HR]; exact Or.inl ⟨k, hxk, rfl, h, unhide hnone⟩
      obtain ⟨y, hy⟩ : ∃ y, y = st[k] := ⟨_, rfl⟩
      rw [← hy] at hsev htk hfd
      obtain ⟨s0, _⟩ := hsev
      have hq := eq_txts y.2.1 key
      obtain ⟨q, hqq⟩ : ∃ q, q = (y.2.1 == key) := ⟨_, rfl⟩
      rw [← hqq] at hq
      obtain ⟨X, hX⟩ : ∃ X, X = bytesT y.2.1 := ⟨_, rfl⟩
      rw [← hX] at s0 hq
      rw [← unhide GY] at hq
      have GQ := hide hqq
      clear hX hqq hy hxk
      cases q
      · have hn2 : Hid (∀ x ∈ st.take (k + 1), ¬ x.2.1 = key) := fun x hx => by
          rw [unhide htk] at hx
          rcases List.mem_append.1 hx with h | h
          · exact unhide hnone x h
          · rw [List.mem_singleton] at h; rw [h]; exact fun he => by have := unhide GQ; rw [he] at this; simp at this
        go_wp2_with fail
        go_roundw
        case rel => exact ⟨k + 1, by omega, by go_num, hn2, hbel⟩
        case measure => simp [intOf]; omega
      · have hfin : Hid (R k) := unhide hfd (eq_of_beq (unhide GQ).symm)
        go_wp2_with fail
        go_ret
        exact ⟨⟨(k : Int), rfl, unhide hfin⟩, unhide hbel⟩
    · obtain rfl : k = n := by omega
      have hfin : Hid (R (-1)) := by
        show R (-1)
        have := unhide hnone
        rw [List.take_of_length_le (by rw [← unhide HN]; exact Nat.le_refl _)] at this
        rw [unhide HR]; exact Or.inr ⟨rfl, this⟩
      go_wp2_with fail
      go_ret
      exact ⟨⟨-1, rfl, unhide hfin⟩, unhide hbel⟩
end Go.Proofs.YtnkcbmlobikjkaaGreatDoor

/- Layer 4: lists of requirements appended to a list of the call's own. -/
namespace Go.Proofs.YtnkcbmlobikjkaaGreatDoor
open Go.RowKit Suf Val Go.Maps

theorem Tryz.infoReq : (Tryz.prog.info? 25).map (fun i => (i.zero, i.size, i.bytes)) = some (some (.agg #[.string ⟨#[]⟩, .int .i64 0, .slice none 0 0, .int .i64 0]), 4, 56) := by kernel_rfl

/-- The cells of a list of requirements, whose texts lie in w. -/
def Rowed (w : World) (news : List Value) (l : List VReq) : Prop :=
  news.length = l.length * 4 ∧ ∀ j (h : j < l.length), ∃ u, news[j * 4]? = some (.string (bytesT l[j].key)) ∧ news[j * 4 + 1]? = some (.int .i64 l[j].op) ∧ news[j * 4 + 2]? = some u ∧ news[j * 4 + 3]? = some (.int .i64 l[j].n) ∧ Strs w u l[j].vals ∧ short l[j].key ∧ Capd u
theorem rowed_nil (w : World) : Rowed w [] [] := ⟨rfl, fun _ h => absurd h (Nat.not_lt_zero _)⟩
theorem Rowed.below {w w' : World} {news : List Value} {l : List VReq} (h : Rowed w news l) (hb : Below w.heap.size w w') : Rowed w' news l :=
  ⟨h.1, fun j hj => by obtain ⟨u, h0, h1, h2, h3, h4, h5⟩ := h.2 j hj; exact ⟨u, h0, h1, h2, h3, h4.below hb, h5⟩⟩
theorem Rowed.append {w : World} {n1 n2 : List Value} {l1 l2 : List VReq} (h1 : Rowed w n1 l1) (h2 : Rowed w n2 l2) : Rowed w (n1 ++ n2) (l1 ++ l2) := by
  refine ⟨by rw [List.length_append, List.length_append, h1.1, h2.1]; omega, fun j hj => ?_⟩
  by_cases hlt : j < l1.length
  · obtain ⟨u, a0, a1, a2, a3, a4⟩ := h1.2 j hlt
    have e : (l1 ++ l2)[j] = l1[j] := List.getElem_append_left hlt
    rw [e]
    have hl := h1.1
    refine ⟨u, ?_, ?_, ?_, ?_, a4⟩
    · rw [List.getElem?_append_left (by omega)]; exact a0
    · rw [List.getElem?_append_left (by omega)]; exact a1
    · rw [List.getElem?_append_left (by omega)]; exact a2
    · rw [List.getElem?_append_left (by omega)]; exact a3
  · have hj2 : j - l1.length < l2.length := by rw [List.length_append] at hj; omega
    obtain ⟨u, a0, a1, a2, a3, a4⟩ := h2.2 (j - l1.length) hj2
    have e : (l1 ++ l2)[j] = l2[j - l1.length] := List.getElem_append_right (by omega)
    rw [e]
    have hl := h1.1
    refine ⟨u, ?_, ?_, ?_, ?_, a4⟩
    · rw [List.getElem?_append_right (by omega), show j * 4 - n1.length = (j - l1.length) * 4 by omega]; exact a0
    · rw [List.getElem?_append_right (by omega), show j * 4 + 1 - n1.length = (j - l1.length) * 4 + 1 by omega]; exact a1
    · rw [List.getElem?_append_right (by omega), show j * 4 + 2 - n1.length = (j - l1.length) * 4 + 2 by omega]; exact a2
    · rw [List.getElem?_append_right (by omega), show j * 4 + 3 - n1.length = (j - l1.length) * 4 + 3 by omega]; exact a3
/-- A list of requirements, as cells. -/
theorem reqs_row {w : World} {a : Option Addr} {n c : Nat} {l : List VReq} (h : Reqs w (.slice a n c) l) :
    ∃ news, Rowed w news l ∧ (∀ u ∈ news, u.oneCell' = true) ∧ (∀ ad, a = some ad → ∀ j u, news[j]? = some u → w.cell? (ad.add j) = some u) := by
  obtain ⟨a', c', e, hc, _⟩ := h
  injection e with e1 e2 e3
  subst e1
  clear e2 e3
  suffices H : ∀ k, k ≤ l.length → ∃ news, Rowed w news (l.take k) ∧ (∀ u ∈ news, u.oneCell' = true) ∧ (∀ ad, a = some ad → ∀ j u, news[j]? = some u → w.cell? (ad.add j) = some u) by
    have := H l.length (Nat.le_refl _)
    rw [List.take_length] at this
    exact this
  intro k
  induction k with
  | zero => exact fun _ => ⟨[], rowed_nil w, fun u hu => (by cases hu), fun ad _ j u hu => (by cases hu)⟩
  | succ k ih =>
    intro hk
    obtain ⟨news, h1, h2, h3⟩ := ih (by omega)
    obtain ⟨b, o, u, e, hr⟩ := hc k (by omega)
    rw [take_nextG l k (by omega)]
    have hkl : (l.take k).length = k := by rw [List.length_take]; omega
    obtain ⟨r, hrr⟩ : ∃ r, r = l[k] := ⟨_, rfl⟩
    rw [← hrr] at hr ⊢
    obtain ⟨r0, r1, r2, r3, r4, r5, r6⟩ := hr
    refine ⟨news ++ [.string (bytesT r.key), .int .i64 r.op, u, .int .i64 r.n], h1.append ⟨rfl, fun j hj => ?_⟩, fun x hx => ?_, fun ad had j x hx => ?_⟩
    · obtain rfl : j = 0 := by simp at hj; exact hj
      exact ⟨u, rfl, rfl, rfl, rfl, r4, r5, r6⟩
    · rcases List.mem_append.1 hx with hx | hx
      · exact h2 x hx
      · obtain ⟨ua, uc, hue⟩ := r4.val
        subst hue
        simp only [List.mem_cons, List.not_mem_nil, or_false] at hx
        rcases hx with rfl | rfl | rfl | rfl <;> rfl
    · by_cases hlt : j < news.length
      · rw [List.getElem?_append_left hlt] at hx; exact h3 ad had j x hx
      · rw [List.getElem?_append_right (by omega)] at hx
        rw [had] at e
        injection e with e
        subst e
        rw [show (⟨b, o, none⟩ : Addr).add j = ⟨b, o + j, none⟩ by unfold Addr.add; split <;> simp_all]
        have hl := h1.1
        obtain ⟨i, hi⟩ : ∃ i, i = j - news.length := ⟨_, rfl⟩
        rw [← hi] at hx
        have hj : o + j = o + k * 4 + i := by rw [hkl] at hl; omega
        rw [hj]
        match i, hx with
        | 0, hx => injection hx with hx; subst hx; exact r0
        | 1, hx => injection hx with hx; subst hx; exact r1
        | 2, hx => injection hx with hx; subst hx; exact r2
        | 3, hx => injection hx with hx; subst hx; exact r3
        | i + 4, hx => cases hx
theorem row_reqs {w : World} {base : Nat} {T : TypeId} {v : Value} {n : Nat} {news : List Value} {l : List VReq} (h : w.ownsRow base T 4 v n news) (hr : Rowed w news l) (hn : n = l.length) (hl : l.length ≤ 4398046511104) : Reqs w v l := by
  subst hn
  rcases h.2 with ⟨rfl, h0⟩ | ⟨g, cap, cur, rfl, hb, hg, hcap, hmax, hsz, htk⟩
  · rw [h0.symm]
    exact ⟨none, 0, by rw [h0], fun j hj => by omega, hl⟩
  · refine ⟨some ⟨g, 0, none⟩, cap, rfl, fun j hj => ?_, hl⟩
    obtain ⟨u, a0, a1, a2, a3, a4⟩ := hr.2 j hj
    have hc : ∀ i x, i < l.length * 4 → news[i]? = some x → w.cell? ⟨g, i, none⟩ = some x := fun i x hi hx => by
      rw [cell_of_row w g i cur T (0, 0) hg]
      rw [← htk, List.getElem?_take_of_lt hi] at hx
      simpa using hx
    exact ⟨g, 0, u, rfl, by rw [Nat.zero_add]; exact ⟨hc _ _ (by omega) a0, hc _ _ (by omega) a1, hc _ _ (by omega) a2, hc _ _ (by omega) a3, a4⟩⟩
/-- Requirements appended to a row of the call's own. -/
theorem wpList_append_reqs {w : World} {ops : Array Oper} {rest : List Oper} {o : Oper} {a : Act} {Q : Exit → Act → World → Prop} (hgd : o.guard = none) (s x : Operand)
    (ho : o.op = .call { callee := .builtin .append, args := #[s, x], argTypes := #[22, 22] })
    (base : Nat) (v : Value) (n : Nat) (xs : List Value) (hs : a.eval s = v) (hown : w.ownsRow base 25 4 v n xs) (u : Value) (l : List VReq) (hx : a.eval x = u) (w0 : World) (hw0 : Below w0.heap.size w0 w) (hsrc : Reqs w0 u l)
    (hlen : n + l.length ≤ 1000) (hbase : base ≤ w.heap.size)
    (h : ∀ v' w' news, Rowed w0 news l → w'.ownsRow base 25 4 v' (n + l.length) (xs ++ news) → w.grownBy w' v.ownBlock → wpList Tryz.prog ops Q rest (a.put o.dst v') w') : wpList Tryz.prog ops Q (o :: rest) a w := by
  obtain ⟨i, hi, hz, hz1, hz2⟩ := info_partsS Tryz.infoReq
  obtain ⟨ad, c, rfl⟩ := hsrc.val
  obtain ⟨news, hr, h1, hc⟩ := reqs_row hsrc
  cases ad with
  | none =>
    have hm : l = [] := by
      cases l with
      | nil => rfl
      | cons t m => obtain ⟨b, o, u, e, _⟩ := hsrc.at (j := 0) (by simp); cases e
    subst hm
    obtain rfl : news = [] := List.eq_nil_of_length_eq_zero (by rw [hr.1]; rfl)
    refine wpList_append_nil hgd s x _ ho base 25 i 4 c Tryz.underlying22 hi v n _ hs hown hx (h v w [] hr ?_ (grown_refl _ _))
    rw [List.append_nil]; exact hown
  | some ad =>
    refine wpList_append_own w hgd s x _ ho base 25 i _ 4 56 Tryz.underlying22 hi hz hz1 hz2 rfl (by decide) v n _ hs hown ad l.length c news hx hr.1 (fun j x hj => cell_kept hw0 (hc ad rfl j x hj)) h1 (by unfold maxLen; omega) (by omega) hbase ?_
    intro v' w' h2 h3 _
    exact h v' w' news hr h2 h3
end Go.Proofs.YtnkcbmlobikjkaaGreatDoor
