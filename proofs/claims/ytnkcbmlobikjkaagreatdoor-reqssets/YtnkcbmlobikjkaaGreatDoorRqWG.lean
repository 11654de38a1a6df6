/- Layer 4: plain facts for the laws; one requirement appended. -/
import Derived.Test.YtnkcbmlobikjkaaGreatDoorRqUG
namespace Go.Proofs.YtnkcbmlobikjkaaGreatDoor
open Go.RowKit Suf Val Go.Maps

theorem adm_step {ls : List Lab} {k : Nat} (h : k < ls.length) (hn : ∀ x ∈ ls.take k, ¬ x.1 = ls[k].1) (key : Txt) (s : VSet) :
    admB (ls.take (k + 1)) (key, s) = if ls[k].1 = key then hasB s ls[k].2 else admB (ls.take k) (key, s) := by
  unfold admB
  simp only
  rw [take_nextG ls k h, lookL_snoc]
  by_cases e : ls[k].1 = key
  · have hno : lookL key (ls.take k) = none := lookL_none.2 (fun x hx => by rw [← e]; exact hn x hx)
    rw [hno, if_pos e, if_pos e]
  · rw [if_neg e, if_neg e]
    cases lookL key (ls.take k) with
    | none => rfl
    | some v => rfl
theorem more_wide {a : List VReq} (h : moreR 8 a = 0) : moreR 16 a = 0 := more_ok.2 ⟨by have := (more_ok.1 h).1; omega, (more_ok.1 h).2⟩
theorem more_back {a : List VReq} (h : moreR 8 a = 0) : moreR 16 (a.reverse ++ a) = 0 := more_ok.2 ⟨by have := (more_ok.1 h).1; simp; omega, fun r hr => (more_ok.1 h).2 r (by simpa using hr)⟩
theorem more_both {a b : List VReq} (h : moreR 8 a = 0) (h2 : moreR 8 b = 0) : moreR 16 (a ++ b) = 0 := more_ok.2 ⟨by have := (more_ok.1 h).1; have := (more_ok.1 h2).1; simp; omega, fun r hr => by
  rcases List.mem_append.1 hr with hr | hr
  · exact (more_ok.1 h).2 r hr
  · exact (more_ok.1 h2).2 r hr⟩
theorem adm_all {a b : List VReq} {ls : List Lab} (ha : moreR 8 a = 0) (hb : moreR 8 b = 0) : ∃ x z e, admitsR a ls = (x, e) ∧ admitsR (a.reverse ++ a) ls = (x, e) ∧ admitsR b ls = (z, e) ∧ admitsR (a ++ b) ls = (x && z, e) := by
  by_cases hl : labelsR ls = 0
  · rw [admits_is (more_wide ha) hl, admits_is (more_back ha) hl, admits_is (more_wide hb) hl, admits_is (more_both ha hb) hl]
    refine ⟨_, _, _, rfl, ?_, rfl, ?_⟩
    · rw [List.all_append, List.all_reverse, Bool.and_self]
    · rw [List.all_append]
  · rw [admits_lab (more_wide ha) hl, admits_lab (more_back ha) hl, admits_lab (more_wide hb) hl, admits_lab (more_both ha hb) hl]
    exact ⟨_, _, _, rfl, rfl, rfl, rfl⟩
/-- One requirement appended to a row of the call's own. -/
theorem wpList_append_req {w : World} {ops : Array Oper} {rest : List Oper} {o : Oper} {a : Act} {Q : Exit → Act → World → Prop} (hgd : o.guard = none) (s x : Operand)
    (ho : o.op = .call { callee := .builtin .append, args := #[s, x], argTypes := #[22, 22] })
    (base : Nat) (v : Value) (n : Nat) (xs : List Value) (hs : a.eval s = v) (hown : w.ownsRow base 25 4 v n xs) (B : Nat) (key : ByteArray) (op : Int) (ua : Option Addr) (un uc : Nat) (z : Int) (hx : a.eval x = .slice (some ⟨B, 0, none⟩) 1 1)
    (h0 : w.cell? ⟨B, 0, none⟩ = some (.string key)) (h1 : w.cell? ⟨B, 1, none⟩ = some (.int .i64 op)) (h2 : w.cell? ⟨B, 2, none⟩ = some (.slice ua un uc)) (h3 : w.cell? ⟨B, 3, none⟩ = some (.int .i64 z))
    (hlen : n + 1 ≤ 1000) (hbase : base ≤ w.heap.size)
    (h : ∀ v' w', w'.ownsRow base 25 4 v' (n + 1) (xs ++ [.string key, .int .i64 op, .slice ua un uc, .int .i64 z]) → w.grownBy w' v.ownBlock → (∃ g cap, v' = .slice (some ⟨g, 0, none⟩) (n + 1) cap ∧ n + 1 ≤ cap) → wpList Tryz.prog ops Q rest (a.put o.dst v') w') : wpList Tryz.prog ops Q (o :: rest) a w := by
  obtain ⟨i, hi, hz, hz1, hz2⟩ := info_partsS Tryz.infoReq
  refine wpList_append_own w hgd s x _ ho base 25 i _ 4 56 Tryz.underlying22 hi hz hz1 hz2 rfl (by decide) v n _ hs hown ⟨B, 0, none⟩ 1 1 [.string key, .int .i64 op, .slice ua un uc, .int .i64 z] hx rfl ?_ ?_ (by unfold maxLen; omega) (by omega) hbase ?_
  · intro j u hu
    rw [show (⟨B, 0, none⟩ : Addr).add j = ⟨B, j, none⟩ by unfold Addr.add; split <;> simp_all]
    rcases j with _ | _ | _ | _ | j
    · rw [List.getElem?_cons_zero] at hu; rw [← hu]; exact h0
    · rw [List.getElem?_cons_succ, List.getElem?_cons_zero] at hu; rw [← hu]; exact h1
    · rw [List.getElem?_cons_succ, List.getElem?_cons_succ, List.getElem?_cons_zero] at hu; rw [← hu]; exact h2
    · rw [List.getElem?_cons_succ, List.getElem?_cons_succ, List.getElem?_cons_succ, List.getElem?_cons_zero] at hu; rw [← hu]; exact h3
    · simp at hu
  · intro u hu
    simp only [List.mem_cons, List.not_mem_nil, or_false] at hu
    rcases hu with rfl | rfl | rfl | rfl <;> rfl
  · intro v' w' h2 h3 _
    refine h v' w' h2 h3 ?_
    rcases h2.2 with ⟨_, h0⟩ | ⟨g, cap, cur, rfl, _, _, hc, _⟩
    · omega
    · exact ⟨g, cap, rfl, hc⟩
theorem Rowed.one {w : World} {r : VReq} {ua : Option Addr} {un uc : Nat} (h : Strs w (.slice ua un uc) r.vals) (hs : short r.key) (hc : Capd (.slice ua un uc)) : Rowed w [.string (bytesT r.key), .int .i64 r.op, .slice ua un uc, .int .i64 r.n] [r] := by
  refine ⟨rfl, fun j hj => ?_⟩
  obtain rfl : j = 0 := by simp at hj; exact hj
  exact ⟨_, rfl, rfl, rfl, rfl, h, hs, hc⟩
end Go.Proofs.YtnkcbmlobikjkaaGreatDoor
