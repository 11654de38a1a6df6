/- Layer 9,plain mathematics alone: pods,pools,claims,commands and coolings as bytes. No program is named. -/
import Derived.Test.YtfpfdnapamdhjaaGreatDoorO8AGZ
import Derived.Test.YtfpfdnapamdhjaaGreatDoorCdAGZ
namespace Go.Proofs.YtfpfdnapamdhjaaGreatDoor.Val
open Suf

/-- A kind of objects: their bytes,which may be. -/
structure Kind (α : Type) where
  c : Cod α
  chk : α -> Int
  small : ∀ x,chk x = 0 -> c.ok x /\ (c.w x).length <= 4096
  some' : ∀ x,c.w x ≠ []
section
variable {α : Type}
def encK (K : Kind α) (x : α) : Txt × Int := if K.chk x = 0 then (K.c.w x,0) else ([],K.chk x)
/-- What was read,if nothing stands behind,and it may be. -/
def endK (K : Kind α) : Got α -> Except Int α
  | .error e => .error e
  | .ok (x,t) => if t = [] then (if K.chk x = 0 then .ok x else .error (K.chk x)) else .error 20
def decK (K : Kind α) (b : Txt) : Except Int α := if 4096 < b.length then .error 2 else endK K (K.c.r b)
theorem dec_enc (K : Kind α) {x : α} (h : K.chk x = 0) : decK K (K.c.w x) = .ok x := by
  obtain ⟨h1,h2⟩ := K.small x h
  have hb := K.c.back [] h1
  rw [List.append_nil] at hb
  unfold decK
  rw [if_neg (by omega),hb]
  show (if ([] : Txt) = [] then (if K.chk x = 0 then Except.ok x else .error (K.chk x)) else .error 20) = _
  rw [if_pos rfl,if_pos h]
theorem dec_cut (K : Kind α) {x : α} (h : K.chk x = 0) : decK K ((K.c.w x).take ((K.c.w x).length - 1)) = .error 90 := by
  obtain ⟨h1,h2⟩ := K.small x h
  have hl : 0 < (K.c.w x).length := List.length_pos_iff.2 (K.some' x)
  have e := cod_short K.c h1 (List.take_append_drop ((K.c.w x).length - 1) (K.c.w x)).symm (by
    intro hd
    have := congrArg List.length hd
    rw [List.length_drop] at this
    simp at this
    omega)
  unfold decK
  rw [if_neg (by rw [List.length_take]; omega),e]
  rfl
end

/-! The kinds. -/
def offC : Cod VOff := pairC txtC (pairC txtC txtC)
def amtC : Cod (Int × Int) := pairC numC numC
def labC : Cod (Txt × Txt) := pairC txtC txtC
def tolC : Cod (Txt × Txt × Bool) := pairC txtC (pairC txtC truthC)
def sprC : Cod VSpr := pairC txtC (pairC txtC numC)
def reqC : Cod VReq := isoC (pairC txtC (pairC numC (pairC (listC txtC) numC))) (fun r => (r.key,r.op,r.vals,r.n)) (fun x => ⟨x.1,x.2.1,x.2.2.1,x.2.2.2⟩) (fun _ => rfl) (fun _ => rfl)
def podC : Cod VPod := isoC (pairC txtC (pairC txtC (pairC amtC (pairC numC (pairC (listC reqC) (pairC (listC tolC) (pairC (listC sprC) (pairC (listC labC) (pairC (listC labC) (pairC numC txtC))))))))))
  (fun p => (p.name,p.app,p.need,p.prio,p.reqs,p.tols,p.spread,p.near,p.apart,p.since,p.on))
  (fun x => ⟨x.1,x.2.1,x.2.2.1,x.2.2.2.1,x.2.2.2.2.1,x.2.2.2.2.2.1,x.2.2.2.2.2.2.1,x.2.2.2.2.2.2.2.1,x.2.2.2.2.2.2.2.2.1,x.2.2.2.2.2.2.2.2.2.1,x.2.2.2.2.2.2.2.2.2.2⟩) (fun _ => rfl) (fun _ => rfl)
def polC : Cod VPool := isoC (pairC txtC (pairC numC (pairC amtC (pairC (listC reqC) (pairC (listC labC) (pairC numC (pairC numC (pairC numC numC))))))))
  (fun p => (p.name,p.weight,p.limit,p.reqs,p.taints,p.gen,p.expire,p.budget,p.merge))
  (fun x => ⟨x.1,x.2.1,x.2.2.1,x.2.2.2.1,x.2.2.2.2.1,x.2.2.2.2.2.1,x.2.2.2.2.2.2.1,x.2.2.2.2.2.2.2.1,x.2.2.2.2.2.2.2.2⟩) (fun _ => rfl) (fun _ => rfl)
def clmC : Cod VClaim := isoC (pairC txtC (pairC txtC (pairC numC (pairC offC (pairC numC (pairC amtC (pairC (listC offC) (pairC numC (pairC txtC (pairC numC (pairC numC truthC)))))))))))
  (fun p => (p.name,p.pool,p.gen,p.offer,p.price,p.cap,p.opts,p.tryN,p.id,p.phase,p.born,p.marked))
  (fun x => ⟨x.1,x.2.1,x.2.2.1,x.2.2.2.1,x.2.2.2.2.1,x.2.2.2.2.2.1,x.2.2.2.2.2.2.1,x.2.2.2.2.2.2.2.1,x.2.2.2.2.2.2.2.2.1,x.2.2.2.2.2.2.2.2.2.1,x.2.2.2.2.2.2.2.2.2.2.1,x.2.2.2.2.2.2.2.2.2.2.2⟩) (fun _ => rfl) (fun _ => rfl)
def cmdC : Cod VCmd := isoC (pairC numC (pairC (listC txtC) (pairC numC (pairC numC (pairC txtC (pairC txtC (pairC (listC offC) truthC)))))))
  (fun p => (p.cause,p.nodes,p.step,p.til,p.fresh,p.pool,p.opts,p.made))
  (fun x => ⟨x.1,x.2.1,x.2.2.1,x.2.2.2.1,x.2.2.2.2.1,x.2.2.2.2.2.1,x.2.2.2.2.2.2.1,x.2.2.2.2.2.2.2⟩) (fun _ => rfl) (fun _ => rfl)
def coolC : Cod VCool := pairC offC numC

theorem name16 {s : Txt} (h : nameB s = true) : s.length <= 16 := by
  unfold nameB at h
  simp only [Bool.and_eq_true,decide_eq_true_eq] at h
  omega
theorem value16 {s : Txt} (h : valueB s = true) : s.length <= 16 := by
  unfold valueB at h
  rcases Bool.or_eq_true_iff.1 h with h | h
  · exact name16 h
  · unfold numO at h
    split at h
    · omega
    · cases h
theorem txt_w {s : Txt} (h : s.length <= 16) : txtC.ok s /\ (txtC.w s).length <= 17 := by
  refine ⟨?_,?_⟩
  · show s.length < 256; omega
  · show s.length + 1 <= 17; omega
theorem num_w {z : Int} (h : -1000000000000000000 <= z /\ z <= 1000000000000000000) : numC.ok z /\ (numC.w z).length <= 8 := by
  refine ⟨?_,?_⟩
  · show -9223372036854775808 <= z /\ z < 9223372036854775808; omega
  · show (bytesN 8 z).length <= 8; rw [bytesN_len]; omega
theorem truth_w (z : Bool) : truthC.ok z /\ (truthC.w z).length <= 1 := ⟨trivial,Nat.le_refl _⟩
section
variable {α β : Type}
theorem pair_w {A : Cod α} {B : Cod β} {x : α} {y : β} {m n : Nat} (h1 : A.ok x /\ (A.w x).length <= m) (h2 : B.ok y /\ (B.w y).length <= n) : (pairC A B).ok (x,y) /\ ((pairC A B).w (x,y)).length <= m + n := by
  refine ⟨⟨h1.1,h2.1⟩,?_⟩
  show (A.w x ++ B.w y).length <= _
  rw [List.length_append]
  omega
theorem list_w {A : Cod α} {l : List α} {k m : Nat} (hk : l.length <= k) (hk1 : k < 256) (h : ∀ x ∈ l,A.ok x /\ (A.w x).length <= m) : (listC A).ok l /\ ((listC A).w l).length <= k * m + 1 := by
  refine ⟨⟨by omega,fun x hx => (h x hx).1⟩,?_⟩
  show (manyW A l).length + 1 <= _
  have := manyW_len A (m := m) fun x hx => (h x hx).2
  have h2 : l.length * m <= k * m := Nat.mul_le_mul_right _ hk
  omega
end
theorem off_w {o : VOff} (h : namedO o = true) : offC.ok o /\ (offC.w o).length <= 51 := by
  unfold namedO at h
  simp only [Bool.and_eq_true] at h
  exact pair_w (txt_w (name16 h.1)) (pair_w (txt_w (name16 h.2.1)) (txt_w (name16 h.2.2)))
theorem offF_names : ∀ {l seen : List VOff},offF seen l = 0 -> ∀ o ∈ l,namedO o = true
  | [],_,_,o,ho => by cases ho
  | x :: l,seen,h,o,ho => by
    have h1 : (if namedO x = false then 7 else if seen.any (fun y => y == x) = true then 6 else offF (seen ++ [x]) l) = 0 := h
    split at h1
    · cases h1
    split at h1
    · cases h1
    rename_i g1 _
    rcases List.mem_cons.1 ho with rfl | ho
    · simpa using g1
    · exact offF_names h1 o ho
theorem offs_w {l : List VOff} (h : offsR8 l = 0) : (listC offC).ok l /\ ((listC offC).w l).length <= 72 * 51 + 1 := by
  unfold offsR8 at h
  split at h
  · cases h
  · exact list_w (by omega) (by omega) fun o ho => off_w (offF_names h o ho)
theorem amt_w {a : Int × Int} (h : Am.chkA a.1 a.2 = 0) : amtC.ok a /\ (amtC.w a).length <= 16 := by
  obtain ⟨h1,h2⟩ := Am.fst2_eq h
  have := Am.chk_eq h1
  have := Am.chk_eq h2
  exact pair_w (num_w (by omega)) (num_w (by omega))
theorem reqs_w {l : List VReq} (h : moreR 8 l = 0) : (listC reqC).ok l /\ ((listC reqC).w l).length <= 8 * 170 + 1 := by
  obtain ⟨h1,h2⟩ := more_ok.1 h
  refine list_w h1 (by omega) fun r hr => ?_
  have hw := h2 r hr
  obtain ⟨a1,a2,a3,a4,a5,a6⟩ := wrong_ok hw
  have hk : nameB r.key = true := by
    unfold wrongR at hw
    split at hw
    · cases hw
    · rename_i g; simpa using g
  exact pair_w (A := txtC) (B := pairC numC (pairC (listC txtC) numC)) (x := r.key) (y := (r.op,r.vals,r.n)) (m := 17) (n := 153) (txt_w (name16 hk)) (pair_w (m := 8) (n := 145) (num_w (by omega)) (pair_w (m := 137) (n := 8) (list_w (m := 17) a5 (by omega) fun v hv => txt_w (value16 (a6 v hv))) (num_w (by omega))))
theorem tolF_ok : ∀ {l seen : List (Txt × Txt × Bool)},Ta.Val.tolF seen l = 0 -> ∀ o ∈ l,nameB o.1 = true /\ Ta.Val.formedB o = true
  | [],_,_,o,ho => by cases ho
  | x :: l,seen,h,o,ho => by
    have h1 : (if nameB x.1 = false then 7 else if Ta.Val.formedB x = false then 20 else if seen.any (fun y => y == x) = true then 6 else Ta.Val.tolF (seen ++ [x]) l) = 0 := h
    split at h1
    · cases h1
    rename_i g1
    split at h1
    · cases h1
    rename_i g2
    split at h1
    · cases h1
    rcases List.mem_cons.1 ho with rfl | ho
    · exact ⟨by simpa using g1,by simpa using g2⟩
    · exact tolF_ok h1 o ho
theorem tols_w {l : List (Txt × Txt × Bool)} (h : Ta.Val.tolsR l = 0) : (listC tolC).ok l /\ ((listC tolC).w l).length <= 4 * 35 + 1 := by
  unfold Ta.Val.tolsR at h
  split at h
  · cases h
  · refine list_w (by omega) (by omega) fun o ho => ?_
    obtain ⟨h1,h2⟩ := tolF_ok h o ho
    have h3 : o.2.1.length <= 16 := by
      unfold Ta.Val.formedB at h2
      split at h2
      · have := of_decide_eq_true h2
        rw [this]; exact Nat.zero_le _
      · exact value16 h2
    exact pair_w (txt_w (name16 h1)) (pair_w (txt_w h3) (truth_w _))
theorem taintF_ok : ∀ {l seen : List (Txt × Txt)},Ta.Val.taintF seen l = 0 -> ∀ o ∈ l,nameB o.1 = true /\ valueB o.2 = true
  | [],_,_,o,ho => by cases ho
  | x :: l,seen,h,o,ho => by
    have h1 : (if nameB x.1 = false then 7 else if valueB x.2 = false then 20 else if seen.any (fun y => y.1 == x.1) = true then 6 else Ta.Val.taintF (seen ++ [x]) l) = 0 := h
    split at h1
    · cases h1
    rename_i g1
    split at h1
    · cases h1
    rename_i g2
    split at h1
    · cases h1
    rcases List.mem_cons.1 ho with rfl | ho
    · exact ⟨by simpa using g1,by simpa using g2⟩
    · exact taintF_ok h1 o ho
theorem taints_w {l : List (Txt × Txt)} (h : Ta.Val.taintR l = 0) : (listC labC).ok l /\ ((listC labC).w l).length <= 4 * 34 + 1 := by
  unfold Ta.Val.taintR at h
  split at h
  · cases h
  · refine list_w (by omega) (by omega) fun o ho => ?_
    obtain ⟨h1,h2⟩ := taintF_ok h o ho
    exact pair_w (txt_w (name16 h1)) (txt_w (value16 h2))
theorem term_w {t : VTerm} (h : termE t = 0) : labC.ok t /\ (labC.w t).length <= 34 := by
  have h1 := ore_zero.1 h
  simp only [List.mem_cons,List.not_mem_nil,or_false,forall_eq_or_imp,forall_eq] at h1
  have h2 := (unl_zero (by decide)).1 h1.1
  have h3 : t.1.length <= 16 := by
    rcases Bool.or_eq_true_iff.1 h2 with h2 | h2
    · rw [eq_of_beq h2]; decide
    · rw [eq_of_beq h2]; decide
  exact pair_w (txt_w h3) (txt_w (name16 ((unl_zero (by decide)).1 h1.2)))
theorem btw_eq {lo n hi : Int} (h : btwB lo n hi = true) : lo <= n /\ n <= hi := by
  unfold btwB at h
  simpa using h
theorem spr_w {t : VSpr} (h : spreadE t = 0) : sprC.ok t /\ (sprC.w t).length <= 42 := by
  have h1 := ore_zero.1 h
  simp only [List.mem_cons,List.not_mem_nil,or_false,forall_eq_or_imp,forall_eq] at h1
  have h0 := ore_zero.1 h1.1
  simp only [List.mem_cons,List.not_mem_nil,or_false,forall_eq_or_imp,forall_eq] at h0
  have h2 := (unl_zero (by decide)).1 h0.1
  have h3 : t.1.length <= 16 := by
    rcases Bool.or_eq_true_iff.1 h2 with h2 | h2
    · rw [eq_of_beq h2]; decide
    · rw [eq_of_beq h2]; decide
  have h4 := btw_eq ((unl_zero (by decide)).1 h1.2)
  exact pair_w (txt_w h3) (pair_w (txt_w (name16 ((unl_zero (by decide)).1 h0.2))) (num_w (z := t.2.2) (by omega)))
theorem time_w {n : Int} (h : timeB n = true) : numC.ok n /\ (numC.w n).length <= 8 := by
  have := btw_eq h
  exact num_w (by omega)
theorem on_w {s : Txt} (h : onB s = true) : txtC.ok s /\ (txtC.w s).length <= 17 := by
  rcases Bool.or_eq_true_iff.1 h with h | h
  · rw [eq_of_beq h]; exact txt_w (Nat.zero_le _)
  · exact txt_w (name16 h)
theorem btw_w {lo n hi : Int} (h : unl (btwB lo n hi) 1 = 0) (h0 : -1000000000000000000 <= lo) (h1 : hi <= 1000000000000000000) : numC.ok n /\ (numC.w n).length <= 8 := by
  have := btw_eq ((unl_zero (by decide)).1 h)
  exact num_w (by omega)
theorem le_w {α : Type} {A : Cod α} {x : α} {m n : Nat} (h : A.ok x /\ (A.w x).length <= m) (hm : m <= n) : A.ok x /\ (A.w x).length <= n := ⟨h.1,Nat.le_trans h.2 hm⟩
theorem pod_small (p : VPod) (h : podR p = 0) : podC.ok p /\ (podC.w p).length <= 4096 := by
  have h1 := ore_zero.1 h
  simp only [List.mem_cons,List.not_mem_nil,or_false,forall_eq_or_imp,forall_eq] at h1
  obtain ⟨a1,a2,a3,a4,a5,a6,a7,a8,a9,a10,a11⟩ := h1
  have b1 := (unl_zero (by decide)).1 a1
  simp only [Bool.and_eq_true] at b1
  have c6 : p.spread.length <= 3 /\ p.near.length <= 3 /\ p.apart.length <= 3 := of_decide_eq_true ((unl_zero (by decide)).1 a6)
  have := pair_w (txt_w (name16 b1.1)) (pair_w (txt_w (name16 b1.2)) (pair_w (amt_w a2) (pair_w (btw_w a3 (by omega) (by omega)) (pair_w (reqs_w a4) (pair_w (tols_w a5)
    (pair_w (list_w (k := 3) c6.1 (by omega) fun x hx => spr_w (alle_zero.1 a7 x hx)) (pair_w (list_w (k := 3) c6.2.1 (by omega) fun x hx => term_w (alle_zero.1 a8 x hx)) (pair_w (list_w (k := 3) c6.2.2 (by omega) fun x hx => term_w (alle_zero.1 a9 x hx))
    (pair_w (time_w ((unl_zero (by decide)).1 a10)) (on_w ((unl_zero (by decide)).1 a11)))))))))))
  exact le_w this (by omega)
theorem pol_small (p : VPool) (h : poolR p = 0) : polC.ok p /\ (polC.w p).length <= 4096 := by
  have h1 := ore_zero.1 h
  simp only [List.mem_cons,List.not_mem_nil,or_false,forall_eq_or_imp,forall_eq] at h1
  obtain ⟨a1,a2,a3,a4,a5,a6,a7,a8⟩ := h1
  have b6 := (unl_zero (by decide)).1 a6
  simp only [Bool.and_eq_true] at b6
  have c6 := btw_eq b6.2
  have := pair_w (txt_w (name16 ((unl_zero (by decide)).1 a1))) (pair_w (btw_w a2 (by omega) (by omega)) (pair_w (amt_w a3) (pair_w (reqs_w a4) (pair_w (taints_w a5)
    (pair_w (time_w b6.1) (pair_w (num_w (z := p.expire) (by omega)) (pair_w (btw_w a7 (by omega) (by omega)) (btw_w a8 (by omega) (by omega)))))))))
  exact le_w this (by omega)
theorem clm_small (p : VClaim) (h : claimR p = 0) : clmC.ok p /\ (clmC.w p).length <= 4096 := by
  have h1 := ore_zero.1 h
  simp only [List.mem_cons,List.not_mem_nil,or_false,forall_eq_or_imp,forall_eq] at h1
  obtain ⟨a1,a2,a3,a4,a5,a6,a7,a8⟩ := h1
  have b1 := (unl_zero (by decide)).1 a1
  simp only [Bool.and_eq_true] at b1
  have b8 := (unl_zero (by decide)).1 a8
  simp only [Bool.and_eq_true] at b8
  have c2 := Am.chk_eq a2
  have c6 : p.id.length <= 16 := of_decide_eq_true ((unl_zero (by decide)).1 a6)
  have := pair_w (txt_w (name16 b1.1.1)) (pair_w (txt_w (name16 b1.1.2)) (pair_w (time_w b8.1) (pair_w (off_w b1.2) (pair_w (num_w (z := p.price) (by omega)) (pair_w (amt_w a3) (pair_w (offs_w a4)
    (pair_w (btw_w a5 (by omega) (by omega)) (pair_w (txt_w c6) (pair_w (btw_w a7 (by omega) (by omega)) (pair_w (time_w b8.2) (truth_w p.marked)))))))))))
  exact le_w this (by omega)
theorem nodesF_names : ∀ {l : List Txt} {p : Option Txt},nodesF p l = 0 -> ∀ o ∈ l,nameB o = true
  | [],_,_,o,ho => by cases ho
  | x :: l,p,h,o,ho => by
    have h1 : (if nameB x = false then 7 else if behindT p x = false then 6 else nodesF (some x) l) = 0 := h
    split at h1
    · cases h1
    split at h1
    · cases h1
    rename_i g1 _
    rcases List.mem_cons.1 ho with rfl | ho
    · simpa using g1
    · exact nodesF_names h1 o ho
theorem cmd_small (p : VCmd) (h : cmdR p = 0) : cmdC.ok p /\ (cmdC.w p).length <= 4096 := by
  have h1 := ore_zero.1 h
  simp only [List.mem_cons,List.not_mem_nil,or_false,forall_eq_or_imp,forall_eq] at h1
  obtain ⟨a1,a2,a3,a4,a5,a6⟩ := h1
  have b5 := (unl_zero (by decide)).1 a5
  simp only [Bool.and_eq_true] at b5
  have c3 : (listC txtC).ok p.nodes /\ ((listC txtC).w p.nodes).length <= 4 * 17 + 1 := by
    unfold nodesR at a3
    split at a3
    · cases a3
    · split at a3
      · cases a3
      · exact list_w (by omega) (by omega) fun x hx => txt_w (name16 (nodesF_names a3 x hx))
  have := pair_w (btw_w a1 (by omega) (by omega)) (pair_w c3 (pair_w (btw_w a2 (by omega) (by omega)) (pair_w (time_w ((unl_zero (by decide)).1 a4)) (pair_w (on_w b5.1) (pair_w (on_w b5.2) (pair_w (offs_w a6) (truth_w p.made)))))))
  exact le_w this (by omega)
theorem cool_one (c : VCool) : coolR [c] = oneR c := by
  show (if ¬ oneR c = 0 then oneR c else if behind none c.1 = false then 6 else coolF (some c.1) []) = _
  by_cases h : oneR c = 0
  · rw [if_neg (by omega),h]; rfl
  · rw [if_pos h]
theorem cool_small (c : VCool) (h : coolR [c] = 0) : coolC.ok c /\ (coolC.w c).length <= 4096 := by
  rw [cool_one] at h
  unfold oneR at h
  split at h
  · cases h
  · split at h
    · cases h
    · rename_i g1 g2
      exact le_w (m := 51 + 8) (pair_w (off_w (by unfold namedO; simpa using g1)) (num_w (by omega))) (by omega)
theorem cons_ne {s t : Txt} : txtC.w s ++ t ≠ [] := by
  show UInt8.ofNat s.length :: s ++ t ≠ []
  simp
def podJ : Kind VPod := ⟨podC,podR,pod_small,fun _ => cons_ne⟩
def polJ : Kind VPool := ⟨polC,poolR,pol_small,fun _ => cons_ne⟩
def clmJ : Kind VClaim := ⟨clmC,claimR,clm_small,fun _ => cons_ne⟩
def cmdJ : Kind VCmd := ⟨cmdC,cmdR,cmd_small,fun x h => by
  have := congrArg List.length h
  change (bytesN 8 x.cause ++ _).length = 0 at this
  rw [List.length_append,bytesN_len] at this
  omega⟩
def coolJ : Kind VCool := ⟨coolC,fun c => coolR [c],cool_small,fun x h => by
  have := congrArg List.length h
  change (UInt8.ofNat x.1.1.length :: x.1.1 ++ _ ++ _).length = 0 at this
  simp at this⟩
end Go.Proofs.YtfpfdnapamdhjaaGreatDoor.Val
