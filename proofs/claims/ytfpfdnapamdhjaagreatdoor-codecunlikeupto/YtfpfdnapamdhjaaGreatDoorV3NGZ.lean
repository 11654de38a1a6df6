/- Layer 3: contracts of shared,operates. -/
import Derived.Test.YtfpfdnapamdhjaaGreatDoorV3MGZ
namespace Go.Proofs.YtfpfdnapamdhjaaGreatDoor
open Go.RowKit Suf Val Go.Maps

theorem lists_one {w : World} {v : Value} {l : List Txt} (h : Strs w v l) (t : TypeId) : Lists (w.alloc (.cells #[v] t)) w.heap.size [(v,l)] := fun i hi => by
  have : i = 0 := by simpa using hi
  subst this
  exact ⟨by simp [go_sem],h.below (box_below _)⟩
theorem joined_one (v : Value) (l : List Txt) : joined [(v,l)] = l := by simp [joined]

/-- Whether there is such an operation,and it has what it takes. -/
def operB (op : Int) (len : Nat) (n : Int) : Bool :=
  !(decide (op < 1) || decide (6 < op) || (((op == 1) || (op == 2)) != decide (0 < len))) && ((n == 0) || (((op == 5) || (op == 6)) && !farB n))
set_option maxHeartbeats 1000000 in
theorem operates_any (key : ByteArray) (op : Int) (a : Option Addr) (len c : Nat) (n : Int) (w : World) (hlen : len <= 17592186044416) :
    Calls Tryz.prog 183 #[.agg #[.string key,.int .i64 op,.slice a len c,.int .i64 n]] w fun e w' => e = .returned (.bool (operB op len n)) /\ Below w.heap.size w w' := by
  obtain ⟨r,hr⟩ : ∃ r,r = operB op len n := ⟨_,rfl⟩
  rw [<- hr]
  have HR := hide hr
  clear hr
  obtain ⟨q1,hq1⟩ : ∃ q,(op == 1) = q := ⟨_,rfl⟩
  obtain ⟨q2,hq2⟩ : ∃ q,(op == 2) = q := ⟨_,rfl⟩
  obtain ⟨q5,hq5⟩ : ∃ q,(op == 5) = q := ⟨_,rfl⟩
  obtain ⟨q6,hq6⟩ : ∃ q,(op == 6) = q := ⟨_,rfl⟩
  obtain ⟨p1,hp1⟩ : ∃ p,decide (op < 1) = p := ⟨_,rfl⟩
  obtain ⟨p6,hp6⟩ : ∃ p,decide (6 < op) = p := ⟨_,rfl⟩
  obtain ⟨pl,hpl⟩ : ∃ p,decide (0 < (len : Int)) = p := ⟨_,rfl⟩
  obtain ⟨pn,hpn⟩ : ∃ p,(n == 0) = p := ⟨_,rfl⟩
  obtain ⟨pf,hpf⟩ : ∃ p,p = farB n := ⟨_,rfl⟩
  have cf : ∀ W,Calls Tryz.prog 178 #[.int .i64 n] W fun e w' => e = .returned (.bool pf) /\ w' = W := fun W => hpf ▸ tooFar_any n W
  have hf : Hid (r = (!(p1 || p6 || ((q1 || q2) != pl)) && (pn || ((q5 || q6) && !pf)))) := (unhide HR).trans (by
    unfold operB; rw [hq1,hq2,hq5,hq6,hp1,hp6,hpn,<- hpf,show decide (0 < len) = pl by rw [<- hpl,decide_eq_decide]; omega])
  clear HR hpf hlen
  go_enter Tryz.func183,Tryz.ntmps183
  go_wp2_with (first | (go_at_call 178; refine (cf _).mono ?_; rintro e w' ⟨rfl,rfl⟩))
  all_goals
    go_ret
    refine ⟨ret_bool ?_,box_below _⟩
    have hf2 := unhide hf
    clear hf cf hq1 hq2 hq5 hq6 hp1 hp6 hpn
    rw [hf2]
    clear hf2
    first | (cases q1 <;> cases q2 <;> cases pl <;> simp_all) | (cases q1 <;> cases q2 <;> cases q5 <;> cases q6 <;> cases pl <;> cases pn <;> cases pf <;> simp_all)

end Go.Proofs.YtfpfdnapamdhjaaGreatDoor

/- Layer 3: contract of fault. -/
namespace Go.Proofs.YtfpfdnapamdhjaaGreatDoor
open Go.RowKit Suf Val Go.Maps

theorem nodupB_no : ∀ (l seen : List Txt),nodupB seen l = false -> ∃ p v q,l = p ++ v :: q /\ (v ∈ seen ∨ v ∈ p)
  | [],seen,h => by cases h
  | a :: l,seen,h => by
    unfold nodupB at h
    cases hc : seen.contains a with
    | true => exact ⟨[],a,l,rfl,Or.inl (List.contains_iff_mem.1 hc)⟩
    | false =>
      rw [hc] at h
      obtain ⟨p,v,q,e,hv⟩ := nodupB_no l (seen ++ [a]) h
      refine ⟨a :: p,v,q,by rw [e]; rfl,?_⟩
      rcases hv with hv | hv
      · rcases List.mem_append.1 hv with hv | hv
        · exact Or.inl hv
        · exact Or.inr (by simp at hv; subst hv; simp)
      · exact Or.inr (by simp [hv])
theorem nodupB_yes : ∀ (l seen : List Txt),nodupB seen l = true -> l.Nodup /\ ∀ v ∈ l,v ∉ seen
  | [],seen,_ => ⟨List.nodup_nil,fun v hv => by cases hv⟩
  | a :: l,seen,h => by
    unfold nodupB at h
    rw [Bool.and_eq_true] at h
    obtain ⟨h1,h2⟩ := nodupB_yes l (seen ++ [a]) h.2
    have ha : a ∉ seen := by have := h.1; simpa using this
    refine ⟨List.nodup_cons.2 ⟨fun c => h2 a c (by simp),h1⟩,fun v hv => ?_⟩
    rcases List.mem_cons.1 hv with rfl | hv
    · exact ha
    · exact fun c => h2 v hv (by simp [c])
theorem twice_len (l : List Txt) : nodupB [] l = !decide ((rising l).length < l.length) := by
  cases h : nodupB [] l with
  | true => rw [len_rising (nodupB_yes l [] h).1]; simp
  | false =>
    obtain ⟨p,v,q,rfl,hv⟩ := nodupB_no l [] h
    have hv : v ∈ p := by rcases hv with hv | hv; cases hv; exact hv
    have e : rising (p ++ v :: q) = rising (p ++ q) := rising_congr fun x => by
      simp only [List.mem_append,List.mem_cons]
      constructor
      · rintro (h | rfl | h)
        · exact Or.inl h
        · exact Or.inl hv
        · exact Or.inr h
      · rintro (h | h)
        · exact Or.inl h
        · exact Or.inr (Or.inr h)
    have := rising_le (p ++ q)
    rw [e,decide_eq_true (by simp at this ⊢; omega)]; rfl
theorem oper_wrong (r : VReq) : (r.op < 1 ∨ 6 < r.op ∨ (decide (r.op = 1 ∨ r.op = 2) != decide (0 < r.vals.length)) = true ∨ (¬ (r.op = 5 ∨ r.op = 6) /\ ¬ r.n = 0) ∨ r.n < -2147483648 ∨ 2147483648 < r.n) ↔ operB r.op r.vals.length r.n = false := by
  obtain ⟨key,op,vals,n⟩ := r
  show (op < 1 ∨ 6 < op ∨ (decide (op = 1 ∨ op = 2) != decide (0 < vals.length)) = true ∨ (¬ (op = 5 ∨ op = 6) /\ ¬ n = 0) ∨ n < -2147483648 ∨ 2147483648 < n) ↔ operB op vals.length n = false
  have e : (decide (op = 1 ∨ op = 2)) = ((op == 1) || (op == 2)) := by rw [Bool.eq_iff_iff]; simp
  unfold operB farB
  rw [e]
  cases hq : (((op == 1) || (op == 2)) != decide (0 < vals.length))
  · simp only [Bool.false_eq_true,false_or,Bool.or_false]
    rw [Bool.eq_false_iff]
    simp only [ne_eq,Bool.and_eq_true,Bool.not_eq_true',Bool.or_eq_false_iff,decide_eq_false_iff_not,Bool.or_eq_true,beq_iff_eq]
    omega
  · simp
theorem wrong_cases (r : VReq) : wrongR r = if nameB r.key = false then 7 else if operB r.op r.vals.length r.n = false then 30 else if 8 < r.vals.length then 3 else if r.vals.all valueB = false then 20 else if (rising r.vals).length < r.vals.length then 6 else 0 := by
  unfold wrongR
  by_cases h1 : nameB r.key = false
  · rw [if_pos h1,if_pos h1]
  rw [if_neg h1,if_neg h1]
  by_cases h2 : operB r.op r.vals.length r.n = false
  · rw [if_pos ((oper_wrong r).2 h2),if_pos h2]
  rw [if_neg (fun c => h2 ((oper_wrong r).1 c)),if_neg h2]
  by_cases h3 : 8 < r.vals.length
  · rw [if_pos h3,if_pos h3]
  rw [if_neg h3,if_neg h3]
  by_cases h4 : r.vals.all valueB = false
  · rw [if_pos h4,if_pos h4]
  rw [if_neg h4,if_neg h4,twice_len]
  by_cases h5 : (rising r.vals).length < r.vals.length
  · rw [if_pos h5,decide_eq_true h5]; rfl
  · rw [if_neg h5,decide_eq_false h5]; rfl
/-- A requirement's four fields in memory. -/
def Four (w : World) (B : Nat) (a b c d : Value) : Prop := w.cell? ⟨B,0,none⟩ = some a /\ w.cell? ⟨B,1,none⟩ = some b /\ w.cell? ⟨B,2,none⟩ = some c /\ w.cell? ⟨B,3,none⟩ = some d
theorem Four.below {w w' : World} {B : Nat} {a b c d : Value} (h : Four w B a b c d) (hb : Below w.heap.size w w') : Four w' B a b c d := ⟨cell_kept hb h.1,cell_kept hb h.2.1,cell_kept hb h.2.2.1,cell_kept hb h.2.2.2⟩
theorem four_new (w : World) (a b c d : Value) (t : TypeId) : Four (w.alloc (.cells #[a,b,c,d] t)) w.heap.size a b c d := by refine ⟨?_,?_,?_,?_⟩ <;> simp [go_sem]
theorem one_drew {W : World} {p : Addr} {u : Value} (h : W.cell? p = some u) : W.drew.cell? p = some u := h
theorem one_new {W : World} {p : Addr} {u : Value} {o : Obj} (h : W.cell? p = some u) : (W.alloc o).cell? p = some u := cell_kept (box_below _) h
theorem len_run {W : World} {b k : Nat} {v : Value} {l : List Txt} (hk : Keys W b (joined [(v,l)])) (h : k = (rising l).length) : ∀ ty,(Builtin.len_ #[219] ty #[.map (some b)]).run Tryz.prog W = .ok (.int .i64 k) W := fun ty => by
  rw [joined_one] at hk
  obtain ⟨n,D,ho,hD,_⟩ := hk
  rw [ho.len Tryz.underlying219 ty,keys_size ho hD,h]

set_option maxHeartbeats 2000000 in
theorem fault_any (key : ByteArray) (op : Int) (v : Value) (l : List Txt) (z : Int) (w : World) (hL : Laid w) (hv : Strs w v l) (hkey : key.size <= maxLen) :
    Calls Tryz.prog 172 #[.agg #[.string key,.int .i64 op,v,.int .i64 z]] w fun e w' => e = .returned (.int .i64 (wrongR ⟨key.data.toList,op,l,z⟩)) /\ Below w.heap.size w w' := by
  obtain ⟨r,hr⟩ : ∃ r,r = wrongR ⟨key.data.toList,op,l,z⟩ := ⟨_,rfl⟩
  rw [<- hr]
  rw [wrong_cases] at hr
  have HR := hide hr
  have HL := hide hL
  have HV := hide hv
  have HK := hide hkey
  have hlen := hv.len
  clear hr hL hkey
  obtain ⟨a,c,rfl⟩ := hv.val
  clear hv
  obtain ⟨len,hn⟩ : ∃ n,n = l.length := ⟨_,rfl⟩
  rw [<- hn] at hlen HV ⊢
  have HN := hide hn
  clear hn
  have hfour := hide (four_new w (.string key) (.int .i64 op) (.slice a len c) (.int .i64 z) 138)
  obtain ⟨q0,hq0⟩ : ∃ q,q = nameB key.data.toList := ⟨_,rfl⟩
  have c0 : ∀ W,Calls Tryz.prog 144 #[.string key] W fun e w' => e = .returned (.bool q0) /\ w' = W := fun W => hq0 ▸ name_any key W (unhide HK)
  have Q0 := hide hq0
  clear hq0
  cases q0
  · have hf : Hid (r = 7) := (unhide HR).trans (by rw [if_pos (unhide Q0).symm])
    go_enter Tryz.func172,Tryz.ntmps172
    go_wp2_with (go_at_call 144; refine (c0 _).mono ?_; rintro e w' ⟨rfl,rfl⟩)
    go_ret
    exact ⟨ret_int (unhide hf).symm,box_below _⟩
  have hf1 : Hid (r = if operB op l.length z = false then 30 else if 8 < l.length then 3 else if l.all valueB = false then 20 else if (rising l).length < l.length then 6 else 0) := (unhide HR).trans (by rw [if_neg (by rw [<- unhide Q0]; decide)])
  clear HR Q0
  obtain ⟨q1,hq1⟩ : ∃ q,q = operB op len z := ⟨_,rfl⟩
  have c1 : ∀ W,Calls Tryz.prog 183 #[.agg #[.string key,.int .i64 op,.slice a len c,.int .i64 z]] W fun e w' => e = .returned (.bool q1) /\ Below W.heap.size W w' := fun W => hq1 ▸ operates_any key op a len c z W hlen
  have Q1 : Hid (q1 = operB op l.length z) := by rw [<- unhide HN]; exact hq1
  clear hq1
  cases q1
  · have hf : Hid (r = 30) := (unhide hf1).trans (by rw [if_pos (unhide Q1).symm])
    go_enter Tryz.func172,Tryz.ntmps172
    go_wp2_with (first | (go_at_call 144; refine (c0 _).mono ?_; rintro e w' ⟨rfl,rfl⟩) | (go_at_call 183; refine (c1 _).mono ?_; rintro e w1 ⟨rfl,hw1⟩; have HB := hide (chain (box_below _) hw1); clear hw1))
    go_ret
    exact ⟨ret_int (unhide hf).symm,unhide HB⟩
  have hf2 : Hid (r = if 8 < l.length then 3 else if l.all valueB = false then 20 else if (rising l).length < l.length then 6 else 0) := (unhide hf1).trans (by rw [if_neg (by rw [<- unhide Q1]; decide)])
  clear hf1 Q1
  by_cases h8 : 8 < len
  · have hf : Hid (r = 3) := (unhide hf2).trans (by rw [if_pos (by rw [<- unhide HN]; exact h8)])
    go_enter Tryz.func172,Tryz.ntmps172
    go_wp2_with (first | (go_at_call 144; refine (c0 _).mono ?_; rintro e w' ⟨rfl,rfl⟩) | (go_at_call 183; refine (c1 _).mono ?_; rintro e w1 ⟨rfl,hw1⟩; obtain ⟨k0,k1,k2,k3⟩ := (unhide hfour).below hw1; have HB := hide (chain (box_below _) hw1); clear hw1))
    go_ret
    exact ⟨ret_int (unhide hf).symm,unhide HB⟩
  have hf3 : Hid (r = if l.all valueB = false then 20 else if (rising l).length < l.length then 6 else 0) := (unhide hf2).trans (by rw [if_neg (by rw [<- unhide HN]; exact h8)])
  clear hf2
  have h8' : ¬ 8 < (len : Int) := by omega
  obtain ⟨q2,hq2⟩ : ∃ q,q = l.all valueB := ⟨_,rfl⟩
  have Q2 := hide hq2
  clear hq2
  go_enter Tryz.func172,Tryz.ntmps172
  go_wp2_with (first | (go_at_call 144; refine (c0 _).mono ?_; rintro e w' ⟨rfl,rfl⟩) | (go_at_call 183; refine (c1 _).mono ?_; rintro e w1 ⟨rfl,hw1⟩; have F1 := hide ((unhide hfour).below hw1); obtain ⟨k0,k1,k2,k3⟩ := (unhide hfour).below hw1; have HB := hide (chain (box_below _) hw1); clear hw1))
  refine (every_any 150 #[] valueB Laid enters_value value_pred _ l _ ((unhide HL).below (unhide HB)) (fun _ _ h hb => h.below hb) ((unhide HV).below (unhide HB))).mono ?_
  rintro e w2 ⟨he,hw2⟩
  rw [<- unhide Q2] at he
  subst he
  clear k0 k1 k2 k3
  obtain ⟨k0,k1,k2,k3⟩ := (unhide F1).below hw2
  have HB2 := hide (chain (unhide HB) hw2)
  clear hw2 HB F1 hfour
  cases q2
  · have hf : Hid (r = 20) := (unhide hf3).trans (by rw [if_pos (unhide Q2).symm])
    go_wp2_with fail
    go_ret
    exact ⟨ret_int (unhide hf).symm,unhide HB2⟩
  have hf4 : Hid (r = if (rising l).length < l.length then 6 else 0) := (unhide hf3).trans (by rw [if_neg (by rw [<- unhide Q2]; decide)])
  clear hf3 Q2
  have hls := hide ((lists_one ((unhide HV).below (unhide HB2)) 38).below (Below.refl _ _).drew)
  have hll : Hid ((joined [(Value.slice a len c,l)]).length <= 70368744177664) := by show _ <= _; rw [joined_one,<- unhide HN]; omega
  obtain ⟨kr,hkr⟩ : ∃ k,k = (rising l).length := ⟨_,rfl⟩
  have hf5 : Hid (r = if kr < len then 6 else 0) := (unhide hf4).trans (by rw [<- hkr,<- unhide HN])
  have HKR := hide hkr
  clear hf4 hkr
  clear HL HV HK c0 c1 HN
  go_wp2_with fail
  have kA := one_new (o := .cells #[.slice a len c] 38) k2
  have kB := one_drew kA
  have kC := one_drew k2
  go_region_with (first | (go_at_call 174; refine (gathered_any _ [(.slice a len c,l)] _ (unhide hls) (unhide hll) (by simp)).mono ?_; rintro e w5 ⟨b,rfl,hk5,hb5,hw5⟩; have hle := (len_run hk5 (unhide HKR)); have k5 := cell_kept hw5 (one_drew (one_new k2)); have HB5 := hide (chain (chain (unhide HB2) ((box_below _).drew)) hw5); clear hk5 hb5 hw5))
  all_goals
    clear hle k5 kA kB kC k0 k1 k2 k3 HB2
    by_cases hlt : kr < len
    · have hi : (kr : Int) < (len : Int) := by omega
      go_wp2_with fail
      go_ret
      exact ⟨ret_int (by rw [unhide hf5,if_pos hlt]),unhide HB5⟩
    · have hi : ¬ (kr : Int) < (len : Int) := by omega
      go_wp2_with fail
      go_ret
      exact ⟨ret_int (by rw [unhide hf5,if_neg hlt]),unhide HB5⟩

end Go.Proofs.YtfpfdnapamdhjaaGreatDoor

/- Layer 3: contract of Of. -/
namespace Go.Proofs.YtfpfdnapamdhjaaGreatDoor
open Go.RowKit Suf Val Go.Maps

/-- A set and an error,as the program tells them. -/
def tells (r : VSet × Int) (a : Option Addr) (c : Nat) : Ending := .returned (.tuple #[.agg #[.bool r.1.miss,.bool r.1.no,.bool r.1.num,.slice a r.1.vals.length c,.int .i64 r.1.lo,.int .i64 r.1.hi],.int .i64 r.2])
def setPost (r : VSet × Int) (w : World) (e : Ending) (w' : World) : Prop := ∃ a c,e = tells r a c /\ Own w' w.heap.size (.slice a r.1.vals.length c) r.1.vals /\ Below w.heap.size w w'
theorem own_nil (w : World) (base : Nat) : Own w base (.slice none 0 0) [] := ⟨⟨by simp,Or.inl ⟨rfl,rfl⟩⟩,by simp,by simp⟩
theorem setPost_of {r : VSet × Int} {w w' : World} {e : Ending} {v : Value} (he : e = .returned (.tuple #[.agg #[.bool r.1.miss,.bool r.1.no,.bool r.1.num,v,.int .i64 r.1.lo,.int .i64 r.1.hi],.int .i64 r.2])) (ho : Own w' w.heap.size v r.1.vals) (hb : Below w.heap.size w w') : setPost r w e w' := by
  obtain ⟨a,c,rfl⟩ := ho.strs.val
  exact ⟨a,c,he,ho,hb⟩
theorem setPost_zero {w w' : World} {e : Ending} {z : Int} (he : e = .returned (.tuple #[.agg #[.bool false,.bool false,.bool false,.slice none 0 0,.int .i64 0,.int .i64 0],.int .i64 z])) (hb : Below w.heap.size w w') : setPost (zeroS,z) w e w' := setPost_of (r := (zeroS,z)) he (own_nil _ _) hb
theorem ofR_bad {r : VReq} (h : ¬ wrongR r = 0) : ofR r = (zeroS,wrongR r) := by unfold ofR; rw [if_neg h]
theorem ofR_good {r : VReq} (h : wrongR r = 0) : ofR r = (ofSet r,0) := by unfold ofR; rw [if_pos h]

set_option maxRecDepth 100000 in
set_option maxHeartbeats 4000000 in
theorem of_any (key : ByteArray) (op : Int) (v : Value) (l : List Txt) (z : Int) (w : World) (hL : Laid w) (hv : Strs w v l) (hkey : key.size <= maxLen) :
    Calls Tryz.prog 162 #[.agg #[.string key,.int .i64 op,v,.int .i64 z]] w fun e w' => setPost (ofR ⟨key.data.toList,op,l,z⟩) w e w' := by
  have HL := hide hL
  have HV := hide hv
  have HK := hide hkey
  clear hL hkey
  obtain ⟨a,c,rfl⟩ := hv.val
  clear hv
  obtain ⟨len,hn⟩ : ∃ n,n = l.length := ⟨_,rfl⟩
  rw [<- hn] at HV ⊢
  have HN := hide hn
  clear hn
  obtain ⟨R,hR⟩ : ∃ R,R = setPost (ofR ⟨key.data.toList,op,l,z⟩) w := ⟨_,rfl⟩
  show Calls _ _ _ _ (fun e w' => setPost (ofR ⟨key.data.toList,op,l,z⟩) w e w')
  rw [<- hR]
  have HR := hide hR
  clear hR
  obtain ⟨q,hq⟩ : ∃ q,q = wrongR ⟨key.data.toList,op,l,z⟩ := ⟨_,rfl⟩
  have HQ := hide hq
  clear hq
  obtain ⟨W0,hW0⟩ : ∃ W0,W0 = ((w.alloc (.cells #[.string key,.int .i64 op,.slice a len c,.int .i64 z] 138)).alloc (.cells #[.bool false,.bool false,.bool false,.slice none 0 0,.int .i64 0,.int .i64 0] 199)) := ⟨_,rfl⟩
  have hb0 : Hid (Below w.heap.size w W0) := by rw [hW0]; exact ((box_below _).alloc (by simp) _)
  have hsl0 : Hid (Slot W0 (w.heap.size + 1)) := by
    have := slot_new (w.alloc (.cells #[.string key,.int .i64 op,.slice a len c,.int .i64 z] 138)) 199
    rw [show (w.alloc (.cells #[.string key,.int .i64 op,.slice a len c,.int .i64 z] 138)).heap.size = w.heap.size + 1 by simp] at this
    rw [hW0]; exact this
  have hfo0 : Hid (Four W0 w.heap.size (.string key) (.int .i64 op) (.slice a len c) (.int .i64 z)) := by
    rw [hW0]; exact (four_new w _ _ _ _ _).below (box_below _)
  have GW := hide hW0
  clear hW0
  go_enter Tryz.func162,Tryz.ntmps162
  go_wp2_with fail
  rw [<- unhide GW]
  refine (fault_any key op _ l z _ ((unhide HL).below (unhide hb0)) ((unhide HV).below (unhide hb0)) (unhide HK)).mono ?_
  rintro e w1 ⟨he,hw1⟩
  rw [<- unhide HQ] at he
  subst he
  have B1 := hide (chain (unhide hb0) hw1)
  have F1 := hide ((unhide hfo0).below hw1)
  have S1 := hide ((unhide hsl0).below hw1)
  clear hw1 hb0 hsl0 hfo0 GW
  by_cases hq0 : q = 0
  rotate_left
  · have hne : (q != 0) = true := bne_iff_ne.2 hq0
    have hans : Hid (ofR ⟨key.data.toList,op,l,z⟩ = (zeroS,q)) := by
      show _ = _; rw [ofR_bad (by rw [<- unhide HQ]; exact hq0),<- unhide HQ]
    clear hq0
    obtain ⟨⟨k0,k1,k2,k3,k4,k5⟩,hf,_⟩ := unhide S1
    go_wp2_with fail
    refine bodyPost_ret (v := .tuple #[.agg #[.bool false,.bool false,.bool false,.slice none 0 0,.int .i64 0,.int .i64 0],.int .i64 q]) (by simp [results,Tryz.results162,go_sem,k0,k1,k2,k3,k4,k5]) rfl ?_
    rw [unhide HR,unhide hans]
    exact setPost_zero rfl (put6_below _ _ _ _ _ _ (unhide B1) (by omega))
  have hw0 : Hid (wrongR ⟨key.data.toList,op,l,z⟩ = 0) := by show _ = _; rw [<- unhide HQ]; exact hq0
  obtain ⟨o1,o6,n0,n1,l8,_⟩ := wrong_ok (unhide hw0)
  have ho16 : 1 <= op /\ op <= 6 := ⟨o1,o6⟩
  have hz : Hid (Unit -> (-2147483648 <= z /\ z <= 2147483648)) := hide1 ⟨n0,n1⟩
  have h8 : Hid (l.length <= 8) := l8
  have hr8 : Hid ((rising l).length <= 1000) := Nat.le_trans (rising_le l) (Nat.le_trans l8 (by decide))
  clear o1 o6 n0 n1 l8
  subst hq0
  by_cases ho1 : op = 1
  · subst ho1
    have hans : Hid (ofR ⟨key.data.toList,1,l,z⟩ = (⟨false,false,false,rising l,0,0⟩,0)) := by
      show _ = _; rw [ofR_good (unhide hw0)]; rfl
    have hls := hide (lists_one ((unhide HV).below (unhide B1)) 38)
    have hll : Hid ((joined [(Value.slice a len c,l)]).length <= 70368744177664) := by show _ <= _; rw [joined_one]; have := unhide h8; omega
    obtain ⟨f0,f1,f2,f3⟩ := unhide F1
    go_wp2_with fail
    refine (gathered_any _ [(.slice a len c,l)] _ (unhide hls) (unhide hll) (by simp)).mono ?_
    rintro e w2 ⟨b,rfl,hk2,hb2,hw2⟩
    rw [joined_one] at hk2
    have K2 := hide hk2
    have B2 := hide (chain (chain (unhide B1) (box_below _)) hw2)
    have S2 := hide (((unhide S1).below (box_below _)).below hw2)
    clear hk2 hb2 hw2 S1 F1 f0 f1 f2 f3 hls hll
    go_wp2_with fail
    refine (list_any false b l _ (unhide K2) (unhide hr8)).mono ?_
    rintro e w3 ⟨v,rfl,hown,hw3⟩
    obtain ⟨a2,c2,rfl⟩ := hown.strs.val
    have B3 := hide (chain (unhide B2) hw3)
    have hlt3 := hide ((unhide S2).2.2)
    have hle3 := hide ((unhide B2).size)
    obtain ⟨⟨k0,k1,k2,k3,k4,k5⟩,hf,_⟩ := (unhide S2).below hw3
    have HO := hide hown
    obtain ⟨n2,hn2⟩ : ∃ n,n = (rising l).length := ⟨_,rfl⟩
    rw [<- hn2] at HO ⊢
    clear hw3 hown hn2 S2 K2
    go_wp2_with fail
    refine bodyPost_ret (v := .tuple #[.agg #[.bool false,.bool false,.bool false,.slice a2 n2 c2,.int .i64 0,.int .i64 0],.int .i64 0]) (by simp [results,Tryz.results162,go_sem,k0,k1,k2,k3,k4,k5]) rfl ?_
    rw [unhide HR,unhide hans]
    exact setPost_of (r := (⟨false,false,false,rising l,0,0⟩,0)) rfl (((unhide HO).grown (put6_grown w3 (w.heap.size + 1) _ _ _ _ _ _) (unhide hlt3)).mono (unhide hle3)) (put6_below _ _ _ _ _ _ (unhide B3) (by omega))
  by_cases ho2 : op = 2
  · subst ho2
    have hans : Hid (ofR ⟨key.data.toList,2,l,z⟩ = (⟨true,true,false,rising l,0,0⟩,0)) := by
      show _ = _; rw [ofR_good (unhide hw0)]; rfl
    have hls := hide (lists_one ((unhide HV).below (unhide B1)) 38)
    have hll : Hid ((joined [(Value.slice a len c,l)]).length <= 70368744177664) := by show _ <= _; rw [joined_one]; have := unhide h8; omega
    obtain ⟨f0,f1,f2,f3⟩ := unhide F1
    go_wp2_with fail
    refine (gathered_any _ [(.slice a len c,l)] _ (unhide hls) (unhide hll) (by simp)).mono ?_
    rintro e w2 ⟨b,rfl,hk2,hb2,hw2⟩
    rw [joined_one] at hk2
    have K2 := hide hk2
    have B2 := hide (chain (chain (unhide B1) (box_below _)) hw2)
    have S2 := hide (((unhide S1).below (box_below _)).below hw2)
    clear hk2 hb2 hw2 S1 F1 f0 f1 f2 f3 hls hll
    go_wp2_with fail
    refine (allBut_any true b l _ (unhide K2) (unhide hr8)).mono ?_
    rintro e w3 h3
    rcases h3 with ⟨h64,_⟩ | ⟨_,v,rfl,hown,hw3⟩
    · exact absurd h64 (by have := rising_le l; have := unhide h8; omega)
    obtain ⟨a2,c2,rfl⟩ := hown.strs.val
    have B3 := hide (chain (unhide B2) hw3)
    have hlt3 := hide ((unhide S2).2.2)
    have hle3 := hide ((unhide B2).size)
    obtain ⟨⟨k0,k1,k2,k3,k4,k5⟩,hf,_⟩ := (unhide S2).below hw3
    have HO := hide hown
    obtain ⟨n2,hn2⟩ : ∃ n,n = (rising l).length := ⟨_,rfl⟩
    rw [<- hn2] at HO ⊢
    clear hw3 hown hn2 S2 K2
    go_wp2_with fail
    refine bodyPost_ret (v := .tuple #[.agg #[.bool true,.bool true,.bool false,.slice a2 n2 c2,.int .i64 0,.int .i64 0],.int .i64 0]) (by simp [results,Tryz.results162,go_sem,k0,k1,k2,k3,k4,k5]) rfl ?_
    rw [unhide HR,unhide hans]
    exact setPost_of (r := (⟨true,true,false,rising l,0,0⟩,0)) rfl (((unhide HO).grown (put6_grown w3 (w.heap.size + 1) _ _ _ _ _ _) (unhide hlt3)).mono (unhide hle3)) (put6_below _ _ _ _ _ _ (unhide B3) (by omega))
  by_cases ho3 : op = 3
  · subst ho3
    have hmm := @run_makeMap Tryz.prog
    obtain ⟨f0,f1,f2,f3⟩ := unhide F1
    have hans : Hid (ofR ⟨key.data.toList,3,l,z⟩ = (⟨false,true,false,[],0,0⟩,0)) := by
      show _ = _; rw [ofR_good (unhide hw0)]; rfl
    have K2 := hide (keys_new w1)
    have B2 := hide (chain (unhide B1) (box_below (.map #[] 0)))
    have S2 := hide ((unhide S1).below (box_below (.map #[] 0)))
    go_wp2_with fail
    clear S1 F1 f0 f1 f2 f3
    refine (allBut_any false w1.heap.size [] _ (unhide K2) (by decide)).mono ?_
    rintro e w3 h3
    rcases h3 with ⟨h64,_⟩ | ⟨_,v,rfl,hown,hw3⟩
    · exact absurd h64 (by decide)
    obtain ⟨a2,c2,rfl⟩ := hown.strs.val
    have B3 := hide (chain (unhide B2) hw3)
    have hlt3 := hide ((unhide S2).2.2)
    have hle3 := hide ((unhide B2).size)
    obtain ⟨⟨k0,k1,k2,k3,k4,k5⟩,hf,_⟩ := (unhide S2).below hw3
    have HO := hide hown
    obtain ⟨n2,hn2⟩ : ∃ n,n = (rising ([] : List Txt)).length := ⟨_,rfl⟩
    rw [<- hn2] at HO ⊢
    clear hw3 hown hn2 S2 K2
    go_wp2_with fail
    refine bodyPost_ret (v := .tuple #[.agg #[.bool false,.bool true,.bool false,.slice a2 n2 c2,.int .i64 0,.int .i64 0],.int .i64 0]) (by simp [results,Tryz.results162,go_sem,k0,k1,k2,k3,k4,k5]) rfl ?_
    rw [unhide HR,unhide hans]
    exact setPost_of (r := (⟨false,true,false,[],0,0⟩,0)) rfl (((unhide HO).grown (put6_grown w3 (w.heap.size + 1) _ _ _ _ _ _) (unhide hlt3)).mono (unhide hle3)) (put6_below _ _ _ _ _ _ (unhide B3) (by omega))
  by_cases ho4 : op = 4
  · subst ho4
    have hmm := @run_makeMap Tryz.prog
    obtain ⟨f0,f1,f2,f3⟩ := unhide F1
    have hans : Hid (ofR ⟨key.data.toList,4,l,z⟩ = (⟨true,false,false,[],0,0⟩,0)) := by
      show _ = _; rw [ofR_good (unhide hw0)]; rfl
    have K2 := hide (keys_new w1)
    have B2 := hide (chain (unhide B1) (box_below (.map #[] 0)))
    have S2 := hide ((unhide S1).below (box_below (.map #[] 0)))
    go_wp2_with fail
    clear S1 F1 f0 f1 f2 f3
    refine (list_any true w1.heap.size [] _ (unhide K2) (by decide)).mono ?_
    rintro e w3 ⟨v,rfl,hown,hw3⟩
    obtain ⟨a2,c2,rfl⟩ := hown.strs.val
    have B3 := hide (chain (unhide B2) hw3)
    have hlt3 := hide ((unhide S2).2.2)
    have hle3 := hide ((unhide B2).size)
    obtain ⟨⟨k0,k1,k2,k3,k4,k5⟩,hf,_⟩ := (unhide S2).below hw3
    have HO := hide hown
    obtain ⟨n2,hn2⟩ : ∃ n,n = (rising ([] : List Txt)).length := ⟨_,rfl⟩
    rw [<- hn2] at HO ⊢
    clear hw3 hown hn2 S2 K2
    go_wp2_with fail
    refine bodyPost_ret (v := .tuple #[.agg #[.bool true,.bool false,.bool false,.slice a2 n2 c2,.int .i64 0,.int .i64 0],.int .i64 0]) (by simp [results,Tryz.results162,go_sem,k0,k1,k2,k3,k4,k5]) rfl ?_
    rw [unhide HR,unhide hans]
    exact setPost_of (r := (⟨true,false,false,[],0,0⟩,0)) rfl (((unhide HO).grown (put6_grown w3 (w.heap.size + 1) _ _ _ _ _ _) (unhide hlt3)).mono (unhide hle3)) (put6_below _ _ _ _ _ _ (unhide B3) (by omega))
  by_cases ho5 : op = 5
  · subst ho5
    have hmm := @run_makeMap Tryz.prog
    obtain ⟨f0,f1,f2,f3⟩ := unhide F1
    obtain ⟨s,hs⟩ := numbers_nil (z + 1) (2147483648)
    have hans : Hid (ofR ⟨key.data.toList,5,l,z⟩ = (s,0)) := by
      show _ = _; rw [ofR_good (unhide hw0)]
      show ((numbersO (z + 1) (2147483648) []).getD zeroS,(0 : Int)) = _
      rw [hs]; rfl
    have hsm := hide (numbers_miss hs)
    have HSS := hide hs
    clear hs
    have hwz := wrap_small (z + 1) (by have := unhide1 hz; omega) (by have := unhide1 hz; omega)
    have K2 := hide (keys_new w1)
    have B2 := hide (chain (unhide B1) (box_below (.map #[] 0)))
    have S2 := hide ((unhide S1).below (box_below (.map #[] 0)))
    go_wp2_with fail
    clear S1 F1 f0 f1 f2 f3
    refine (numbers_any false (z + 1) (2147483648) w1.heap.size [] _ (unhide K2) ((unhide HL).below (unhide B2)) (by decide) (by have := unhide1 hz; omega) (by have := unhide1 hz; omega) (by have := unhide1 hz; omega) (by have := unhide1 hz; omega)).mono ?_
    rintro e w3 ⟨hg3,h3⟩
    rw [unhide HSS] at h3
    rcases h3 with ⟨h0,_⟩ | ⟨s',v,hs',rfl,hown⟩
    · cases h0
    obtain rfl : s = s' := by injection hs'
    obtain ⟨a2,c2,rfl⟩ := hown.strs.val
    have B3 := hide (grown_below (unhide B2) hg3 (unhide B1).size)
    have hlt3 := hide ((unhide S2).2.2)
    have hle3 := hide ((unhide B2).size)
    obtain ⟨⟨k0,k1,k2,k3,k4,k5⟩,hf,_⟩ := (unhide S2).turn (unhide K2) hg3
    have HO := hide hown
    obtain ⟨n2,hn2⟩ : ∃ n,n = s.vals.length := ⟨_,rfl⟩
    rw [<- hn2] at HO ⊢
    obtain ⟨miss,no,num,vals,slo,shi⟩ := s
    obtain rfl : miss = false := unhide hsm
    simp only at HO ⊢
    clear hg3 hown hn2 hs' S2 K2
    go_wp2_with fail
    refine bodyPost_ret (v := .tuple #[.agg #[.bool false,.bool no,.bool num,.slice a2 n2 c2,.int .i64 slo,.int .i64 shi],.int .i64 0]) (by simp [results,Tryz.results162,go_sem,k0,k1,k2,k3,k4,k5]) rfl ?_
    rw [unhide HR,unhide hans]
    exact setPost_of (r := (⟨false,no,num,vals,slo,shi⟩,0)) rfl (((unhide HO).grown (put6_grown w3 (w.heap.size + 1) _ _ _ _ _ _) (unhide hlt3)).mono (unhide hle3)) (put6_below _ _ _ _ _ _ (unhide B3) (by omega))
  obtain rfl : op = 6 := by omega
  · have hmm := @run_makeMap Tryz.prog
    obtain ⟨f0,f1,f2,f3⟩ := unhide F1
    obtain ⟨s,hs⟩ := numbers_nil (-2147483648) (z - 1)
    have hans : Hid (ofR ⟨key.data.toList,6,l,z⟩ = (s,0)) := by
      show _ = _; rw [ofR_good (unhide hw0)]
      show ((numbersO (-2147483648) (z - 1) []).getD zeroS,(0 : Int)) = _
      rw [hs]; rfl
    have hsm := hide (numbers_miss hs)
    have HSS := hide hs
    clear hs
    have hwz := wrap_small (z - 1) (by have := unhide1 hz; omega) (by have := unhide1 hz; omega)
    have K2 := hide (keys_new w1)
    have B2 := hide (chain (unhide B1) (box_below (.map #[] 0)))
    have S2 := hide ((unhide S1).below (box_below (.map #[] 0)))
    go_wp2_with fail
    clear S1 F1 f0 f1 f2 f3
    refine (numbers_any false (-2147483648) (z - 1) w1.heap.size [] _ (unhide K2) ((unhide HL).below (unhide B2)) (by decide) (by have := unhide1 hz; omega) (by have := unhide1 hz; omega) (by have := unhide1 hz; omega) (by have := unhide1 hz; omega)).mono ?_
    rintro e w3 ⟨hg3,h3⟩
    rw [unhide HSS] at h3
    rcases h3 with ⟨h0,_⟩ | ⟨s',v,hs',rfl,hown⟩
    · cases h0
    obtain rfl : s = s' := by injection hs'
    obtain ⟨a2,c2,rfl⟩ := hown.strs.val
    have B3 := hide (grown_below (unhide B2) hg3 (unhide B1).size)
    have hlt3 := hide ((unhide S2).2.2)
    have hle3 := hide ((unhide B2).size)
    obtain ⟨⟨k0,k1,k2,k3,k4,k5⟩,hf,_⟩ := (unhide S2).turn (unhide K2) hg3
    have HO := hide hown
    obtain ⟨n2,hn2⟩ : ∃ n,n = s.vals.length := ⟨_,rfl⟩
    rw [<- hn2] at HO ⊢
    obtain ⟨miss,no,num,vals,slo,shi⟩ := s
    obtain rfl : miss = false := unhide hsm
    simp only at HO ⊢
    clear hg3 hown hn2 hs' S2 K2
    go_wp2_with fail
    refine bodyPost_ret (v := .tuple #[.agg #[.bool false,.bool no,.bool num,.slice a2 n2 c2,.int .i64 slo,.int .i64 shi],.int .i64 0]) (by simp [results,Tryz.results162,go_sem,k0,k1,k2,k3,k4,k5]) rfl ?_
    rw [unhide HR,unhide hans]
    exact setPost_of (r := (⟨false,no,num,vals,slo,shi⟩,0)) rfl (((unhide HO).grown (put6_grown w3 (w.heap.size + 1) _ _ _ _ _ _) (unhide hlt3)).mono (unhide hle3)) (put6_below _ _ _ _ _ _ (unhide B3) (by omega))

end Go.Proofs.YtfpfdnapamdhjaaGreatDoor
