/- Layer 3: contracts of the document's Name,Decimal,Number,Value. -/
import Derived.Test.YtfpfdnapamdhjaaGreatDoorV3BGZ
namespace Go.Proofs.YtfpfdnapamdhjaaGreatDoor
open Go.RowKit Suf Val

theorem nameC_int (c : UInt8) : nameC c = ((decide (97 <= (c.toNat : Int) /\ (c.toNat : Int) <= 122)) || decide (48 <= (c.toNat : Int) /\ (c.toNat : Int) <= 57) || ((c.toNat : Int) == 46) || ((c.toNat : Int) == 45)) := by
  rw [nameC_of]
  congr 3
  unfold low; rw [decide_eq_decide]; omega
theorem kinds_of (c : UInt8) : (nameC c = true /\ ((97 <= (c.toNat : Int) /\ (c.toNat : Int) <= 122) ∨ ((c.toNat : Int) < 97 /\ 48 <= (c.toNat : Int) /\ (c.toNat : Int) <= 57) ∨ ((c.toNat : Int) < 97 /\ (c.toNat : Int) < 48 /\ ((c.toNat : Int) != 46) = false) ∨ ((c.toNat : Int) < 97 /\ (c.toNat : Int) < 48 /\ ((c.toNat : Int) != 46) = true /\ ((c.toNat : Int) != 45) = false)))
    ∨ (nameC c = false /\ ((c.toNat : Int) != 46) = true /\ ((c.toNat : Int) != 45) = true /\ (((c.toNat : Int) < 97 /\ (c.toNat : Int) < 48) ∨ ((c.toNat : Int) < 97 /\ 48 <= (c.toNat : Int) /\ 57 < (c.toNat : Int)) ∨ (97 <= (c.toNat : Int) /\ 122 < (c.toNat : Int) /\ 48 <= (c.toNat : Int) /\ 57 < (c.toNat : Int)))) := by
  have hc := nameC_int c
  cases hn : nameC c with
  | true =>
    left
    refine ⟨rfl,?_⟩
    rw [hn] at hc
    have hc := hc.symm
    simp only [Bool.or_eq_true,decide_eq_true_eq,beq_iff_eq] at hc
    simp only [bne_eq_false_iff_eq,bne_iff_ne]
    omega
  | false =>
    right
    rw [hn] at hc
    have hc := hc.symm
    simp only [Bool.or_eq_false_iff,decide_eq_false_iff_not,beq_eq_false_iff_ne] at hc
    simp only [bne_iff_ne]
    refine ⟨trivial,?_⟩
    omega

set_option maxHeartbeats 2000000 in
theorem rname_any (s : ByteArray) (w : World) (hs : s.size <= maxLen) :
    Calls Tryz.prog 85 #[.string s] w fun e w' => e = .returned (.bool (nameB s.data.toList)) /\ w' = w := by
  obtain ⟨r,hr⟩ : ∃ r,r = nameB s.data.toList := ⟨_,rfl⟩
  rw [<- hr]
  have HR := hide hr
  clear hr
  unfold maxLen at hs
  by_cases h1 : s.size < 1
  · have hf : Hid (r = false) := (unhide HR).trans (name_short s (by omega))
    go_enter Tryz.func85,Tryz.ntmps85
    go_wp2_with fail
    go_ret
    exact ⟨ret_bool (unhide hf).symm,rfl⟩
  · by_cases h16 : 16 < s.size
    · have hf : Hid (r = false) := (unhide HR).trans (name_short s (by omega))
      go_enter Tryz.func85,Tryz.ntmps85
      go_wp2_with fail
      go_ret
      exact ⟨ret_bool (unhide hf).symm,rfl⟩
    · have hz : 0 < s.size := by omega
      have hn := hide ((unhide HR).trans (name_of s hz (by omega)))
      clear HR
      have h1' : ¬ (s.size : Int) < 1 := by omega
      have h16' : ¬ 16 < (s.size : Int) := by omega
      by_cases hl0 : (s[0].toNat : Int) < 97
      · have hf : Hid (r = false) := (unhide hn).trans (by rw [show low s[0] = false by unfold low; rw [decide_eq_false_iff_not]; omega]; rfl)
        go_enter Tryz.func85,Tryz.ntmps85
        go_wp2_with fail
        go_ret
        exact ⟨ret_bool (unhide hf).symm,rfl⟩
      by_cases hl1 : 122 < (s[0].toNat : Int)
      · have hf : Hid (r = false) := (unhide hn).trans (by rw [show low s[0] = false by unfold low; rw [decide_eq_false_iff_not]; omega]; rfl)
        go_enter Tryz.func85,Tryz.ntmps85
        go_wp2_with fail
        go_ret
        exact ⟨ret_bool (unhide hf).symm,rfl⟩
      have hf : Hid (r = s.data.toList.all nameC) := (unhide hn).trans (by rw [show low s[0] = true by unfold low; rw [decide_eq_true_eq]; omega]; rfl)
      clear hn
      have hs16 : s.size <= 16 := by omega
      go_enter Tryz.func85,Tryz.ntmps85
      go_wp2_with fail
      go_loop [3] (fun i => ∃ k : Nat,k <= s.size /\ i = .int .i64 k /\ Hid ((s.data.toList.take k).all nameC = true)) (fun i => s.size - (intOf i).toNat)
      case atStart => exact ⟨0,Nat.zero_le _,rfl,rfl⟩
      case round =>
        obtain ⟨k,hk,rfl,hall⟩ := hrel
        by_cases hlt : k < s.size
        · rcases kinds_of s[k] with ⟨hq,hc⟩ | ⟨hq,e1,e2,hc⟩
          · have ha2 : Hid ((s.data.toList.take (k + 1)).all nameC = true) := by
              show _ = _
              rw [all_snoc nameC s k hlt,unhide hall,hq]; rfl
            clear hq
            rcases hc with ⟨c1,c2⟩ | ⟨c1,c2,c3⟩ | ⟨c1,c2,c3⟩ | ⟨c1,c2,c3,c4⟩
            all_goals
              go_wp2_with fail
              go_round
              case rel => exact ⟨k + 1,by omega,by go_num,ha2⟩
              case measure => simp [intOf]; omega
          · have hn2 : Hid (r = false) := (unhide hf).trans (all_not nameC s k hlt hq)
            clear hq
            rcases hc with ⟨c1,c2⟩ | ⟨c1,c2,c3⟩ | ⟨c1,c2,c3,c4⟩
            all_goals
              go_wp2_with fail
              go_ret
              exact ⟨ret_bool (unhide hn2).symm,rfl⟩
        · obtain rfl : k = s.size := by omega
          have hn2 : Hid (r = true) := (unhide hf).trans (by rw [<- unhide hall,List.take_of_length_le (by rw [<- size_list]; exact Nat.le_refl _)])
          go_wp2_with fail
          go_ret
          exact ⟨ret_bool (unhide hn2).symm,rfl⟩

theorem decFuel_step (f m : Nat) (h : ¬ m < 10) : decFuel (f + 1) m = decFuel f (m / 10) ++ [UInt8.ofNat (48 + m % 10)] := by
  show (if m < 10 then [] else decFuel f (m / 10)) ++ [UInt8.ofNat (48 + m % 10)] = _
  rw [if_neg h]
theorem decFuel_last (f m : Nat) (h : m < 10) : decFuel (f + 1) m = [UInt8.ofNat (48 + m)] := by
  show (if m < 10 then [] else decFuel f (m / 10)) ++ [UInt8.ofNat (48 + m % 10)] = _
  rw [if_pos h,Nat.mod_eq_of_lt h]; rfl
def decInv (N m : Nat) (S : ByteArray) : Prop := ∃ f,m < 10 ^ (f + 1) /\ decFuel (f + 1) m ++ S.data.toList = dec N
theorem decInv_start (N : Nat) (h : N < 1000000000000000000) : decInv N N ⟨#[]⟩ := ⟨19,Nat.lt_of_lt_of_le h (by decide),List.append_nil _⟩
theorem dec_len (n : Nat) (h : n < 1000000000000000000) : (dec n).length <= 18 := decFuel_len 20 n 18 (by exact h) (by omega)
theorem decInv_len (N m : Nat) (S : ByteArray) (hN : N < 1000000000000000000) (h : decInv N m S) : S.size <= 18 := by
  obtain ⟨f,_,e⟩ := h
  have := dec_len N hN
  rw [<- e,List.length_append,<- size_list] at this
  omega
theorem decInv_next (N m : Nat) (S T : ByteArray) (h : decInv N m S) (hm : ¬ m < 10) (hT : T.data.toList = UInt8.ofNat (48 + m % 10) :: S.data.toList) : decInv N (m / 10) T := by
  obtain ⟨f,hf,e⟩ := h
  match f,hf,e with
  | 0,hf,_ => simp at hf; omega
  | f + 1,hf,e =>
    refine ⟨f,by rw [Nat.pow_succ] at hf; omega,?_⟩
    rw [hT,<- e,decFuel_step (f + 1) m hm,List.append_assoc]; rfl
theorem decInv_end (N m : Nat) (S T : ByteArray) (h : decInv N m S) (hm : m < 10) (hT : T.data.toList = UInt8.ofNat (48 + m % 10) :: S.data.toList) : T = ⟨(dec N).toArray⟩ := by
  obtain ⟨f,hf,e⟩ := h
  apply bytes_ext
  rw [hT]
  show _ = dec N
  rw [<- e,decFuel_last f m hm,Nat.mod_eq_of_lt hm]; rfl
theorem append_list (a b : ByteArray) : (a ++ b).data.toList = a.data.toList ++ b.data.toList := by simp
theorem cons_list (c : UInt8) (S : ByteArray) : ((⟨#[c]⟩ : ByteArray) ++ S).data.toList = c :: S.data.toList := by rw [append_list]; rfl
theorem conv_one (W : World) (z : Int) : (convert 46 9 (.slice (some ⟨W.heap.size,0,none⟩) 1 1)).run Tryz.prog (W.alloc (.cells #[.int .u8 z] 5)) = .ok (.string ⟨#[UInt8.ofNat z.toNat]⟩) (W.alloc (.cells #[.int .u8 z] 5)) := by
  rw [run_convert_bytes_string _ _ _ _ _ _ _ Tryz.underlying46 Tryz.underlying5 Tryz.underlying9]
  rw [run_bytesToString _ _ _ _ [z] (by simp [go_sem])]
  rfl
theorem div10_lt (m : Nat) (h : ¬ m < 10) : (intOf (.int .i64 ((m : Int) / 10))).toNat < (intOf (.int .i64 (m : Int))).toNat := by
  show ((m : Int) / 10).toNat < ((m : Int)).toNat
  omega
set_option maxRecDepth 100000 in
set_option maxHeartbeats 2000000 in
theorem rdecimal_pos (N : Nat) (w : World) (hN : N < 1000000000000000000) :
    Calls Tryz.prog 171 #[.int .i64 N] w fun e w' => e = .returned (.string ⟨(dec N).toArray⟩) /\ Below w.heap.size w w' := by
  have HN := hide1 hN
  have H0 := hide (decInv_start N hN)
  have hnn : ¬ (N : Int) < 0 := by omega
  clear hN
  go_enter Tryz.func171,Tryz.ntmps171
  go_wp2_with fail
  go_loopw [3,4] (fun s n W => ∃ (m : Nat) (S : ByteArray),n = .int .i64 m /\ s = .string S /\ Hid (decInv N m S) /\ Hid (Below w.heap.size w W) /\ m <= N) (fun _ n _ => (intOf n).toNat)
  case atStart => exact ⟨N,⟨#[]⟩,rfl,rfl,H0,Below.refl _ _,Nat.le_refl _⟩
  case round =>
    obtain ⟨m,S,rfl,rfl,hinv,hbel,hmN⟩ := hrel
    have hwr : wrap64 ((m : Int) / 10) = (m : Int) / 10 := by
      have := unhide1 HN
      unfold wrap64; omega
    have hS := decInv_len N m S (unhide1 HN) (unhide hinv)
    have hr0 : 0 <= (m : Int) % 10 := by omega
    have hr1 : (m : Int) % 10 <= 9 := by omega
    have hr2 : ¬ (m : Int) % 10 < 0 := by omega
    have hcv := conv_one wr (48 + (m : Int) % 10)
    have hu8 : (48 + (m : Int) % 10).toNat = 48 + m % 10 := by omega
    rw [hu8] at hcv
    clear hu8
    obtain ⟨c,hc⟩ : ∃ c,c = UInt8.ofNat (48 + m % 10) := ⟨_,rfl⟩
    rw [<- hc] at hcv
    by_cases hm : m < 10
    · have hend := hide (decInv_end N m S (⟨#[c]⟩ ++ S) (unhide hinv) hm (by rw [cons_list,hc]))
      have hz : ((m : Int) / 10 == 0) = true := beq_iff_eq.2 (by omega)
      clear hc
      go_wp2_with fail
      go_ret
      exact ⟨ret_str (unhide hend),(unhide hbel).alloc (unhide hbel).size _⟩
    · have hnext := hide (decInv_next N m S (⟨#[c]⟩ ++ S) (unhide hinv) hm (by rw [cons_list,hc]))
      have hz : ((m : Int) / 10 == 0) = false := beq_eq_false_iff_ne.2 (by omega)
      clear hc
      go_wp2_with fail
      go_roundw
      case rel => exact ⟨m / 10,⟨#[c]⟩ ++ S,congrArg (Value.int .i64) (by omega),rfl,hnext,(unhide hbel).alloc (unhide hbel).size _,by omega⟩
      case measure => rw [hwr]; exact div10_lt m hm

theorem neg_mod (m : Nat) : Int.tmod (-(m : Int)) 10 = -((m % 10 : Nat) : Int) := by
  rw [Int.neg_tmod]; congr 1
theorem neg_div (m : Nat) : Int.tdiv (-(m : Int)) 10 = -((m / 10 : Nat) : Int) := by
  rw [Int.neg_tdiv]; congr 1
/-- How much of a number below 0 is left. -/
def negM (v : Value) : Nat := (-(intOf v)).toNat
set_option maxRecDepth 100000 in
set_option maxHeartbeats 2000000 in
theorem rdecimal_neg (N : Nat) (w : World) (h1 : 1 <= N) (hN : N < 1000000000000000000) :
    Calls Tryz.prog 171 #[.int .i64 (-(N : Int))] w fun e w' => e = .returned (.string ⟨(45 :: dec N).toArray⟩) /\ Below w.heap.size w w' := by
  have HN := hide1 hN
  have H0 := hide (decInv_start N hN)
  obtain ⟨Z,hZ⟩ : ∃ Z : Int,Z = -(N : Int) := ⟨_,rfl⟩
  rw [<- hZ]
  have hnn : Z < 0 := by omega
  have GZ := hide hZ
  clear hN hZ h1
  go_enter Tryz.func171,Tryz.ntmps171
  go_wp2_with fail
  go_loopw [3,4] (fun s n W => ∃ (m : Nat) (z : Int) (S : ByteArray),n = .int .i64 z /\ s = .string S /\ Hid (z = -(m : Int)) /\ Hid (decInv N m S) /\ Hid (Below w.heap.size w W) /\ m <= N) (fun _ n _ => negM n)
  case atStart => exact ⟨N,Z,⟨#[]⟩,rfl,rfl,GZ,H0,Below.refl _ _,Nat.le_refl _⟩
  case round =>
    obtain ⟨m,z,S,rfl,rfl,hzm,hinv,hbel,hmN⟩ := hrel
    obtain ⟨d,hd⟩ : ∃ d,d = m % 10 := ⟨_,rfl⟩
    have ht : Int.tmod z 10 = -(d : Int) := by rw [unhide hzm,hd]; exact neg_mod m
    obtain ⟨y,hy⟩ : ∃ y : Int,y = -((m / 10 : Nat) : Int) := ⟨_,rfl⟩
    have hq : Int.tdiv z 10 = y := by rw [unhide hzm,hy]; exact neg_div m
    have hwy : wrap64 y = y := by
      have := unhide1 HN
      unfold wrap64; omega
    have hS := decInv_len N m S (unhide1 HN) (unhide hinv)
    have hd9 : d <= 9 := by omega
    have hcv := conv_one wr (48 + (d : Int))
    rw [show (48 + (d : Int)).toNat = 48 + d by omega] at hcv
    obtain ⟨c,hc⟩ : ∃ c,c = UInt8.ofNat (48 + d) := ⟨_,rfl⟩
    rw [<- hc] at hcv
    have GY := hide hy
    have hmeas : m < 10 ∨ (¬ m < 10 /\ negM (.int .i64 y) < negM (.int .i64 z)) := by
      by_cases hm : m < 10
      · exact Or.inl hm
      · refine Or.inr ⟨hm,?_⟩
        have hz2 := unhide hzm
        show (-y).toNat < (-z).toNat
        omega
    have HD := hide hd
    rcases hmeas with hm | ⟨hm,hlt⟩
    · have hend := hide (decInv_end N m S (⟨#[c]⟩ ++ S) (unhide hinv) hm (by rw [cons_list,hc,unhide HD]))
      have hz : (y == 0) = true := beq_iff_eq.2 (by omega)
      have hfin : Hid ((⟨#[45]⟩ : ByteArray) ++ (⟨#[c]⟩ ++ S) = ⟨(45 :: dec N).toArray⟩) := by
        show _ = _
        rw [unhide hend]; apply bytes_ext; rw [append_list]; rfl
      clear hc hd hy hm hend
      by_cases hd0 : d = 0
      · subst hd0
        rw [show (48 : Int) + ((0 : Nat) : Int) = 48 from rfl] at hcv
        go_wp2_with fail
        go_ret
        exact ⟨ret_str (unhide hfin),(unhide hbel).alloc (unhide hbel).size _⟩
      · have hd1 : -(d : Int) < 0 := by omega
        clear hd0
        go_wp2_with fail
        go_ret
        exact ⟨ret_str (unhide hfin),(unhide hbel).alloc (unhide hbel).size _⟩
    · have hnext := hide (decInv_next N m S (⟨#[c]⟩ ++ S) (unhide hinv) hm (by rw [cons_list,hc,unhide HD]))
      have hz : (y == 0) = false := beq_eq_false_iff_ne.2 (by omega)
      have HLT := hide hlt
      have hle : m / 10 <= N := by omega
      clear hc hd hy hm hlt
      by_cases hd0 : d = 0
      · subst hd0
        rw [show (48 : Int) + ((0 : Nat) : Int) = 48 from rfl] at hcv
        go_wp2_with fail
        go_roundw
        case rel => exact ⟨m / 10,y,⟨#[c]⟩ ++ S,by first | rfl | rw [hwy],rfl,GY,hnext,(unhide hbel).alloc (unhide hbel).size _,hle⟩
        case measure => first | exact unhide HLT | (rw [hwy]; exact unhide HLT)
      · have hd1 : -(d : Int) < 0 := by omega
        clear hd0
        go_wp2_with fail
        go_roundw
        case rel => exact ⟨m / 10,y,⟨#[c]⟩ ++ S,by first | rfl | rw [hwy],rfl,GY,hnext,(unhide hbel).alloc (unhide hbel).size _,hle⟩
        case measure => first | exact unhide HLT | (rw [hwy]; exact unhide HLT)
theorem rdecimal_any (n : Int) (w : World) (h0 : -1000000000000000000 < n) (h1 : n < 1000000000000000000) :
    Calls Tryz.prog 171 #[.int .i64 n] w fun e w' => e = .returned (.string (bytesT (decZ n))) /\ Below w.heap.size w w' := by
  by_cases hn : n < 0
  · obtain ⟨N,rfl⟩ : ∃ N : Nat,n = -(N : Int) := ⟨n.natAbs,by omega⟩
    have e : decZ (-(N : Int)) = 45 :: dec N := by unfold decZ; rw [if_pos hn]; congr 1; congr 1; omega
    rw [e]
    exact rdecimal_neg N w (by omega) (by omega)
  · obtain ⟨N,rfl⟩ : ∃ N : Nat,n = (N : Int) := ⟨n.natAbs,by omega⟩
    have e : decZ (N : Int) = dec N := by unfold decZ; rw [if_neg hn]; congr 1
    rw [e]
    exact rdecimal_pos N w (by omega)

theorem filter_snoc (s : ByteArray) (k : Nat) (h : k < s.size) : (s.data.toList.take (k + 1)).filter dig = (s.data.toList.take k).filter dig ++ (if dig s[k] = true then [s[k]] else []) := by
  rw [List.take_add_one,at_list s k h,List.filter_append]
  cases hd : dig s[k] <;> simp [hd]
theorem valFrom_lt : ∀ (l : List UInt8) (a : Nat),l.all dig = true -> valFrom a l < (a + 1) * 10 ^ l.length
  | [],a,_ => by rw [List.length_nil,Nat.pow_zero,Nat.mul_one]; exact Nat.lt_succ_self a
  | c :: l,a,h => by
    rw [List.all_cons,Bool.and_eq_true] at h
    have hd := h.1
    unfold dig at hd; rw [decide_eq_true_eq] at hd
    have h9 : dv c <= 9 := by unfold dv; omega
    have ih := valFrom_lt l (a * 10 + dv c) h.2
    have hm : (a * 10 + dv c + 1) * 10 ^ l.length <= ((a + 1) * 10) * 10 ^ l.length := Nat.mul_le_mul_right _ (by omega)
    have he : (a + 1) * 10 ^ (c :: l).length = ((a + 1) * 10) * 10 ^ l.length := by rw [List.length_cons,Nat.pow_succ,Nat.mul_assoc,Nat.mul_comm 10]
    rw [he]
    exact Nat.lt_of_lt_of_le ih hm
theorem val_lt (l : List UInt8) (h : l.all dig = true) : val l < 10 ^ l.length := by
  have h2 := valFrom_lt l 0 h
  rw [Nat.zero_add,Nat.one_mul] at h2
  exact h2
theorem val_small (s : ByteArray) (h : s.size <= 11) (k : Nat) : val ((s.data.toList.take k).filter dig) < 100000000000 := by
  have hall : ((s.data.toList.take k).filter dig).all dig = true := by rw [List.all_eq_true]; intro c hc; exact (List.mem_filter.1 hc).2
  have hlen : ((s.data.toList.take k).filter dig).length <= 11 := Nat.le_trans (List.length_filter_le _ _) (Nat.le_trans (List.length_take_le' _ _) (by rw [<- size_list]; exact h))
  have h11 : 10 ^ ((s.data.toList.take k).filter dig).length <= 10 ^ 11 := Nat.pow_le_pow_right (by omega) hlen
  have h10 : (10 : Nat) ^ 11 = 100000000000 := by decide
  have hv := val_lt _ hall
  omega
theorem numR_if (s : Txt) (h : s.length <= 11) : numR s = if decZ (numV s) = s /\ -2147483648 <= numV s /\ numV s <= 2147483648 then (numV s,true) else (0,false) := by
  unfold numR numO
  by_cases hc : decZ (numV s) = s /\ -2147483648 <= numV s /\ numV s <= 2147483648
  · rw [if_pos ⟨h,hc⟩,if_pos hc]
  · rw [if_neg (fun c => hc c.2),if_neg hc]
theorem numR_long (s : Txt) (h : 11 < s.length) : numR s = (0,false) := by
  unfold numR numO; rw [if_neg (fun c => by omega)]

theorem dig_int (c : UInt8) (h : dig c = true) : 48 <= (c.toNat : Int) /\ (c.toNat : Int) <= 57 /\ (dv c : Int) = (c.toNat : Int) - 48 := by
  unfold dig at h; rw [decide_eq_true_eq] at h; unfold dv; omega
theorem dig_out (c : UInt8) (h : dig c = false) : (c.toNat : Int) < 48 ∨ 48 <= (c.toNat : Int) /\ 57 < (c.toNat : Int) := by
  unfold dig at h; rw [decide_eq_false_iff_not] at h; omega

end Go.Proofs.YtfpfdnapamdhjaaGreatDoor

/- Layer 3: contracts of the document's Number and Value. -/
namespace Go.Proofs.YtfpfdnapamdhjaaGreatDoor
open Go.RowKit Suf Val

set_option maxRecDepth 100000 in
set_option maxHeartbeats 4000000 in
theorem rnumber_any (s : ByteArray) (w : World) (hs : s.size <= maxLen) :
    Calls Tryz.prog 156 #[.string s] w fun e w' => e = .returned (.tuple #[.int .i64 (numR s.data.toList).1,.bool (numR s.data.toList).2]) /\ Below w.heap.size w w' := by
  obtain ⟨r,hr⟩ : ∃ r,r = numR s.data.toList := ⟨_,rfl⟩
  rw [<- hr]
  have HR := hide hr
  clear hr
  unfold maxLen at hs
  by_cases h11 : 11 < s.size
  · have he := hide ((unhide HR).trans (numR_long _ (by rw [<- size_list]; exact h11)))
    go_enter Tryz.func156,Tryz.ntmps156
    go_wp2_with fail
    go_ret2
    exact ⟨ret_ib (by rw [unhide he]) (by rw [unhide he]),Below.refl _ _⟩
  have hif := hide ((unhide HR).trans (numR_if _ (by rw [<- size_list]; omega)))
  clear HR
  have h11' : ¬ 11 < (s.size : Int) := by omega
  have hs11 : s.size <= 11 := by omega
  go_enter Tryz.func156,Tryz.ntmps156
  go_wp2_with fail
  go_loop [4,5] (fun n i => ∃ (k : Nat) (N : Nat),k <= s.size /\ i = .int .i64 k /\ n = .int .i64 N /\ Hid (N = val ((s.data.toList.take k).filter dig))) (fun _ i => s.size - (intOf i).toNat)
  case atStart => exact ⟨0,0,Nat.zero_le _,rfl,rfl,rfl⟩
  case round =>
    obtain ⟨k,N,hk,rfl,rfl,hN⟩ := hrel
    have hNb := hide1 (show N < 100000000000 by rw [unhide hN]; exact val_small s hs11 k)
    by_cases hlt : k < s.size
    · have hfs := filter_snoc s k hlt
      cases hd : dig s[k] with
      | true =>
        rw [hd,if_pos rfl] at hfs
        obtain ⟨c1,c2,hdv⟩ := dig_int s[k] hd
        have hN2 : Hid (N * 10 + dv s[k] = val ((s.data.toList.take (k + 1)).filter dig)) := by
          show _ = _; rw [hfs,val_snoc,<- unhide hN]
        have w1 : wrap64 ((N : Int) * 10) = (N : Int) * 10 := wrap_small _ (by have := unhide1 hNb; omega) (by have := unhide1 hNb; omega)
        have w2 : wrap64 ((N : Int) * 10 + ((s[k].toNat : Int) - 48)) = (N : Int) * 10 + ((s[k].toNat : Int) - 48) := wrap_small _ (by have := unhide1 hNb; omega) (by have := unhide1 hNb; omega)
        have HDV := hide hdv
        clear hfs hd hdv
        go_wp2_with fail
        go_round
        case rel => exact ⟨k + 1,N * 10 + dv s[k],by omega,by go_num,by first | (rw [w2]; congr 1; have := unhide HDV; omega) | (congr 1; have := unhide HDV; omega),hN2⟩
        case measure => simp [intOf]; omega
      | false =>
        rw [hd,if_neg (by decide),List.append_nil] at hfs
        have hN2 : Hid (N = val ((s.data.toList.take (k + 1)).filter dig)) := by
          show _ = _; rw [hfs]; exact unhide hN
        have ho := dig_out s[k] hd
        clear hfs hd
        rcases ho with c1 | ⟨c1,c2⟩
        all_goals
          go_wp2_with fail
          go_round
          case rel => exact ⟨k + 1,N,by omega,by go_num,rfl,hN2⟩
          case measure => simp [intOf]; omega
    · obtain rfl : k = s.size := by omega
      have hN3 : Hid (N = val (s.data.toList.filter dig)) := by
        have := unhide hN
        rw [List.take_of_length_le (by rw [<- size_list]; exact Nat.le_refl _)] at this
        exact this
      clear hN
      have hhead : (0 < s.size /\ s.data.toList.head? = some 45) ∨ ((s.size = 0 ∨ ∃ h : 0 < s.size,((s[0].toNat : Int) == 45) = false) /\ ¬ s.data.toList.head? = some 45) := by
        by_cases hz : 0 < s.size
        · obtain ⟨l,hl⟩ := head_at s hz
          have hh : s.data.toList.head? = some s[0] := by rw [hl]; rfl
          by_cases hc : s[0] = 45
          · exact Or.inl ⟨hz,by rw [hh,hc]⟩
          · refine Or.inr ⟨Or.inr ⟨hz,beq_eq_false_iff_ne.2 fun c => hc ((u8_eq s[0] 45 (by omega)).2 c)⟩,?_⟩
            rw [hh]; intro c; exact hc (by simpa using c)
        · refine Or.inr ⟨Or.inl (by omega),?_⟩
          have : s.data.toList = [] := List.eq_nil_of_length_eq_zero (by rw [<- size_list]; omega)
          rw [this]; simp
      have hnv : (∃ z : Int,z = -(N : Int) /\ numV s.data.toList = z /\ 0 < s.size /\ ((s.data.toList.head? = some 45))) ∨ (numV s.data.toList = (N : Int) /\ (s.size = 0 ∨ ∃ h : 0 < s.size,((s[0].toNat : Int) == 45) = false)) := by
        rcases hhead with ⟨h1,h2⟩ | ⟨h1,h2⟩
        · refine Or.inl ⟨_,rfl,?_,h1,h2⟩
          unfold numV; rw [if_pos h2,<- unhide hN3]
        · refine Or.inr ⟨?_,h1⟩
          unfold numV; rw [if_neg h2,<- unhide hN3]
      clear hhead hN3
      rcases hnv with ⟨z,hz,hv,hpos,hh⟩ | ⟨hv,ht⟩
      · have h45 : ((s[0].toNat : Int) == 45) = true := by
          obtain ⟨l,hl⟩ := head_at s hpos
          rw [hl] at hh
          have : s[0] = 45 := by simpa using hh
          rw [this]; rfl
        have wn : wrap64 (-(N : Int)) = z := by
          rw [wrap_small _ (by have := unhide1 hNb; omega) (by have := unhide1 hNb; omega),hz]
        have hZb := hide1 (show -1000000000000000000 < z /\ z < 1000000000000000000 by have := unhide1 hNb; omega)
        have hr2 := hide ((unhide hif).trans (by rw [hv]))
        clear hif hh hz hv hNb
        go_wp2_with fail
        refine (rdecimal_any z _ (unhide1 hZb).1 (unhide1 hZb).2).mono ?_
        obtain ⟨T,hT⟩ : ∃ T,T = bytesT (decZ z) := ⟨_,rfl⟩
        have GT := hide hT
        clear hT
        rintro e w1 ⟨he,hw1⟩
        rw [<- unhide GT] at he
        subst he
        have HB := hide hw1
        clear hw1
        obtain ⟨q,hq⟩ : ∃ q,(T.toList == s.toList) = q := ⟨_,rfl⟩
        have HQ := hide hq
        cases q
        · have he : Hid (r = (0,false)) := (unhide hr2).trans (if_neg fun c => by
            have := unhide HQ
            rw [unhide GT,Lib.toList_data,Lib.toList_data] at this
            exact absurd c.1 (beq_eq_false_iff_ne.1 this))
          go_wp2_with fail
          go_ret2
          exact ⟨ret_ib (by rw [unhide he]) (by rw [unhide he]),unhide HB⟩
        · by_cases hlo : z < -2147483648
          · have he : Hid (r = (0,false)) := (unhide hr2).trans (if_neg fun c => by omega)
            go_wp2_with fail
            go_ret2
            exact ⟨ret_ib (by rw [unhide he]) (by rw [unhide he]),unhide HB⟩
          · by_cases hhi : 2147483648 < z
            · have he : Hid (r = (0,false)) := (unhide hr2).trans (if_neg fun c => by omega)
              go_wp2_with fail
              go_ret2
              exact ⟨ret_ib (by rw [unhide he]) (by rw [unhide he]),unhide HB⟩
            · have he : Hid (r = (z,true)) := (unhide hr2).trans (if_pos ⟨by
                have := unhide HQ
                rw [unhide GT,Lib.toList_data,Lib.toList_data] at this
                exact beq_iff_eq.1 this,by omega,by omega⟩)
              go_wp2_with fail
              go_ret2
              exact ⟨ret_ib (by rw [unhide he]) (by rw [unhide he]),unhide HB⟩
      · have hr2 := hide ((unhide hif).trans (by rw [hv]))
        have hZb := hide1 (show -1000000000000000000 < (N : Int) /\ (N : Int) < 1000000000000000000 by have := unhide1 hNb; omega)
        clear hif hv hNb
        obtain ⟨z,hz⟩ : ∃ z : Int,z = (N : Int) := ⟨_,rfl⟩
        rw [<- hz] at hr2 hZb ⊢
        clear hz
        rcases ht with h0 | ⟨h0,h45⟩
        · have h0' : ¬ 0 < (s.size : Int) := by omega
          go_wp2_with fail
          refine (rdecimal_any z _ (unhide1 hZb).1 (unhide1 hZb).2).mono ?_
          obtain ⟨T,hT⟩ : ∃ T,T = bytesT (decZ z) := ⟨_,rfl⟩
          have GT := hide hT
          clear hT
          rintro e w1 ⟨he,hw1⟩
          rw [<- unhide GT] at he
          subst he
          have HB := hide hw1
          clear hw1
          obtain ⟨q,hq⟩ : ∃ q,(T.toList == s.toList) = q := ⟨_,rfl⟩
          have HQ := hide hq
          cases q
          · have he : Hid (r = (0,false)) := (unhide hr2).trans (if_neg fun c => by
              have := unhide HQ
              rw [unhide GT,Lib.toList_data,Lib.toList_data] at this
              exact absurd c.1 (beq_eq_false_iff_ne.1 this))
            go_wp2_with fail
            go_ret2
            exact ⟨ret_ib (by rw [unhide he]) (by rw [unhide he]),unhide HB⟩
          · by_cases hlo : z < -2147483648
            · have he : Hid (r = (0,false)) := (unhide hr2).trans (if_neg fun c => by omega)
              go_wp2_with fail
              go_ret2
              exact ⟨ret_ib (by rw [unhide he]) (by rw [unhide he]),unhide HB⟩
            · by_cases hhi : 2147483648 < z
              · have he : Hid (r = (0,false)) := (unhide hr2).trans (if_neg fun c => by omega)
                go_wp2_with fail
                go_ret2
                exact ⟨ret_ib (by rw [unhide he]) (by rw [unhide he]),unhide HB⟩
              · have he : Hid (r = (z,true)) := (unhide hr2).trans (if_pos ⟨by
                  have := unhide HQ
                  rw [unhide GT,Lib.toList_data,Lib.toList_data] at this
                  exact beq_iff_eq.1 this,by omega,by omega⟩)
                go_wp2_with fail
                go_ret2
                exact ⟨ret_ib (by rw [unhide he]) (by rw [unhide he]),unhide HB⟩
        · go_wp2_with fail
          refine (rdecimal_any z _ (unhide1 hZb).1 (unhide1 hZb).2).mono ?_
          obtain ⟨T,hT⟩ : ∃ T,T = bytesT (decZ z) := ⟨_,rfl⟩
          have GT := hide hT
          clear hT
          rintro e w1 ⟨he,hw1⟩
          rw [<- unhide GT] at he
          subst he
          have HB := hide hw1
          clear hw1
          obtain ⟨q,hq⟩ : ∃ q,(T.toList == s.toList) = q := ⟨_,rfl⟩
          have HQ := hide hq
          cases q
          · have he : Hid (r = (0,false)) := (unhide hr2).trans (if_neg fun c => by
              have := unhide HQ
              rw [unhide GT,Lib.toList_data,Lib.toList_data] at this
              exact absurd c.1 (beq_eq_false_iff_ne.1 this))
            go_wp2_with fail
            go_ret2
            exact ⟨ret_ib (by rw [unhide he]) (by rw [unhide he]),unhide HB⟩
          · by_cases hlo : z < -2147483648
            · have he : Hid (r = (0,false)) := (unhide hr2).trans (if_neg fun c => by omega)
              go_wp2_with fail
              go_ret2
              exact ⟨ret_ib (by rw [unhide he]) (by rw [unhide he]),unhide HB⟩
            · by_cases hhi : 2147483648 < z
              · have he : Hid (r = (0,false)) := (unhide hr2).trans (if_neg fun c => by omega)
                go_wp2_with fail
                go_ret2
                exact ⟨ret_ib (by rw [unhide he]) (by rw [unhide he]),unhide HB⟩
              · have he : Hid (r = (z,true)) := (unhide hr2).trans (if_pos ⟨by
                  have := unhide HQ
                  rw [unhide GT,Lib.toList_data,Lib.toList_data] at this
                  exact beq_iff_eq.1 this,by omega,by omega⟩)
                go_wp2_with fail
                go_ret2
                exact ⟨ret_ib (by rw [unhide he]) (by rw [unhide he]),unhide HB⟩

set_option maxHeartbeats 1000000 in
theorem rvalue_any (s : ByteArray) (w : World) (hs : s.size <= 281474976710656) :
    Calls Tryz.prog 123 #[.string s] w fun e w' => e = .returned (.bool (valueB s.data.toList)) /\ Below w.heap.size w w' := by
  obtain ⟨r,hr⟩ : ∃ r,r = valueB s.data.toList := ⟨_,rfl⟩
  rw [<- hr]
  have HR := hide hr
  have HS := hide1 (Nat.le_trans hs (by decide) : s.size <= maxLen)
  clear hr hs
  obtain ⟨b,hb⟩ : ∃ b,b = nameB s.data.toList := ⟨_,rfl⟩
  obtain ⟨p,hp⟩ : ∃ p,p = numR s.data.toList := ⟨_,rfl⟩
  have hf : Hid (r = (b || p.2)) := (unhide HR).trans (by
    rw [hb,hp]; unfold valueB numR; cases numO s.data.toList <;> rfl)
  have hB := hide hb
  have hP := hide hp
  clear hb hp HR
  obtain ⟨z,q⟩ := p
  go_enter Tryz.func123,Tryz.ntmps123
  go_wp2_with fail
  refine (rname_any s _ (unhide1 HS)).mono ?_
  rintro e w1 ⟨he,hw1⟩
  rw [<- unhide hB] at he
  subst he
  obtain rfl := hw1.symm
  clear hw1
  go_wp2_with fail
  refine (rnumber_any s _ (unhide1 HS)).mono ?_
  rintro e w2 ⟨he,hw2⟩
  rw [<- unhide hP] at he
  subst he
  have HB := hide hw2
  clear hw2
  cases b
  all_goals
    go_wp2_with fail
    go_ret
    exact ⟨ret_bool (unhide hf).symm,unhide HB⟩

end Go.Proofs.YtfpfdnapamdhjaaGreatDoor
