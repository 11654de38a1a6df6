/- Layer 3: contracts of Name,Number,Value,between. -/
import Derived.Test.YtfpfdnapamdhjaaGreatDoorV3AGZ
import Derived.Lib.AtoiErrMem
namespace Go.Proofs.YtfpfdnapamdhjaaGreatDoor
open Go.RowKit Suf Val

theorem at_list (s : ByteArray) (k : Nat) (h : k < s.size) : s.data.toList[k]? = some s[k] := by
  rw [List.getElem?_eq_getElem (by simpa using h)]; rfl
theorem all_snoc (p : UInt8 -> Bool) (s : ByteArray) (k : Nat) (h : k < s.size) : (s.data.toList.take (k + 1)).all p = ((s.data.toList.take k).all p && p s[k]) := by
  rw [List.take_add_one,at_list s k h,List.all_append]; simp
theorem all_not (p : UInt8 -> Bool) (s : ByteArray) (k : Nat) (h : k < s.size) (hp : p s[k] = false) : s.data.toList.all p = false := by
  cases hc : s.data.toList.all p with
  | false => rfl
  | true =>
    have := List.all_eq_true.1 hc s[k] (List.mem_of_getElem? (at_list s k h))
    rw [hp] at this; cases this
theorem head_at (s : ByteArray) (hs : 0 < s.size) : ∃ l,s.data.toList = s[0] :: l := by
  have e := at_list s 0 hs
  cases hl : s.data.toList with
  | nil => rw [hl] at e; cases e
  | cons c l => rw [hl] at e; injection e with e; exact ⟨l,by rw [e]⟩
theorem name_of (s : ByteArray) (hs : 0 < s.size) (h16 : s.size <= 16) : nameB s.data.toList = (low s[0] && s.data.toList.all nameC) := by
  obtain ⟨l,hl⟩ := head_at s hs
  unfold nameB
  rw [decide_eq_true (by rw [<- size_list]; omega),Bool.true_and,hl]
theorem name_short (s : ByteArray) (h : ¬ 0 < s.size ∨ 16 < s.size) : nameB s.data.toList = false := by
  unfold nameB; rw [decide_eq_false (by rw [<- size_list]; omega)]; rfl

set_option maxHeartbeats 1000000 in
theorem name_any (s : ByteArray) (w : World) (hs : s.size <= maxLen) :
    Calls Tryz.prog 144 #[.string s] w fun e w' => e = .returned (.bool (nameB s.data.toList)) /\ w' = w := by
  obtain ⟨r,hr⟩ : ∃ r,r = nameB s.data.toList := ⟨_,rfl⟩
  rw [<- hr]
  have HR := hide hr
  clear hr
  unfold maxLen at hs
  by_cases h1 : s.size < 1
  · have hf : Hid (r = false) := (unhide HR).trans (name_short s (by omega))
    go_enter Tryz.func144,Tryz.ntmps144
    go_wp2_with fail
    go_ret
    exact ⟨ret_bool (unhide hf).symm,rfl⟩
  · by_cases h16 : 16 < s.size
    · have hf : Hid (r = false) := (unhide HR).trans (name_short s (by omega))
      go_enter Tryz.func144,Tryz.ntmps144
      go_wp2_with fail
      go_ret
      exact ⟨ret_bool (unhide hf).symm,rfl⟩
    · have hz : 0 < s.size := by omega
      have hn := hide ((unhide HR).trans (name_of s hz (by omega)))
      clear HR
      obtain ⟨b,hb⟩ : ∃ b,b = low s[0] := ⟨_,rfl⟩
      have hB := hide hb
      clear hb
      have c1 : ∀ W,Calls Tryz.prog 160 #[.int .u8 s[0].toNat] W fun e w' => e = .returned (.bool b) /\ w' = W := fun W => (unhide hB) ▸ isLetter_any s[0] W
      have h1' : ¬ (s.size : Int) < 1 := by omega
      have h16' : ¬ 16 < (s.size : Int) := by omega
      cases b
      · have hf : Hid (r = false) := (unhide hn).trans (by rw [(unhide hB).symm]; rfl)
        go_enter Tryz.func144,Tryz.ntmps144
        go_wp2_with (go_at_call 160; refine (c1 _).mono ?_; rintro e w' ⟨rfl,rfl⟩)
        go_ret
        exact ⟨ret_bool (unhide hf).symm,rfl⟩
      · have hf : Hid (r = s.data.toList.all nameC) := (unhide hn).trans (by rw [(unhide hB).symm]; rfl)
        clear hn
        have hs16 : s.size <= 16 := by omega
        go_enter Tryz.func144,Tryz.ntmps144
        go_wp2_with (go_at_call 160; refine (c1 _).mono ?_; rintro e w' ⟨rfl,rfl⟩)
        go_loop [20] (fun i => ∃ k : Nat,k <= s.size /\ i = .int .i64 k /\ Hid ((s.data.toList.take k).all nameC = true)) (fun i => s.size - (intOf i).toNat)
        case atStart => exact ⟨0,Nat.zero_le _,rfl,rfl⟩
        case round =>
          obtain ⟨k,hk,rfl,hall⟩ := hrel
          by_cases hlt : k < s.size
          · obtain ⟨q,hq⟩ : ∃ q,q = nameC s[k] := ⟨_,rfl⟩
            have hQ := hide hq
            clear hq
            have c2 : ∀ W,Calls Tryz.prog 161 #[.int .u8 s[k].toNat] W fun e w' => e = .returned (.bool q) /\ w' = W := fun W => (unhide hQ) ▸ inName_any s[k] W
            cases q
            · have hn2 : Hid (r = false) := (unhide hf).trans (all_not nameC s k hlt (unhide hQ).symm)
              go_wp2_with (go_at_call 161; refine (c2 _).mono ?_; rintro e w' ⟨rfl,rfl⟩)
              go_ret
              exact ⟨ret_bool (unhide hn2).symm,rfl⟩
            · have ha2 : Hid ((s.data.toList.take (k + 1)).all nameC = true) := by
                show _ = _
                rw [all_snoc nameC s k hlt,unhide hall,(unhide hQ).symm]; rfl
              go_wp2_with (go_at_call 161; refine (c2 _).mono ?_; rintro e w' ⟨rfl,rfl⟩)
              go_round
              case rel => exact ⟨k + 1,by omega,by go_num,ha2⟩
              case measure => simp [intOf]; omega
          · obtain rfl : k = s.size := by omega
            have hn2 : Hid (r = true) := (unhide hf).trans (by rw [<- unhide hall,List.take_of_length_le (by rw [<- size_list]; exact Nat.le_refl _)])
            go_wp2_with fail
            go_ret
            exact ⟨ret_bool (unhide hn2).symm,rfl⟩

/-- A number that is one's digits,and whether. -/
def numR (s : Txt) : Int × Bool := match numO s with | some n => (n,true) | none => (0,false)
theorem numR_some {s : Txt} {n : Int} (h : numO s = some n) : numR s = (n,true) := by unfold numR; rw [h]
theorem numR_none {s : Txt} (h : numO s = none) : numR s = (0,false) := by unfold numR; rw [h]
theorem val_parse : ∀ (l : List UInt8) (acc : Nat),l.all dig = true -> valFrom acc l <= 9223372036854775808 -> Lib.parseUintM (2 ^ 64 - 1) acc l = .ok (valFrom acc l)
  | [],_,_,_ => rfl
  | c :: l,acc,h,hv => by
    rw [List.all_cons,Bool.and_eq_true] at h
    have hd := h.1
    unfold dig at hd; rw [decide_eq_true_eq] at hd
    have hmono : ∀ (l : List UInt8) (a : Nat),a <= valFrom a l := by
      intro l
      induction l with
      | nil => exact fun a => Nat.le_refl _
      | cons c l ih => exact fun a => Nat.le_trans (by omega) (ih (a * 10 + dv c))
    have h2 : acc * 10 + dv c <= 9223372036854775808 := Nat.le_trans (hmono l _) hv
    have h3 : dv c = c.toNat - 48 := rfl
    unfold Lib.parseUintM
    rw [if_pos hd,if_neg (by omega),if_neg (by rw [<- h3]; omega),<- h3]
    exact val_parse l _ h.2 hv
theorem dec_pos (n : Nat) : ∃ c l,dec n = c :: l /\ dig c = true := by
  have hp := decFuel_pos 19 n
  have ha := decFuel_all 20 n
  cases hd : dec n with
  | nil =>
    have : (decFuel (19 + 1) n) = [] := hd
    rw [this] at hp; simp at hp
  | cons c l => exact ⟨c,l,rfl,List.all_eq_true.1 ha c (by show c ∈ dec n; rw [hd]; simp)⟩
theorem parse_dec (n : Nat) (h : n <= 2147483648) : Lib.parseUintB 64 (dec n) = .ok n := by
  obtain ⟨c,l,e,_⟩ := dec_pos n
  unfold Lib.parseUintB
  rw [if_neg (by rw [e]; simp)]
  have hv : val (dec n) = n := dec_val n (Nat.lt_of_le_of_lt h (by decide))
  have := val_parse (dec n) 0 (decFuel_all 20 n) (by show val (dec n) <= _; omega)
  rw [this]; show Lib.NumEnd.ok (val (dec n)) = _; rw [hv]
theorem parse_decZ (n : Int) (h0 : -2147483648 <= n) (h1 : n <= 2147483648) : Lib.parseIntB 64 (decZ n) = .ok n := by
  unfold decZ
  by_cases hn : n < 0
  · rw [if_pos hn]
    have := parse_dec n.natAbs (by omega)
    show (match Lib.parseUintB 64 (if (45 : UInt8).toNat = 43 ∨ (45 : UInt8).toNat = 45 then dec n.natAbs else 45 :: dec n.natAbs) with | .syntax => _ | .range => _ | .ok u => _) = _
    rw [if_pos (by decide),this]
    show (if ¬ (45 : UInt8).toNat = 45 /\ 2 ^ 63 <= n.natAbs then _ else if (45 : UInt8).toNat = 45 /\ 2 ^ 63 < n.natAbs then _ else Lib.NumEnd.ok (if (45 : UInt8).toNat = 45 then -(n.natAbs : Int) else n.natAbs)) = _
    rw [if_neg (fun c => c.1 (by decide)),if_neg (fun c => by have := c.2; omega),if_pos (by decide)]
    congr 1; omega
  · rw [if_neg hn]
    have := parse_dec n.natAbs (by omega)
    obtain ⟨c,l,e,hd⟩ := dec_pos n.natAbs
    unfold dig at hd; rw [decide_eq_true_eq] at hd
    rw [e] at this ⊢
    show (match Lib.parseUintB 64 (if c.toNat = 43 ∨ c.toNat = 45 then l else c :: l) with | .syntax => _ | .range => _ | .ok u => _) = _
    rw [if_neg (by omega),this]
    show (if ¬ c.toNat = 45 /\ 2 ^ 63 <= n.natAbs then _ else if c.toNat = 45 /\ 2 ^ 63 < n.natAbs then _ else Lib.NumEnd.ok (if c.toNat = 45 then -(n.natAbs : Int) else n.natAbs)) = _
    rw [if_neg (fun c => by have := c.2; omega),if_neg (fun c => by have := c.2; omega),if_neg (by omega)]
    congr 1; omega
theorem num_parse {s : Txt} {n : Int} (h : numO s = some n) : Lib.parseIntB 64 s = .ok n := by
  obtain ⟨rfl,h0,h1⟩ := (numO_iff s n).1 h
  exact parse_decZ n h0 h1
theorem num_not {s : Txt} {n : Int} (hp : Lib.parseIntB 64 s = .ok n) (h : farB n = true ∨ ¬ decZ n = s) : numO s = none := by
  cases hn : numO s with
  | none => rfl
  | some m =>
    have := num_parse hn
    rw [hp] at this
    injection this with e
    subst e
    obtain ⟨e,h0,h1⟩ := (numO_iff s n).1 hn
    rcases h with h | h
    · unfold farB at h; simp at h; omega
    · exact absurd e h
theorem num_bad {s : Txt} (h : Lib.parseIntB 64 s = .syntax ∨ Lib.parseIntB 64 s = .range) : numO s = none := by
  cases hn : numO s with
  | none => rfl
  | some m =>
    have := num_parse hn
    rcases h with h | h <;> rw [h] at this <;> cases this

set_option maxHeartbeats 1000000 in
theorem number_any (s : ByteArray) (w : World) (hs : s.size <= 281474976710656) (hL : Laid w) :
    Calls Tryz.prog 164 #[.string s] w fun e w' => e = .returned (.tuple #[.int .i64 (numR s.data.toList).1,.bool (numR s.data.toList).2]) /\ Below w.heap.size w w' := by
  obtain ⟨r,hr⟩ : ∃ r,r = numR s.data.toList := ⟨_,rfl⟩
  rw [<- hr]
  have HR := hide hr
  have HL := hide hL
  have HS := hide1 hs
  clear hr hL hs
  cases hp : Lib.parseIntB 64 s.data.toList with
  | «syntax» =>
    have he := hide ((unhide HR).trans (numR_none (num_bad (Or.inl hp))))
    obtain ⟨ev,hc,hv⟩ := (unhide HL).1
    have HC := hide hc
    have HP := hide hp
    clear hc hp
    go_enter Tryz.func164,Tryz.ntmps164
    go_wp2_with fail
    refine (Tryz.strconv_ParseInt_10_at64_syntax s (unhide1 HS) (unhide HP) ev _ (unhide HC) hv).mono ?_
    rintro e w1 ⟨N,rfl,_,_,hw1⟩
    have HB := hide hw1
    clear hw1
    go_wp2_with fail
    go_ret2
    exact ⟨ret_ib (by rw [unhide he]) (by rw [unhide he]),unhide HB⟩
  | range =>
    have he := hide ((unhide HR).trans (numR_none (num_bad (Or.inr hp))))
    obtain ⟨ev,hc,hv⟩ := (unhide HL).2.1
    have HC := hide hc
    have HP := hide hp
    clear hc hp
    go_enter Tryz.func164,Tryz.ntmps164
    go_wp2_with fail
    refine (Tryz.strconv_ParseInt_10_at64_range s (unhide1 HS) (unhide HP) ev _ (unhide HC) hv).mono ?_
    rintro e w1 ⟨N,rfl,_,_,hw1⟩
    have HB := hide hw1
    clear hw1
    go_wp2_with fail
    go_ret2
    exact ⟨ret_ib (by rw [unhide he]) (by rw [unhide he]),unhide HB⟩
  | ok v =>
    have HP := hide hp
    have hS2 := hide (show s.size <= 9223372036854775806 from Nat.le_trans (unhide1 HS) (by decide))
    obtain ⟨b,hb⟩ : ∃ b,b = farB v := ⟨_,rfl⟩
    have hB := hide hb
    have c1 : ∀ W,Calls Tryz.prog 178 #[.int .i64 v] W fun e w' => e = .returned (.bool b) /\ w' = W := fun W => hb ▸ tooFar_any v W
    clear hp hb
    cases b
    · have hv0 : -2147483648 <= v /\ v <= 2147483648 := by
        have := unhide hB
        unfold farB at this; simp at this; omega
      have H0 := hide1 (show -9223372036854775808 <= v by omega)
      have H1 := hide1 (show v <= 9223372036854775807 by omega)
      obtain ⟨T,hT⟩ : ∃ T : ByteArray,T = ⟨(decZ v).toArray⟩ := ⟨_,rfl⟩
      have GT := hide hT
      clear hT
      obtain ⟨q,hq⟩ : ∃ q,(T.toList == s.toList) = q := ⟨_,rfl⟩
      have HQ := hide hq
      have h9 := hide1 hv0
      clear hv0
      cases q
      all_goals
        go_enter Tryz.func164,Tryz.ntmps164
        go_wp2_with fail
        refine (Tryz.strconv_ParseInt_10_at64_ok s (unhide hS2) v (unhide HP) _).mono ?_
        rintro e w1 ⟨rfl,hw1⟩
        have HB : Hid (Below w.heap.size w w1) := by
          rcases hw1 with h | ⟨t,h⟩
          · rw [h]; exact Below.refl _ _
          · rw [h]; exact Lib.bytesWorld_below w _ t
        clear hw1
        go_wp2_with (go_at_call 178; refine (c1 _).mono ?_; rintro e w' ⟨rfl,rfl⟩)
        refine (text_any v _ (unhide1 H0) (unhide1 H1) ((unhide HL).below (unhide HB))).mono ?_
        rintro e w2 ⟨he,hw2⟩
        rw [<- unhide GT] at he
        subst he
        have HB2 := hide (chain (unhide HB) hw2)
        clear hw2 HB
        go_wp2_with fail
        go_ret2
      · have he := (unhide HR).trans (numR_none (num_not (unhide HP) (Or.inr fun c => by
          have := unhide HQ
          rw [unhide GT,Lib.toList_data,Lib.toList_data] at this
          exact absurd c (beq_eq_false_iff_ne.1 this))))
        exact ⟨ret_ib (by rw [he]) (by rw [he]),unhide HB2⟩
      · have he := (unhide HR).trans (numR_some ((numO_iff s.data.toList v).2 ⟨by
          have := unhide HQ
          rw [unhide GT,Lib.toList_data,Lib.toList_data] at this
          exact beq_iff_eq.1 this,(unhide1 h9).1,(unhide1 h9).2⟩))
        exact ⟨ret_ib (by rw [he]) (by rw [he]),unhide HB2⟩
    · have he := hide ((unhide HR).trans (numR_none (num_not (unhide HP) (Or.inl (unhide hB).symm))))
      go_enter Tryz.func164,Tryz.ntmps164
      go_wp2_with fail
      refine (Tryz.strconv_ParseInt_10_at64_ok s (unhide hS2) v (unhide HP) _).mono ?_
      rintro e w1 ⟨rfl,hw1⟩
      have HB : Hid (Below w.heap.size w w1) := by
        rcases hw1 with h | ⟨t,h⟩
        · rw [h]; exact Below.refl _ _
        · rw [h]; exact Lib.bytesWorld_below w _ t
      clear hw1
      go_wp2_with (go_at_call 178; refine (c1 _).mono ?_; rintro e w' ⟨rfl,rfl⟩)
      go_ret2
      exact ⟨ret_ib (by rw [unhide he]) (by rw [unhide he]),unhide HB⟩

end Go.Proofs.YtfpfdnapamdhjaaGreatDoor

/- Layer 3: lists of texts in memory; contracts of Value,between,every,rises. -/
namespace Go.Proofs.YtfpfdnapamdhjaaGreatDoor
open Go.RowKit Suf Val

/-- A list of texts in memory. -/
def Strs (w : World) (v : Value) (l : List Txt) : Prop :=
  ∃ a c,v = .slice a l.length c /\ (∀ j (h : j < l.length),∃ b o,a = some ⟨b,o,none⟩ /\ w.cell? ⟨b,o + j,none⟩ = some (.string (bytesT l[j]))) /\ l.length <= 17592186044416 /\ ∀ t ∈ l,short t
theorem Strs.below {w w' : World} {v : Value} {l : List Txt} (h : Strs w v l) (hb : Below w.heap.size w w') : Strs w' v l := by
  obtain ⟨a,c,e,hc,hl,hs⟩ := h
  exact ⟨a,c,e,fun j hj => by obtain ⟨b,o,e2,h2⟩ := hc j hj; exact ⟨b,o,e2,cell_kept hb h2⟩,hl,hs⟩
theorem Strs.open {w : World} {v : Value} {l : List Txt} (h : Strs w v l) : (∃ a c,l = [] /\ v = .slice a 0 c) ∨ (∃ b o c,0 < l.length /\ v = .slice (some ⟨b,o,none⟩) l.length c /\ ∀ j (hj : j < l.length),w.cell? ⟨b,o + j,none⟩ = some (.string (bytesT l[j]))) := by
  obtain ⟨a,c,e,hc,hl,hs⟩ := h
  cases l with
  | nil => exact Or.inl ⟨a,c,rfl,e⟩
  | cons t l =>
    obtain ⟨b,o,e2,_⟩ := hc 0 (by simp)
    refine Or.inr ⟨b,o,c,by simp,by rw [e,e2],fun j hj => ?_⟩
    obtain ⟨b',o',e3,h3⟩ := hc j hj
    rw [e2] at e3
    injection e3 with e3
    injection e3 with e4 e5
    subst e4 e5
    exact h3
theorem Strs.len {w : World} {v : Value} {l : List Txt} (h : Strs w v l) : l.length <= 17592186044416 := by obtain ⟨_,_,_,_,hl,_⟩ := h; exact hl
theorem Strs.short {w : World} {v : Value} {l : List Txt} (h : Strs w v l) : ∀ t ∈ l,short t := by obtain ⟨_,_,_,_,_,hs⟩ := h; exact hs
theorem Strs.val {w : World} {v : Value} {l : List Txt} (h : Strs w v l) : ∃ a c,v = .slice a l.length c := by obtain ⟨a,c,e,_⟩ := h; exact ⟨a,c,e⟩

/-- A function value that judges texts,wherever the world keeps to I. -/
def Pred (g : Nat) (lb : Array Value) (p : Txt -> Bool) (I : World -> Prop) : Prop :=
  ∀ (W : World) (t : Txt),short t -> I W -> Calls Tryz.prog g (#[.string (bytesT t)] ++ lb) W fun e w' => e = .returned (.bool (p t)) /\ Below W.heap.size W w'

theorem all_next {p : Txt -> Bool} (l : List Txt) (k : Nat) (h : k < l.length) : (l.take (k + 1)).all p = ((l.take k).all p && p l[k]) := by
  rw [List.take_add_one,List.getElem?_eq_getElem h,List.all_append]; simp
theorem all_no {p : Txt -> Bool} (l : List Txt) (k : Nat) (h : k < l.length) (hp : p l[k] = false) : l.all p = false := by
  cases hc : l.all p with
  | false => rfl
  | true =>
    have := List.all_eq_true.1 hc l[k] (List.getElem_mem h)
    rw [hp] at this; cases this

set_option maxHeartbeats 1000000 in
theorem every_any (g : Nat) (lb : Array Value) (p : Txt -> Bool) (I : World -> Prop) (eg : ∀ args w,(callFunc g args).run Tryz.prog w = .ok (.enter g args) w) (hp : Pred g lb p I) (v : Value) (l : List Txt) (w : World) (hI : I w) (hk : ∀ W W',I W -> Below W.heap.size W W' -> I W') (hv : Strs w v l) :
    Calls Tryz.prog 184 #[v,.func (.func g) #[] lb] w fun e w' => e = .returned (.bool (l.all p)) /\ Below w.heap.size w w' := by
  obtain ⟨r,hr⟩ : ∃ r,r = l.all p := ⟨_,rfl⟩
  rw [<- hr]
  have HR := hide hr
  have hlen := hv.len
  have HS := hide hv.short
  have HP := hide hp
  have HI := hide hI
  have HK := hide hk
  clear hr hp hI hk
  rcases hv.open with ⟨a,c,rfl,rfl⟩ | ⟨b,o,c,hpos,rfl,hcell⟩
  · have hf : Hid (r = true) := unhide HR
    clear hv HS
    go_enter Tryz.func184,Tryz.ntmps184
    go_wp2_with fail
    go_loop [9] (fun i => i = .int .i64 0) (fun _ => 0)
    case atStart => rfl
    case round =>
      subst hrel
      go_wp2_with fail
      go_ret
      exact ⟨ret_bool (unhide hf).symm,Below.refl _ _⟩
  · have HC := hide hcell
    clear hv hcell
    obtain ⟨n,hn⟩ : ∃ n,n = l.length := ⟨_,rfl⟩
    rw [<- hn] at hlen hpos ⊢
    have HN := hide hn
    clear hn
    go_enter Tryz.func184,Tryz.ntmps184
    go_wp2_with fail
    go_loopw [9] (fun i W => ∃ k : Nat,k <= n /\ i = .int .i64 k /\ Hid (Below w.heap.size w W) /\ Hid ((l.take k).all p = true)) (fun i _ => n - (intOf i).toNat)
    case atStart => exact ⟨0,Nat.zero_le _,rfl,Below.refl _ _,rfl⟩
    case round =>
      obtain ⟨k,hk,rfl,hbel,hall⟩ := hrel
      by_cases hlt : k < n
      · have hlk : k < l.length := by rw [<- unhide HN]; exact hlt
        have hc := cell_kept (unhide hbel) (unhide HC k hlk)
        obtain ⟨t,ht⟩ : ∃ t,t = l[k] := ⟨_,rfl⟩
        rw [<- ht] at hc
        have hst : Hid (short t) := by rw [ht]; exact unhide HS _ (List.getElem_mem hlk)
        obtain ⟨q,hq⟩ : ∃ q,q = p t := ⟨_,rfl⟩
        have hQ := hide hq
        have hT := hide ht
        have cp : Calls Tryz.prog g (#[.string (bytesT t)] ++ lb) wr fun e w' => e = .returned (.bool q) /\ Below wr.heap.size wr w' := by
          rw [hq]; exact unhide HP wr t (unhide hst) (unhide HK _ _ (unhide HI) (unhide hbel))
        clear hq ht
        cases q
        · have hn2 : Hid (r = false) := (unhide HR).trans (all_no l k (by rw [<- unhide HN]; exact hlt) (by rw [<- unhide hT]; exact (unhide hQ).symm))
          go_wp2_with (go_at_fn g; refine cp.mono ?_; rintro e w1 ⟨rfl,hw1⟩; have HB1 := hide (chain (unhide hbel) hw1); clear hw1 hbel)
          go_ret
          exact ⟨ret_bool (unhide hn2).symm,unhide HB1⟩
        · have ha2 : Hid ((l.take (k + 1)).all p = true) := by
            show _ = _
            rw [all_next l k (by rw [<- unhide HN]; exact hlt),unhide hall,<- unhide hT,(unhide hQ).symm]; rfl
          go_wp2_with (go_at_fn g; refine cp.mono ?_; rintro e w1 ⟨rfl,hw1⟩; have HB1 := hide (chain (unhide hbel) hw1); clear hw1 hbel)
          go_roundw
          case rel => exact ⟨k + 1,by omega,by go_num,HB1,ha2⟩
          case measure => simp [intOf]; omega
      · obtain rfl : k = n := by omega
        have hn2 : Hid (r = true) := (unhide HR).trans (by rw [<- unhide hall,List.take_of_length_le (by rw [<- unhide HN]; exact Nat.le_refl _)])
        go_wp2_with fail
        go_ret
        exact ⟨ret_bool (unhide hn2).symm,unhide hbel⟩

set_option maxHeartbeats 1000000 in
theorem value_any (s : ByteArray) (w : World) (hs : s.size <= 281474976710656) (hL : Laid w) :
    Calls Tryz.prog 150 #[.string s] w fun e w' => e = .returned (.bool (valueB s.data.toList)) /\ Below w.heap.size w w' := by
  obtain ⟨r,hr⟩ : ∃ r,r = valueB s.data.toList := ⟨_,rfl⟩
  rw [<- hr]
  have HR := hide hr
  have HL := hide hL
  have HS := hide1 hs
  clear hr hL hs
  cases hn : numO s.data.toList with
  | none =>
    have hq := hide (numR_none hn)
    have hf : Hid (r = nameB s.data.toList) := (unhide HR).trans (by unfold valueB; rw [hn]; simp)
    clear hn
    obtain ⟨b,hb⟩ : ∃ b,b = nameB s.data.toList := ⟨_,rfl⟩
    have hB := hide hb
    clear hb
    go_enter Tryz.func150,Tryz.ntmps150
    go_wp2_with fail
    refine (number_any s _ (unhide1 HS) (unhide HL)).mono ?_
    rintro e w1 ⟨he,hw1⟩
    rw [unhide hq] at he
    subst he
    have HB := hide hw1
    clear hw1
    go_wp2_with fail
    refine (name_any s _ (Nat.le_trans (unhide1 HS) (by decide))).mono ?_
    rintro e w2 ⟨he,hw2⟩
    rw [<- unhide hB] at he
    subst he
    obtain rfl := hw2.symm
    clear hw2
    go_wp2_with fail
    go_ret
    exact ⟨ret_bool ((unhide hB).trans (unhide hf).symm),unhide HB⟩
  | some n =>
    have hq := hide (numR_some hn)
    have hf := hide ((unhide HR).trans (num_value hn))
    clear hn
    go_enter Tryz.func150,Tryz.ntmps150
    go_wp2_with fail
    refine (number_any s _ (unhide1 HS) (unhide HL)).mono ?_
    rintro e w1 ⟨he,hw1⟩
    rw [unhide hq] at he
    subst he
    have HB := hide hw1
    clear hw1
    go_wp2_with fail
    go_ret
    exact ⟨ret_bool (unhide hf).symm,unhide HB⟩
/-- A number from one to another. -/
def betw (lo hi : Int) (t : Txt) : Bool := match numO t with | some n => decide (lo <= n /\ n <= hi) | none => false
set_option maxHeartbeats 1000000 in
theorem between_any (s : ByteArray) (lo hi : Int) (w : World) (hs : s.size <= 281474976710656) (hL : Laid w) :
    Calls Tryz.prog 188 #[.string s,.int .i64 lo,.int .i64 hi] w fun e w' => e = .returned (.bool (betw lo hi s.data.toList)) /\ Below w.heap.size w w' := by
  obtain ⟨r,hr⟩ : ∃ r,r = betw lo hi s.data.toList := ⟨_,rfl⟩
  rw [<- hr]
  have HR := hide hr
  have HL := hide hL
  have HS := hide1 hs
  clear hr hL hs
  cases hn : numO s.data.toList with
  | none =>
    have hq := hide (numR_none hn)
    have hf : Hid (r = false) := (unhide HR).trans (by unfold betw; rw [hn])
    clear hn
    go_enter Tryz.func188,Tryz.ntmps188
    go_wp2_with fail
    refine (number_any s _ (unhide1 HS) (unhide HL)).mono ?_
    rintro e w1 ⟨he,hw1⟩
    rw [unhide hq] at he
    subst he
    have HB := hide hw1
    clear hw1
    go_wp2_with fail
    go_ret
    exact ⟨ret_bool (unhide hf).symm,unhide HB⟩
  | some n =>
    have hq := hide (numR_some hn)
    have hf : Hid (r = decide (lo <= n /\ n <= hi)) := (unhide HR).trans (by unfold betw; rw [hn])
    clear hn
    by_cases h1 : lo <= n
    all_goals
      go_enter Tryz.func188,Tryz.ntmps188
      go_wp2_with fail
      refine (number_any s _ (unhide1 HS) (unhide HL)).mono ?_
      rintro e w1 ⟨he,hw1⟩
      rw [unhide hq] at he
      subst he
      have HB := hide hw1
      clear hw1
      go_wp2_with fail
      go_ret
      refine ⟨ret_bool ?_,unhide HB⟩
      rw [unhide hf,Bool.eq_iff_iff]; simp; omega

end Go.Proofs.YtfpfdnapamdhjaaGreatDoor

/- Layer 3: contracts of rises,left,plain,numeric,Check. -/
namespace Go.Proofs.YtfpfdnapamdhjaaGreatDoor
open Go.RowKit Suf Val

theorem wrap_small (x : Int) (h0 : -9223372036854775808 <= x) (h1 : x <= 9223372036854775807) : wrap64 x = x := by unfold wrap64; omega
theorem left_any (lo hi : Int) (n : Nat) (w : World) (h0 : -4294967296 <= lo /\ lo <= 4294967296) (h1 : -4294967296 <= hi /\ hi <= 4294967296) (hn : n <= 17592186044416) :
    Calls Tryz.prog 190 #[.int .i64 lo,.int .i64 hi,.int .i64 n] w fun e w' => e = .returned (.int .i64 (hi - lo + 1 - n)) /\ w' = w := by
  have e1 := wrap_small (hi - lo) (by omega) (by omega)
  have e2 := wrap_small (hi - lo + 1) (by omega) (by omega)
  have e3 := wrap_small (hi - lo + 1 - n) (by omega) (by omega)
  clear h0 h1 hn
  go_enter Tryz.func190,Tryz.ntmps190
  go_wp2_with fail
  go_ret
  exact ⟨ret_int (by first | rfl | rw [e3] | simp [e1,e2,e3]),rfl⟩

theorem value_pred : Pred 150 #[] valueB Laid := fun W t ht hL => by
  have := value_any (bytesT t) W (short_size ht) hL
  exact this
theorem enters_value : ∀ args w,(callFunc 150 args).run Tryz.prog w = .ok (.enter 150 args) w := enters_of Tryz.func150 (by kernel_rfl) rfl

/-- What numeric's judge reads. -/
def InNum (B : Nat) (lo hi : Int) (W : World) : Prop := Laid W /\ W.cell? ⟨B,4,none⟩ = some (.int .i64 lo) /\ W.cell? ⟨B,5,none⟩ = some (.int .i64 hi)
theorem InNum.below {B : Nat} {lo hi : Int} {W W' : World} (h : InNum B lo hi W) (hb : Below W.heap.size W W') : InNum B lo hi W' := ⟨h.1.below hb,cell_kept hb h.2.1,cell_kept hb h.2.2⟩
end Go.Proofs.YtfpfdnapamdhjaaGreatDoor
