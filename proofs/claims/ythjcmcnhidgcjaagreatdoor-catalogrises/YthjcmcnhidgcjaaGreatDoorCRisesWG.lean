/- CatalogRises: the walk. -/
import Derived.Test.YthjcmcnhidgcjaaGreatDoorCuMG
import Derived.Test.YthjcmcnhidgcjaaGreatDoorCuTG
import Derived.Deep.AppendLies
namespace Go.Proofs.YthjcmcnhidgcjaaGreatDoor.catalogRises
open Go.RowKit Suf Val

theorem small (ts : List VType) : (offersR ts).length ≤ 1048576 := by
  have hnd : (offersR ts).Nodup := (srt_order ts _).imp (fun {a b} h e => by rw [e, ahead_ir] at h; cases h)
  exact Nat.le_trans (nodup_len hnd (fun x hx => keysS_cov (offers_at hx).1)) (keysS_len ts)
/-- What has been laid behind so many rounds. -/
def backL (l : List VOff) (k : Nat) : List VOff := (l.reverse.take k).flatMap fun x => [x, x]
theorem back_next {l : List VOff} {k j : Nat} (hk : k < l.length) (hj : j = l.length - 1 - k) (hjl : j < l.length) : backL l (k + 1) = backL l k ++ [l[j], l[j]] := by
  unfold backL
  have hr : k < l.reverse.length := by rw [List.length_reverse]; exact hk
  rw [take_at6 l.reverse k hr, List.flatMap_append, List.getElem_reverse]
  subst hj
  simp
theorem back_len {l : List VOff} {k : Nat} (hk : k ≤ l.length) : (backL l k).length = 2 * k := by
  induction k with
  | zero => simp [backL]
  | succ k ih =>
    rw [back_next hk rfl (by omega), List.length_append, ih (by omega)]
    show 2 * k + 2 = _
    omega
theorem back_mem {l : List VOff} {x : VOff} : x ∈ backL l l.length ↔ x ∈ l := by
  unfold backL
  rw [List.take_of_length_le (by simp), List.mem_flatMap]
  constructor
  · rintro ⟨y, hy, hx⟩
    have : x = y := by simpa using hx
    rw [this]; exact List.mem_reverse.1 hy
  · intro hx
    exact ⟨x, List.mem_reverse.2 hx, by simp⟩
theorem back_in {l : List VOff} {k : Nat} {x : VOff} (h : x ∈ backL l k) : x ∈ l := by
  unfold backL at h
  obtain ⟨y, hy, hx⟩ := List.mem_flatMap.1 h
  have : x = y := by simpa using hx
  rw [this]; exact List.mem_reverse.1 (List.mem_of_mem_take hy)
theorem flatO_app (l m : List VOff) : flatO (l ++ m) = flatO l ++ flatO m := by unfold flatO; rw [List.flatMap_append]
set_option maxRecDepth 100000 in
set_option maxHeartbeats 16000000 in
theorem walk (v : Value) (l : List VType) (w : World) (hv : Lst typK w v l) (hL : Laid w) : Calls Tryz.prog 8 #[v] w fun e w' => e = .returned (.bool true) ∧ Below w.heap.size w w' := by
  have HL := hide hL
  have HV := hide hv
  have cof := hide (pOffers_any v l w hL hv)
  obtain ⟨a, c, rfl⟩ := hv.val
  clear hL hv
  obtain ⟨N, hN⟩ : ∃ n, n = l.length := ⟨_, rfl⟩
  rw [← hN] at HV cof ⊢
  clear hN
  have hat := hide (fun o (ho : o ∈ offersR l) => offers_at ho)
  have hpr : Hid (∀ (i j : Nat) (hi : i < (offersR l).length) (hj : j < (offersR l).length), i < j → (priceR l ((offersR l)[i]'hi)).1 ≤ (priceR l ((offersR l)[j]'hj)).1) := fun i j _ hj hij => offers_price hij hj
  have hself := hide (offers_self l)
  have hback : Hid (orderR l (backL (offersR l) (offersR l).length) = offersR l) := offers_back fun o => back_mem
  have hsm : (offersR l).length ≤ 1048576 := small l
  obtain ⟨L, hLd⟩ : ∃ L, L = offersR l := ⟨_, rfl⟩
  rw [← hLd] at hat hpr hself hback cof hsm
  clear hLd
  go_enter Tryz.func8, Tryz.ntmps8
  go_wp2_with fail
  refine (unhide cof).mono ?_
  rintro e w1 ⟨v1, rfl, ho1, hw1⟩
  have B1 := hide hw1
  obtain ⟨xa, xc, rfl⟩ := ho1.val
  have L1 := hide ho1.lst
  have HSO := hide ho1.2.1
  clear ho1 hw1 cof
  obtain ⟨n, hn⟩ : ∃ n, n = L.length := ⟨_, rfl⟩
  rw [← hn] at L1 hsm hback ⊢
  have HN := hide hn
  clear hn
  go_wp2_with fail
  go_loopw [5, 6] (fun z i W => ∃ (k : Nat) (x : Int), k ≤ n ∧ i = .int .i64 k ∧ z = .int .i64 x ∧ Hid (∀ h : k < L.length, x ≤ (priceR l L[k]).1) ∧ Hid (Below w1.heap.size w1 W)) (fun _ i _ => n - (intOf i).toNat)
  case atStart => exact ⟨0, 0, Nat.zero_le _, rfl, rfl, fun _ => price_pos _, Below.refl _ _⟩
  case round =>
    obtain ⟨k, x, hk, rfl, rfl, hle, hbel⟩ := hrel
    by_cases hlt : k < n
    · have hlk : k < L.length := by rw [← unhide HN]; exact hlt
      obtain ⟨b, o, rfl, hat0⟩ := ((unhide L1).below (unhide hbel)).at hlk
      have hle2 := unhide hle hlk
      have hin := hide (unhide hat _ (List.getElem_mem hlk))
      have hnx : Hid (∀ h : k + 1 < L.length, (priceR l L[k]).1 ≤ (priceR l L[k + 1]).1) := fun h => unhide hpr k (k + 1) hlk h (Nat.lt_succ_self k)
      have hso := hide (unhide HSO _ (List.getElem_mem hlk))
      obtain ⟨y, hy⟩ : ∃ y, y = L[k] := ⟨_, rfl⟩
      rw [← hy] at hat0 hle2 hin hso
      have hnx2 : Hid (∀ h : k + 1 < L.length, (priceR l y).1 ≤ (priceR l L[k + 1]).1) := by rw [hy]; exact unhide hnx
      obtain ⟨⟨h0, _⟩, ⟨h1, _⟩, h2, _⟩ := off_at.1 hat0
      rw [show offK.size = 3 from rfl] at h0 h1 h2
      clear hy hlk hat0 hle hnx
      have cpr := hide (pprice_any _ l y wr ((unhide HL).below (chain (unhide B1) (unhide hbel))) ((unhide HV).below (chain (unhide B1) (unhide hbel))) (unhide hso))
      have htrue : (priceR l y).2 = true := by rw [price_there]; exact (unhide hin).1
      rw [htrue] at cpr
      obtain ⟨p, hp⟩ : ∃ p, p = (priceR l y).1 := ⟨_, rfl⟩
      rw [← hp] at cpr hle2 hnx2
      clear htrue hp
      unfold offA at cpr
      go_wp2_with fail
      refine (unhide cpr).mono ?_
      rintro e w2 ⟨rfl, hw2⟩
      have hbp : decide (p < x) = false := by simp; omega
      have B2 := hide (chain (unhide hbel) hw2)
      have g0 := cell_kept hw2 h0
      have g1 := cell_kept hw2 h1
      have g2 := cell_kept hw2 h2
      have cop := hide (popen_any _ l y w2 ((unhide HL).below (chain (unhide B1) (unhide B2))) ((unhide HV).below (chain (unhide B1) (unhide B2))) (unhide hso))
      rw [(unhide hin).2] at cop
      unfold offA at cop
      clear h0 h1 h2 hw2 cpr
      go_wp2_with fail
      clear g0 g1 g2
      refine (unhide cop).mono ?_
      rintro e w3 ⟨rfl, hw3⟩
      have B3 := hide (chain (unhide B2) hw3)
      clear hw3 cop
      go_wp2_with fail
      go_roundw
      case rel => exact ⟨k + 1, p, by omega, by go_num, rfl, hnx2, B3⟩
      case measure => simp [intOf]; omega
    · obtain rfl : k = n := by omega
      have B4 := hide (chain (unhide B1) (unhide hbel))
      have L4 := hide ((unhide L1).below (unhide hbel))
      clear hle hbel L1 B1
      go_wp2_with fail
      obtain ⟨V0, hV0⟩ : ∃ V, V = wr := ⟨_, rfl⟩
      rw [← hV0] at B4 L4 ⊢
      clear hV0
      go_loopw [4, 9] (fun s i W => ∃ j : Nat, j ≤ k ∧ i = .int .i64 ((k : Int) - 1 - (j : Int)) ∧ Hid (W.ownsRow V0.heap.size 38 3 s (2 * j) (flatO (backL L j))) ∧ Hid (Below V0.heap.size V0 W)) (fun _ i _ => (intOf i + 1).toNat)
      case atStart => exact ⟨0, Nat.zero_le _, by simp, World.ownsRow_nil _ _ _ _, Below.refl _ _⟩
      case round =>
        obtain ⟨j, hj, rfl, hrow, hbel⟩ := hrel
        by_cases hltj : j < k
        · have hjl : j < L.length := by rw [← unhide HN]; exact hltj
          obtain ⟨m, hm⟩ : ∃ m, m = k - 1 - j := ⟨_, rfl⟩
          have hml : m < L.length := by rw [← unhide HN]; omega
          have him : (k : Int) - 1 - (j : Int) = (m : Int) := by omega
          have hbn := hide (back_next hjl (by rw [← unhide HN]; exact hm) hml)
          obtain ⟨b, o, rfl, hat0⟩ := (unhide L4).at hml
          obtain ⟨y, hy⟩ : ∃ y, y = L[m] := ⟨_, rfl⟩
          rw [← hy] at hat0 hbn
          obtain ⟨⟨h0, _⟩, ⟨h1, _⟩, h2, _⟩ := off_at.1 hat0
          rw [show offK.size = 3 from rfl] at h0 h1 h2
          obtain ⟨X0, hX0⟩ : ∃ X, X = bytesT y.1 := ⟨_, rfl⟩
          obtain ⟨X1, hX1⟩ : ∃ X, X = bytesT y.2.1 := ⟨_, rfl⟩
          obtain ⟨X2, hX2⟩ : ∃ X, X = bytesT y.2.2 := ⟨_, rfl⟩
          have hfl : Hid (flatO (backL L (j + 1)) = flatO (backL L j) ++ [.string X0, .string X1, .string X2, .string X0, .string X1, .string X2]) := by
            show _ = _
            rw [unhide hbn, flatO_app, hX0, hX1, hX2]; rfl
          rw [← hX0] at h0
          rw [← hX1] at h1
          rw [← hX2] at h2
          have kall : Hid (∀ V, Below V0.heap.size V0 V → Hid (Below V0.heap.size V0 V) ∧ V.cell? ⟨b, o + m * 3, none⟩ = some (.string X0) ∧ V.cell? ⟨b, o + m * 3 + 1, none⟩ = some (.string X1) ∧ V.cell? ⟨b, o + m * 3 + 2, none⟩ = some (.string X2)) := fun V hb => ⟨hb, cell_kept hb h0, cell_kept hb h1, cell_kept hb h2⟩
          have hS : Hid (Below V0.heap.size V0 wr) ∧ wr.cell? ⟨b, o + m * 3, none⟩ = some (.string X0) ∧ wr.cell? ⟨b, o + m * 3 + 1, none⟩ = some (.string X1) ∧ wr.cell? ⟨b, o + m * 3 + 2, none⟩ = some (.string X2) := unhide kall _ (unhide hbel)
          have kdrew : Hid (∀ V, (Hid (Below V0.heap.size V0 V) ∧ V.cell? ⟨b, o + m * 3, none⟩ = some (.string X0) ∧ V.cell? ⟨b, o + m * 3 + 1, none⟩ = some (.string X1) ∧ V.cell? ⟨b, o + m * 3 + 2, none⟩ = some (.string X2)) → Hid (Below V0.heap.size V0 V.drew) ∧ V.drew.cell? ⟨b, o + m * 3, none⟩ = some (.string X0) ∧ V.drew.cell? ⟨b, o + m * 3 + 1, none⟩ = some (.string X1) ∧ V.drew.cell? ⟨b, o + m * 3 + 2, none⟩ = some (.string X2)) := fun V h => unhide kall _ (chain (unhide h.1) (below_drew6 V))
          have kalloc : Hid (∀ V o', (Hid (Below V0.heap.size V0 V) ∧ V.cell? ⟨b, o + m * 3, none⟩ = some (.string X0) ∧ V.cell? ⟨b, o + m * 3 + 1, none⟩ = some (.string X1) ∧ V.cell? ⟨b, o + m * 3 + 2, none⟩ = some (.string X2)) → Hid (Below V0.heap.size V0 (V.alloc o')) ∧ (V.alloc o').cell? ⟨b, o + m * 3, none⟩ = some (.string X0) ∧ (V.alloc o').cell? ⟨b, o + m * 3 + 1, none⟩ = some (.string X1) ∧ (V.alloc o').cell? ⟨b, o + m * 3 + 2, none⟩ = some (.string X2)) := fun V o' h => unhide kall _ (chain (unhide h.1) (boxb o'))
          have TI := hide (info_parts off_info)
          obtain ⟨ti, hti⟩ := unhide TI
          have HTI := hide hti
          have i0 : (0 : Int) ≤ (m : Int) := by omega
          have i1 : (m : Int) < (k : Int) := by omega
          have hbg : decide ((m : Int) ≥ 0) = true := by simp
          have hmj : m + 1 + j = k := by omega
          rw [him]
          clear hjl hml hat0 hy hX0 hX1 hX2 hbn h0 h1 h2 hti TI hm
          have hq1 : Hid (2 * j + 2 ≤ maxLen) := by show _ ≤ _; unfold maxLen; omega
          have hq2 : Hid ((2 * j + 2) * 48 ≤ 140737488355328) := by show _ ≤ _; omega
          have hone : Hid (∀ u ∈ ([.string X0, .string X1, .string X2, .string X0, .string X1, .string X2] : List Value), u.oneCell' = true) := fun u hu => by
            simp only [List.mem_cons, List.not_mem_nil, or_false] at hu
            rcases hu with rfl | rfl | rfl | rfl | rfl | rfl <;> rfl
          go_wp2_with fail
          go_region_held3 (fun V => Hid (Below V0.heap.size V0 V) ∧ V.cell? ⟨b, o + m * 3, none⟩ = some (.string X0) ∧ V.cell? ⟨b, o + m * 3 + 1, none⟩ = some (.string X1) ∧ V.cell? ⟨b, o + m * 3 + 2, none⟩ = some (.string X2))
            (first | (with_reducible exact hS) | (with_reducible assumption) | (with_reducible refine unhide kdrew _ ?_; with_reducible assumption) | (with_reducible refine unhide kalloc _ _ ?_; with_reducible assumption) | (with_reducible refine unhide kdrew _ (unhide kalloc _ _ ?_); with_reducible assumption) | (with_reducible refine unhide kalloc _ _ (unhide kdrew _ ?_); with_reducible assumption) | (with_reducible exact unhide kall _ (unhide C9)))
            (first | (refine step_append_lies _ (by rfl) _ _ _ (by rfl) V0.heap.size 38 ti _ 3 48 Tryz.underlying49 (unhide HTI).1 (unhide HTI).2.1 (unhide HTI).2.2.1 (unhide HTI).2.2.2 (by rfl) (by decide) u4 (2 * j) (flatO (backL L j)) (by rfl) (by first | exact grow_below (unhide hrow) (chain (Below.refl _ _).drew (boxb _)) | exact grow_below (unhide hrow) (chain (boxb _) (below_drew6 _))) ⟨wr.heap.size, 0, none⟩ 2 2 [.string X0, .string X1, .string X2, .string X0, .string X1, .string X2] (by rfl) (by rfl) (by exact World.news_of_block (World.alloc_heap_new _ _)) (unhide hone) (by decide) (unhide hq1) (unhide hq2) (by have := (unhide hbel).size; simp; omega) _ rfl ?_; intro ga gcap w9 hown9 hg9 _ _; have C9 := hide (grow_on (chain (unhide hbel) (chain (Below.refl _ _).drew (boxb _))) (grow_below (unhide hrow) (chain (Below.refl _ _).drew (boxb _))) hg9); have R9 := hide hown9; clear hown9 hg9))
          rename_i hH
          clear hH hS
          have hnum : (k : Int) - 1 - ((j + 1 : Nat) : Int) = (m : Int) - 1 := by omega
          go_wp2_with fail
          go_roundw
          case rel =>
            refine ⟨j + 1, by omega, by rw [hnum], ?_, C9⟩
            rw [unhide hfl]
            exact unhide R9
          case measure => simp [intOf]
        · have him : (k : Int) - 1 - (j : Int) = -1 := by omega
          have hjk : j = k := by omega
          have RB := hide (unhide hrow)
          rw [hjk] at RB
          have B5 := hide (chain (unhide B4) (unhide hbel))
          have L5 := hide ((unhide L4).below (unhide hbel))
          have HK : Hid (k = L.length) := HN
          have OB : Hid (OwnO wr V0.heap.size u4 (backL L k)) := by
            refine ⟨?_, fun x hx => unhide HSO x (back_in hx), ?_⟩
            · rw [back_len (Nat.le_of_eq (unhide HK))]; exact unhide RB
            · rw [back_len (Nat.le_of_eq (unhide HK))]; omega
          obtain ⟨ya, yc, rfl⟩ := (unhide OB).val
          have LB := hide (unhide OB).lst
          obtain ⟨nb, hnb⟩ : ∃ q, q = (backL L k).length := ⟨_, rfl⟩
          rw [← hnb] at LB ⊢
          rw [him]
          clear hrow RB hbel L4 B4 OB hjk him hltj hnb
          go_wp2_with fail
          refine (live6_any _ ((unhide HL).below (unhide B5))).mono ?_
          rintro e w5 ⟨rfl, hw5⟩
          have B6 := hide (chain (unhide B5) hw5)
          have L6 := hide ((unhide L5).below hw5)
          have LB6 := hide ((unhide LB).below hw5)
          clear hw5 L5 LB B5
          go_wp2_with fail
          refine (pOrder_any _ l _ L _ ((unhide HL).below (unhide B6)) ((unhide HV).below (unhide B6)) (unhide L6)).mono ?_
          rintro e w7 ⟨v7, rfl, ho7, hw7⟩
          rw [unhide hself] at ho7
          obtain ⟨za, zc, rfl⟩ := ho7.val
          have B7 := hide (chain (unhide B6) hw7)
          have L7 := hide ((unhide L6).below hw7)
          have LB7 := hide ((unhide LB6).below hw7)
          have O7 := hide ho7.lst
          clear hw7 ho7 L6 LB6 B6
          rw [← unhide HK] at O7 ⊢
          go_wp2_with fail
          refine (offersEq_any _ _ L L _ (unhide O7) (unhide L7)).mono ?_
          rintro e w8 ⟨he, hw8⟩
          rw [show (L == L) = true by simp] at he
          subst he
          have B8 := hide (chain (unhide B7) hw8)
          have L8 := hide ((unhide L7).below hw8)
          have LB8 := hide ((unhide LB7).below hw8)
          clear hw8 O7 L7 LB7 B7
          go_wp2_with fail
          refine (pOrder_any _ l _ (backL L k) _ ((unhide HL).below (unhide B8)) ((unhide HV).below (unhide B8)) (unhide LB8)).mono ?_
          rintro e w9 ⟨v9, rfl, ho9, hw9⟩
          rw [unhide hback] at ho9
          obtain ⟨za2, zc2, rfl⟩ := ho9.val
          have B9 := hide (chain (unhide B8) hw9)
          have L9 := hide ((unhide L8).below hw9)
          have O9 := hide ho9.lst
          clear hw9 ho9 L8 LB8 B8
          rw [← unhide HK] at O9 ⊢
          go_wp2_with fail
          refine (offersEq_any _ _ L L _ (unhide O9) (unhide L9)).mono ?_
          rintro e w10 ⟨he, hw10⟩
          rw [show (L == L) = true by simp] at he
          subst he
          have B10 := hide (chain (unhide B9) hw10)
          clear hw10 O9 L9 B9
          go_wp2_with fail
          go_ret
          exact ⟨rfl, unhide B10⟩
end Go.Proofs.YthjcmcnhidgcjaaGreatDoor.catalogRises
