import Derived.Test.YtmeffeigamaipabGreatDoorM36
import Derived.Test.YtmeffeigamaipabGreatDoorM42
import Derived.Test.YtmeffeigamaipabGreatDoorN1
import Derived.Test.YtmeffeigamaipabGreatDoorN3
import Derived.Test.YtmeffeigamaipabGreatDoorN4
import Derived.Test.YtmeffeigamaipabGreatDoorN6
set_option linter.unusedVariables false
set_option linter.unusedSimpArgs false
namespace Go.Proofs.YtmeffeigamaipabGreatDoor.G

def allT : ByteArray := ⟨#[40, 46, 42, 41]⟩
def takeI : Ins := ⟨0, 18446744073709551615, 18446744073709551615, true, 0, 0, 0⟩
def allL : List Ins := [⟨3, 0, 0, false, 0, 0, 0⟩, ⟨1, 0, 0, false, 2, 6, 0⟩, ⟨4, 0, 0, false, 0, 0, 0⟩, takeI, ⟨5, 0, 0, false, 0, 0, 0⟩, ⟨2, 0, 0, false, 1, 0, 0⟩, ⟨3, 0, 0, false, 0, 0, 1⟩, ⟨6, 0, 0, false, 0, 0, 0⟩]
set_option maxRecDepth 100000 in
theorem all_code : patC allT = allL := by kernel_rfl
set_option maxRecDepth 100000 in
theorem all_n : patN allT = 1 := by kernel_rfl
set_option maxRecDepth 100000 in
theorem all_ways0 : waysM allL (0, 0) = [(3, 1), (7, 3)] := by kernel_rfl
set_option maxRecDepth 100000 in
theorem all_ways4 : waysM allL (4, 1) = [(3, 0), (7, 2)] := by kernel_rfl
theorem take_low : (List.range 128).all (fun n => Rx.Q.hasL takeI.cls n) = true := by kernel_rfl
theorem take_all (r : Nat) : takeI.takes (r : Int) = true := by
  unfold Ins.takes
  rw [show (takeI.op == 0) = true by rfl, Bool.true_and]
  unfold Rx.Q.hasC
  by_cases h : (128 : Int) ≤ (r : Int)
  · rw [if_pos h]; rfl
  · rw [if_neg h]
    have := List.all_eq_true.1 take_low r (List.mem_range.2 (by omega))
    rw [Int.toNat_natCast]
    exact this
def z0 : List Int := [0, -1, -1, -1, -1, -1, -1, -1, -1, -1]
def z1 (a : Int) : List Int := [0, a, -1, -1, -1, -1, -1, -1, -1, -1]
theorem mark0 (pl : Int) : markM 0 pl z0 = z0 := by
  have h : ∀ i, i < 10 → bitAt 0 i = false := by decide
  simp [markM, markN, h]
theorem mark2 (pl : Int) : markM 2 pl z0 = z1 pl := by
  have h : ∀ i, i < 10 → bitAt 2 i = decide (i = 1) := by decide
  simp [markM, markN, h, z0, z1]
theorem mark1 : markM 1 0 unsetS = z0 := by decide
theorem mark3 : markM 3 0 unsetS = z1 0 := by decide
theorem step_all (r : Nat) (a pl : Int) (rc : List Int) (h3 : rc[3]? ≠ some pl) (h7 : rc[7]? ≠ some pl) : stepL allL (r : Int) pl [⟨3, z0⟩, ⟨7, z1 a⟩] ([], rc) = ([⟨3, z0⟩, ⟨7, z1 pl⟩], (rc.set 3 pl).set 7 pl) := by
  have e3 : allL[(⟨3, z0⟩ : Th).pc]? = some takeI := rfl
  have e7 : allL[(⟨7, z1 a⟩ : Th).pc]? = some ⟨6, 0, 0, false, 0, 0, 0⟩ := rfl
  have t7 : (⟨6, 0, 0, false, 0, 0, 0⟩ : Ins).takes (r : Int) = false := rfl
  unfold stepL
  rw [e3]
  simp only [take_all, if_true]
  unfold stepL
  rw [e7]
  simp only [t7]
  unfold stepL
  rw [show (⟨3, z0⟩ : Th).pc + 1 = 4 by rfl, all_ways4]
  have h7' : (rc.set 3 pl)[7]? ≠ some pl := by rw [List.getElem?_set_ne (by omega)]; exact h7
  simp [wys, followM, h3, h7, mark0, mark2]
theorem run_all (s : ByteArray) : ∀ (f a : Nat) (rc : List Int), a ≤ s.size → s.size - a ≤ f → rc.length = 8 → rc[3]? = some (a : Int) → rc[7]? = some (a : Int) → runM allL s f a ([⟨3, z0⟩, ⟨7, z1 (a : Int)⟩], rc) = some (z1 (s.size : Int))
  | 0, a, rc, ha, hf, hl, h3, h7 => by
    obtain rfl : a = s.size := by omega
    rfl
  | f + 1, a, rc, ha, hf, hl, h3, h7 => by
    unfold runM
    by_cases hlt : a < s.size
    · rw [if_pos hlt]
      have hr := rs_all s a hlt
      have n3 : rc[3]? ≠ some ((a + rsz s a : Nat) : Int) := by rw [h3]; intro e; injection e with e; omega
      have n7 : rc[7]? ≠ some ((a + rsz s a : Nat) : Int) := by rw [h7]; intro e; injection e with e; omega
      rw [step_all (rune s a) (a : Int) _ rc n3 n7]
      simp only [List.length_cons, List.length_nil]
      rw [if_neg (by omega)]
      refine run_all s f (a + rsz s a) _ hr.2 (by omega) (by simp [hl]) ?_ ?_
      · rw [List.getElem?_set_ne (by omega), List.getElem?_set_self (by omega)]
      · rw [List.getElem?_set_self (by simp; omega)]
    · rw [if_neg hlt]
      obtain rfl : a = s.size := by omega
      rfl
theorem match_all (s : ByteArray) : matchM (patC allT) s = some (z1 (s.size : Int)) := by
  rw [all_code]
  unfold matchM
  rw [all_ways0]
  have h : followM unsetS 0 (wys [(3, 1), (7, 3)]) ([], List.replicate allL.length (-1)) = ([⟨3, z0⟩, ⟨7, z1 0⟩], ((List.replicate 8 (-1)).set 3 0).set 7 0) := by
    simp [wys, followM, mark1, mark3, allL]
  rw [h]
  exact run_all s s.size 0 _ (by omega) (by omega) (by simp) (by rfl) (by rfl)
def oneT : ByteArray := ⟨#[36, 49]⟩
theorem ext_all (s : ByteArray) : s.extract 0 s.size = s := by
  apply ByteArray.ext
  apply Array.toList_inj.1
  rw [Lib.extract_data, List.drop_zero, Nat.sub_zero]
  rw [List.take_of_length_le (by rw [len_list]; exact Nat.le_refl _)]
theorem ext_none (s : ByteArray) : s.extract s.size s.size = ⟨#[]⟩ := by
  apply ByteArray.ext
  exact Array.eq_empty_of_size_eq_zero (by show (s.extract s.size s.size).size = 0; rw [Go.Proofs.YtmeffeigamaipabGreatDoor.G.size_extract s s.size s.size (Nat.le_refl _)]; omega)
set_option maxRecDepth 100000 in
theorem first_one (F : ByteArray → ByteArray) : firstM F oneT = (F ⟨#[49]⟩, 2) := by
  have h1 : runN (oneT.extract 1 oneT.size) = 1 := by kernel_rfl
  have h2 : ¬ oneT.data.toList.headD 0 ≠ 36 := by decide
  have h3 : Lib.hasPrefix oneT.data.toList [36, 36] = false := by kernel_rfl
  have h4 : oneT.extract 1 2 = ⟨#[49]⟩ := by kernel_rfl
  unfold firstM
  rw [if_neg h2, h3, h1]
  simp only [Bool.false_eq_true, if_false]
  rw [if_pos (by omega), h4]
set_option maxRecDepth 100000 in
theorem one_tpl (s : ByteArray) (nm : List (ByteArray × Nat)) : tplM (groupsM s (z1 (s.size : Int)) 1 nm) oneT = s := by
  have g1 : gnB ⟨#[49]⟩ = true := by kernel_rfl
  have g2 : gnN ⟨#[49]⟩ = 1 := by kernel_rfl
  have hF : groupsM s (z1 (s.size : Int)) 1 nm ⟨#[49]⟩ = s := by
    unfold groupsM standM
    rw [g1, g2]
    simp only [if_true]
    have e : (spansM (s.size : Int) (z1 (s.size : Int)) 1)[(1 : Int).toNat]? = some (0, (s.size : Int)) := rfl
    unfold numM
    rw [if_neg (by omega), e]
    simp only [Int.toNat_natCast, Int.toNat_zero]
    rw [if_neg (by omega)]
    exact ext_all s
  unfold tplM
  have h2 : oneT.size = 2 := rfl
  rw [h2]
  unfold tempM
  rw [if_neg (by rw [h2]; omega), first_one, hF]
  simp only
  rw [show oneT.extract 2 oneT.size = ⟨#[]⟩ from ext_none oneT, temp_empty _ _ _ rfl, List.append_nil]
theorem index_none : ∀ l : List UInt8, (∀ b ∈ l, b ≠ 36) → Lib.indexByte l 36 = -1
  | [], _ => rfl
  | b :: l, h => by
    have h1 : (b == 36) = false := beq_eq_false_iff_ne.2 (h b (List.mem_cons_self ..))
    unfold Lib.indexByte
    rw [h1, index_none l (fun x hx => h x (List.mem_cons_of_mem _ hx))]
    rfl
theorem name_tpl (F : ByteArray → ByteArray) (t : ByteArray) (h : nameB t = true) : tplM F t = t := by
  have h0 := h
  unfold nameB at h
  simp only [Bool.and_eq_true, Bool.not_eq_true', List.all_eq_true] at h
  have hw := h.2
  have hne : ∀ b ∈ t.data.toList, b ≠ 36 := fun b hb e => by
    have := hw b hb
    rw [e] at this
    revert this
    decide
  have hpos : ¬ t.size = 0 := fun e => by rw [e] at h; simp at h
  have hhead : t.data.toList.headD 0 ≠ 36 := by
    cases hl : t.data.toList with
    | nil => decide
    | cons b r => exact hne b (by rw [hl]; exact List.mem_cons_self ..)
  have hpl : plainI t = t.size := by unfold plainI; rw [index_none _ hne, if_neg (by omega)]
  have hf : firstM F t = (t, t.size) := by
    unfold firstM
    rw [if_pos hhead, hpl, Int.toNat_natCast, ext_all]
  unfold tplM
  obtain ⟨n, hn⟩ : ∃ n, t.size = n + 1 := ⟨t.size - 1, by omega⟩
  have e : tempM F t.size t = t.data.toList := by
    rw [hn]
    unfold tempM
    rw [if_neg hpos, hf]
    simp only
    rw [ext_none, temp_empty _ _ _ rfl, List.append_nil]
  rw [e]
end Go.Proofs.YtmeffeigamaipabGreatDoor.G

set_option linter.unusedVariables false
set_option linter.unusedSimpArgs false
namespace Go.Proofs.YtmeffeigamaipabGreatDoor.G
open Go.RowKit

def valB (n : Nat) (b : UInt8) : Nat := 10 * n + (b.toNat - 48)
theorem dec_big {u : Nat} (h : ¬ u < 10) : Lib.decDigits u = Lib.decDigits (u / 10) ++ [UInt8.ofNat (48 + u % 10)] := by rw [Lib.decDigits, dif_neg h]
theorem ofNat_toNat {n : Nat} (h : n < 10) : (UInt8.ofNat (48 + n)).toNat = 48 + n := by
  rw [UInt8.toNat_ofNat']
  omega
theorem dec_digs (u : Nat) : ∀ b ∈ Lib.decDigits u, 48 ≤ b.toNat ∧ b.toNat ≤ 57 := by
  induction u using Nat.strongRecOn with
  | ind u ih =>
    by_cases h : u < 10
    · rw [Lib.decDigits_one h]
      intro b hb
      rw [List.mem_singleton] at hb
      subst hb
      rw [ofNat_toNat h]
      omega
    · rw [dec_big h]
      intro b hb
      rcases List.mem_append.1 hb with hb | hb
      · exact ih (u / 10) (by omega) b hb
      · rw [List.mem_singleton] at hb
        subst hb
        rw [ofNat_toNat (by omega)]
        omega
theorem dec_val (u : Nat) : (Lib.decDigits u).foldl valB 0 = u := by
  induction u using Nat.strongRecOn with
  | ind u ih =>
    by_cases h : u < 10
    · rw [Lib.decDigits_one h]
      show valB 0 _ = u
      unfold valB
      rw [ofNat_toNat h]
      omega
    · rw [dec_big h, List.foldl_append, ih (u / 10) (by omega)]
      show valB (u / 10) _ = u
      unfold valB
      rw [ofNat_toNat (by omega)]
      omega
theorem dec_ne (u : Nat) : Lib.decDigits u ≠ [] := by
  by_cases h : u < 10
  · rw [Lib.decDigits_one h]; simp
  · rw [dec_big h]; simp
theorem dec_head (u : Nat) (h : 10 ≤ u) : (Lib.decDigits u).headD 0 ≠ 48 := by
  induction u using Nat.strongRecOn with
  | ind u ih =>
    rw [dec_big (by omega)]
    have e : (Lib.decDigits (u / 10) ++ [UInt8.ofNat (48 + u % 10)]).headD 0 = (Lib.decDigits (u / 10)).headD 0 := by
      cases hl : Lib.decDigits (u / 10) with
      | nil => exact absurd hl (dec_ne _)
      | cons a r => rfl
    rw [e]
    by_cases h2 : u / 10 < 10
    · rw [Lib.decDigits_one h2]
      intro e2
      have : (UInt8.ofNat (48 + u / 10)).toNat = 48 := by rw [show UInt8.ofNat (48 + u / 10) = 48 from e2]; rfl
      rw [ofNat_toNat h2] at this
      omega
    · exact ih (u / 10) (by omega) (by omega)
theorem val_mono : ∀ (l : List UInt8) (n : Nat), n ≤ l.foldl valB n
  | [], n => Nat.le_refl _
  | b :: l, n => by
    have := val_mono l (valB n b)
    show n ≤ l.foldl valB (valB n b)
    unfold valB at this ⊢
    omega
theorem val_take (l : List UInt8) (j : Nat) : (l.take j).foldl valB 0 ≤ l.foldl valB 0 := by
  have h := val_mono (l.drop j) ((l.take j).foldl valB 0)
  rw [← List.foldl_append, List.take_append_drop] at h
  exact h

set_option maxHeartbeats 2000000 in
set_option maxRecDepth 100000 in
theorem number_dec (u : Nat) (hu : u < 18446744073709551616) (w : World) :
    Calls Tryz.prog 25 #[.string (decB u)] w fun e w' => e = .returned (.tuple #[.int .u64 (u : Int), .bool true]) ∧ w' = w := by
  obtain ⟨s, hs⟩ : ∃ s, s = decB u := ⟨_, rfl⟩
  have hl : s.data.toList = Lib.decDigits u := by rw [hs]; unfold decB; simp
  have hsz : s.size = (Lib.decDigits u).length := by rw [← hl, len_list]
  have hpos : 0 < s.size := by
    rw [hsz]
    exact List.length_pos_iff.2 (dec_ne u)
  have h20 : s.size ≤ 20 := by
    rw [hsz, Lib.decDigits_length]
    rcases Nat.eq_zero_or_pos u with rfl | h1
    · unfold Lib.nDigits; simp
    · have := Lib.numDigits_eq u h1 hu
      split at this <;> omega
  have hdig : ∀ j (h : j < s.size), 48 ≤ (s[j]'h).toNat ∧ (s[j]'h).toNat ≤ 57 := fun j h => dec_digs u _ (by rw [← hl]; exact List.mem_of_getElem? (at_list h))
  have hem := nonempty_list (s := s) (by omega)
  have hval : ∀ j, (s.data.toList.take j).foldl valB 0 ≤ u := fun j => by
    have := val_take s.data.toList j
    rw [hl, dec_val] at this
    rw [hl]
    exact this
  have hfull : s.data.toList.foldl valB 0 = u := by rw [hl]; exact dec_val u
  have hhead : 1 < s.size → ¬ ((s[0]'hpos).toNat : Int) = 48 := fun h1 e => by
    have h10 : 10 ≤ u := by
      rcases Nat.lt_or_ge u 10 with h9 | h9
      · rw [hsz, Lib.decDigits_one h9] at h1; simp at h1
      · exact h9
    have h9 := dec_head u h10
    rw [← hl, head_list hpos] at h9
    exact h9 (UInt8.toNat_inj.1 (by simpa using (show (s[0]'hpos).toNat = 48 by omega)))
  have HD := hide hdig
  have HV := hide hval
  have HF := hide hfull
  rw [← hs]
  clear hs hl hsz hdig hval hfull
  obtain ⟨n, hn⟩ : ∃ n, n = s.size := ⟨_, rfl⟩
  have key : ((s[0]'hpos).toNat : Int) = 48 ∧ ¬ (1 : Int) < (s.size : Int) ∨ ¬ ((s[0]'hpos).toNat : Int) = 48 := by
    by_cases h1 : 1 < s.size
    · exact .inr (hhead h1)
    · by_cases h2 : ((s[0]'hpos).toNat : Int) = 48
      · exact .inl ⟨h2, by omega⟩
      · exact .inr h2
  clear hhead
  have HN := hide hn
  rcases key with ⟨k1, k2⟩ | k1
  case' inl =>
    have k1b : (((s[0]'hpos).toNat : Int) == 48) = true := beq_iff_eq.2 k1
  case' inr =>
    have k1b : (((s[0]'hpos).toNat : Int) == 48) = false := beq_eq_false_iff_ne.2 k1
  all_goals
    go_enter Tryz.func25, Tryz.ntmps25
    go_wp2_with fail
    go_loopg [4, 5] n (fun gk s4 i5 wr => ∃ (j x : Nat), j + gk = n ∧ i5 = .int .i64 j ∧ s4 = .int .u64 (x : Int) ∧ x = (s.data.toList.take j).foldl valB 0 ∧ wr = w)
    case atStart => exact ⟨0, 0, by omega, rfl, rfl, rfl, rfl⟩
    case round =>
      obtain ⟨j, x, hj, rfl, rfl, hx, rfl⟩ := hrel
      have HX := hide hx
      clear hx
      cases gk with
      | zero =>
        have hjs : ¬ ((j : Int) < (s.size : Int)) := by have := HN.out; omega
        obtain rfl : x = u := by
          have h9 := HX.out
          rw [List.take_of_length_le (by rw [len_list]; have := HN.out; omega), HF.out] at h9
          exact h9
        clear hj
        go_wp2_with fail
        go_ret2
        exact ⟨rfl, rfl⟩
      | succ g =>
        have hjl : j < s.size := by have := HN.out; omega
        have hji : (j : Int) < (s.size : Int) := by omega
        obtain ⟨d1, d2⟩ := HD.out j hjl
        have hnext : (s.data.toList.take (j + 1)).foldl valB 0 = 10 * x + ((s[j]'hjl).toNat - 48) := by
          rw [List.take_add_one, at_list hjl, List.foldl_append, ← HX.out]
          rfl
        have hb := HV.out (j + 1)
        rw [hnext] at hb
        have HNX := hide hnext
        obtain ⟨bb, hbb⟩ : ∃ bb : Nat, bb = (s[j]'hjl).toNat := ⟨_, rfl⟩
        have HBB := hide hbb
        rw [← hbb] at d1 d2 hb HNX
        have e1 : IntKind.u64.wrap (10 * (x : Int)) = 10 * (x : Int) := by rw [IntKind.wrap_u64]; omega
        have e2 : IntKind.u8.wrap ((bb : Int) - 48) = (bb : Int) - 48 := by rw [IntKind.wrap_u8]; omega
        have e3 : IntKind.u64.wrap ((bb : Int) - 48) = (bb : Int) - 48 := by rw [IntKind.wrap_u64]; omega
        have e4 : IntKind.u64.wrap (10 * (x : Int) + ((bb : Int) - 48)) = 10 * (x : Int) + ((bb : Int) - 48) := by rw [IntKind.wrap_u64]; omega
        have g1 : ¬ ((bb : Int) < 48) := by omega
        have g2 : ¬ ((57 : Int) < (bb : Int)) := by omega
        rw [hbb] at e2 e3 e4 g1 g2
        clear hnext hbb hb
        go_wp2_with fail
        go_roundg g
        case measure => omega
        case rel => exact ⟨j + 1, 10 * x + (bb - 48), by omega, by simp, by have := HBB.out; congr 1; omega, HNX.out.symm, rfl⟩
end Go.Proofs.YtmeffeigamaipabGreatDoor.G

set_option linter.unusedVariables false
set_option linter.unusedSimpArgs false
namespace Go.Proofs.YtmeffeigamaipabGreatDoor.G
open Go.RowKit

def turnB (b : UInt8) : UInt8 := if 97 ≤ b.toNat ∧ b.toNat ≤ 122 then b - 32 else if 65 ≤ b.toNat ∧ b.toNat ≤ 90 then b + 32 else b
def turnA (s : ByteArray) : ByteArray := ⟨(s.data.toList.map turnB).toArray⟩

set_option maxHeartbeats 1000000 in
set_option maxRecDepth 100000 in
theorem turned_any (s : ByteArray) (w : World) (hs : s.size ≤ 1000) : Calls Tryz.prog 26 #[.string s] w fun e w' => e = .returned (.string (turnA s)) ∧ Ex [] w w' := by
  have hcv := run_bytes_of_string (P := Tryz.prog) w 9 59 5 s Tryz.underlying9 Tryz.underlying59 Tryz.underlying5
  have hN : BB (w.drew.alloc (.cells (bytesRow s (grownCap w s.size 0 5)) 5 ((bytesRow s (grownCap w s.size 0 5)).size, (bytesRow s (grownCap w s.size 0 5)).size + 1))) w.heap.size s.data.toList := BB.new w.drew s _
  have hlen : s.data.toList.length = s.size := (Lib.size_eq s).symm
  have HN := hide hN
  clear hN
  obtain ⟨cap, hcap⟩ : ∃ cap, grownCap w s.size 0 5 = cap := ⟨_, rfl⟩
  rw [hcap] at hcv HN
  clear hcap
  obtain ⟨l, hl⟩ : ∃ l, s.data.toList = l := ⟨_, rfl⟩
  have HL := hide hl
  rw [hl] at hlen HN
  clear hl
  obtain ⟨W0, hW0⟩ : ∃ W0, w.drew.alloc (.cells (bytesRow s cap) 5 ((bytesRow s cap).size, (bytesRow s cap).size + 1)) = W0 := ⟨_, rfl⟩
  have HX0 : Hid (Ex [] w W0) := by rw [← hW0]; exact ((Ex.refl _ _).drew).alloc _
  rw [hW0] at hcv HN
  clear hW0
  go_enter Tryz.func26, Tryz.ntmps26
  go_wp2_with fail
  go_loopg [4] s.size (fun gk i4 wr => ∃ (i : Nat) (l' : List UInt8), i + gk = s.size ∧ i4 = .int .i64 i ∧ l'.length = l.length ∧ (∀ j, l'[j]? = if j < i then (l[j]?).map turnB else l[j]?) ∧ BB wr w.heap.size l' ∧ Ex [] w wr)
  case atStart => exact ⟨0, l, by omega, rfl, rfl, fun j => by simp, HN.out, HX0.out⟩
  case round =>
    obtain ⟨i, l', hgi, rfl, hll, hup, hbb, hx⟩ := hrel
    have HX := hide hx
    have HB := hide hbb
    have HU := hide hup
    have hbl := hbb.lt
    clear hx hbb hup hcv
    cases gk with
    | zero =>
      obtain rfl : i = s.size := by omega
      have hend : l' = l.map turnB := upd_end (by rw [hlen]; exact HU.out)
      have hback := run_convert_bytes_back (P := Tryz.prog) wr 59 9 5 ⟨w.heap.size, 0, none⟩ cap l' Tryz.underlying59 Tryz.underlying5 Tryz.underlying9 (fun j hj => by rw [Addr.add_lit, Nat.zero_add]; exact HB.out.cell j hj)
      rw [hll, hlen] at hback
      go_wp2_with fail
      go_ret
      refine ⟨?_, HX.out⟩
      unfold turnA
      rw [HL.out]
      simp
    | succ g =>
      have hi : i < l.length := by omega
      have hi' : (i : Int) < (s.size : Int) := by omega
      have hc := HB.out.cell i (by omega)
      have hf := HB.out.frozen i (by omega)
      have hli : (l'[i]'(by omega)) = l[i] := by
        have h1 := HU.out i
        rw [if_neg (by omega), List.getElem?_eq_getElem (by omega), List.getElem?_eq_getElem hi] at h1
        exact Option.some.inj h1
      rw [hli] at hc
      obtain ⟨b, hb⟩ : ∃ b, l[i] = b := ⟨_, rfl⟩
      rw [hb] at hc
      have hb256 := b.toNat_lt
      have hnext := upd_next hi hll HU.out
      rw [hb] at hnext
      have HNX := hide hnext
      clear hnext hli
      by_cases h1 : 97 ≤ b.toNat ∧ b.toNat ≤ 122
      · have e1 : (97 : Int) ≤ (b.toNat : Int) := by omega
        have e2 : (b.toNat : Int) ≤ 122 := by omega
        have et : ((b.toNat : Int) - 32) = ((turnB b).toNat : Int) := by
          unfold turnB; rw [if_pos h1]
          rw [UInt8.toNat_sub_of_le _ _ (by rw [UInt8.le_iff_toNat_le]; show 32 ≤ b.toNat; omega)]
          have : (32 : UInt8).toNat = 32 := rfl
          omega
        go_wp2_with fail
        go_roundg g
        case measure => omega
        case rel => exact ⟨i + 1, l'.set i (turnB b), by omega, by simp, by simpa using hll, HNX.out, HB.out.set i _, HX.out.setCell (Or.inr (by simp)) _⟩
      · have n1 : ¬ ((97 : Int) ≤ (b.toNat : Int) ∧ (b.toNat : Int) ≤ 122) := by omega
        by_cases h2 : 65 ≤ b.toNat ∧ b.toNat ≤ 90
        · have e0 : ¬ (97 : Int) ≤ (b.toNat : Int) := by omega
          have e1 : (65 : Int) ≤ (b.toNat : Int) := by omega
          have e2 : (b.toNat : Int) ≤ 90 := by omega
          have et : ((b.toNat : Int) + 32) = ((turnB b).toNat : Int) := by
            unfold turnB; rw [if_neg h1, if_pos h2]
            rw [UInt8.toNat_add]
            have : (32 : UInt8).toNat = 32 := rfl
            omega
          go_wp2_with fail
          go_roundg g
          case measure => omega
          case rel => exact ⟨i + 1, l'.set i (turnB b), by omega, by simp, by simpa using hll, HNX.out, HB.out.set i _, HX.out.setCell (Or.inr (by simp)) _⟩
        · have et : turnB b = b := by unfold turnB; rw [if_neg h1, if_neg h2]
          have hsame : l'.set i b = l' := by
            apply List.ext_getElem?
            intro j
            by_cases e : i = j
            · subst e
              have h3 := HU.out i
              rw [if_neg (by omega), List.getElem?_eq_getElem hi, hb] at h3
              rw [List.getElem?_set_self (by omega), h3]
            · rw [List.getElem?_set_ne e]
          have HNX2 : Hid (∀ j, l'[j]? = if j < i + 1 then (l[j]?).map turnB else l[j]?) := by
            show ∀ j, l'[j]? = if j < i + 1 then (l[j]?).map turnB else l[j]?
            have h3 := HNX.out
            rw [et, hsame] at h3
            exact h3
          clear et hsame
          by_cases h3 : 97 ≤ b.toNat
          · have e0 : (97 : Int) ≤ (b.toNat : Int) := by omega
            have e1 : ¬ (b.toNat : Int) ≤ 122 := by omega
            have e2 : (65 : Int) ≤ (b.toNat : Int) := by omega
            have e3 : ¬ (b.toNat : Int) ≤ 90 := by omega
            go_wp2_with fail
            go_roundg g
            case measure => omega
            case rel => exact ⟨i + 1, l', by omega, by simp, hll, HNX2.out, HB.out, HX.out⟩
          · have e0 : ¬ (97 : Int) ≤ (b.toNat : Int) := by omega
            by_cases h4 : 65 ≤ b.toNat
            · have e2 : (65 : Int) ≤ (b.toNat : Int) := by omega
              have e3 : ¬ (b.toNat : Int) ≤ 90 := by omega
              go_wp2_with fail
              go_roundg g
              case measure => omega
              case rel => exact ⟨i + 1, l', by omega, by simp, hll, HNX2.out, HB.out, HX.out⟩
            · have e2 : ¬ (65 : Int) ≤ (b.toNat : Int) := by omega
              go_wp2_with fail
              go_roundg g
              case measure => omega
              case rel => exact ⟨i + 1, l', by omega, by simp, hll, HNX2.out, HB.out, HX.out⟩

theorem turn_eq (b : UInt8) : turnB b = if lowerB b = b then upperB b else lowerB b := by
  have h : ∀ n : Nat, n < 256 → turnB (UInt8.ofNat n) = if lowerB (UInt8.ofNat n) = UInt8.ofNat n then upperB (UInt8.ofNat n) else lowerB (UInt8.ofNat n) := by decide +kernel
  have h1 := h b.toNat b.toNat_lt
  rwa [UInt8.ofNat_toNat] at h1
theorem map_at (f : UInt8 → UInt8) (s : ByteArray) (j : Nat) (h : j < s.size) (h' : j < (⟨(s.data.toList.map f).toArray⟩ : ByteArray).size) : (⟨(s.data.toList.map f).toArray⟩ : ByteArray)[j]'h' = f (s[j]'h) := by
  have e1 := at_list h'
  have e2 := at_list h
  simp only [List.getElem?_map, e2, Option.map_some] at e1
  exact (Option.some.inj e1).symm

set_option maxHeartbeats 2000000 in
set_option maxRecDepth 100000 in
theorem swapped_case (s : ByteArray) (w : World) (hs : s.size ≤ 1000) : Calls Tryz.prog 27 #[.string (lowerA s), .string (upperA s), .string s] w fun e w' => e = .returned (.string (turnA s)) ∧ Ex [] w w' := by
  have hcv := run_bytes_of_string (P := Tryz.prog) w 9 59 5 s Tryz.underlying9 Tryz.underlying59 Tryz.underlying5
  have hN : BB (w.drew.alloc (.cells (bytesRow s (grownCap w s.size 0 5)) 5 ((bytesRow s (grownCap w s.size 0 5)).size, (bytesRow s (grownCap w s.size 0 5)).size + 1))) w.heap.size s.data.toList := BB.new w.drew s _
  have hlen : s.data.toList.length = s.size := (Lib.size_eq s).symm
  have HN := hide hN
  clear hN
  have hLs : (lowerA s).size = s.size := by show ((s.data.toList.map lowerB).toArray).size = s.data.size; simp
  have hUs : (upperA s).size = s.size := by show ((s.data.toList.map upperB).toArray).size = s.data.size; simp
  have hLa : ∀ j (h : j < s.size) (h' : j < (lowerA s).size), (lowerA s)[j]'h' = lowerB (s[j]'h) := fun j h h' => map_at lowerB s j h h'
  have hUa : ∀ j (h : j < s.size) (h' : j < (upperA s).size), (upperA s)[j]'h' = upperB (s[j]'h) := fun j h h' => map_at upperB s j h h'
  obtain ⟨L, hL⟩ : ∃ L, L = lowerA s := ⟨_, rfl⟩
  obtain ⟨U, hU⟩ : ∃ U, U = upperA s := ⟨_, rfl⟩
  rw [← hL] at hLs hLa ⊢
  rw [← hU] at hUs hUa ⊢
  have HLA := hide hLa
  have HUA := hide hUa
  clear hL hU hLa hUa
  obtain ⟨cap, hcap⟩ : ∃ cap, grownCap w s.size 0 5 = cap := ⟨_, rfl⟩
  rw [hcap] at hcv HN
  clear hcap
  obtain ⟨l, hl⟩ : ∃ l, s.data.toList = l := ⟨_, rfl⟩
  have HL := hide hl
  rw [hl] at hlen HN
  clear hl
  obtain ⟨W0, hW0⟩ : ∃ W0, w.drew.alloc (.cells (bytesRow s cap) 5 ((bytesRow s cap).size, (bytesRow s cap).size + 1)) = W0 := ⟨_, rfl⟩
  have HX0 : Hid (Ex [] w W0) := by rw [← hW0]; exact ((Ex.refl _ _).drew).alloc _
  rw [hW0] at hcv HN
  clear hW0
  have e1 : ((L.size : Int) == (s.size : Int)) = true := by rw [hLs]; simp
  have e2 : ((U.size : Int) == (s.size : Int)) = true := by rw [hUs]; simp
  have HLS := hide hLs
  have HUS := hide hUs
  go_enter Tryz.func27, Tryz.ntmps27
  go_wp2_with fail
  go_loopg [8] s.size (fun gk i8 wr => ∃ (i : Nat) (l' : List UInt8), i + gk = s.size ∧ i8 = .int .i64 i ∧ l'.length = l.length ∧ (∀ j, l'[j]? = if j < i then (l[j]?).map turnB else l[j]?) ∧ BB wr w.heap.size l' ∧ Ex [] w wr)
  case atStart => exact ⟨0, l, by omega, rfl, rfl, fun j => by simp, HN.out, HX0.out⟩
  case round =>
    obtain ⟨i, l', hgi, rfl, hll, hup, hbb, hx⟩ := hrel
    have HX := hide hx
    have HB := hide hbb
    have HU := hide hup
    have hbl := hbb.lt
    clear hx hbb hup hcv
    cases gk with
    | zero =>
      obtain rfl : i = s.size := by omega
      have hend : l' = l.map turnB := upd_end (by rw [hlen]; exact HU.out)
      have hback := run_convert_bytes_back (P := Tryz.prog) wr 59 9 5 ⟨w.heap.size, 0, none⟩ cap l' Tryz.underlying59 Tryz.underlying5 Tryz.underlying9 (fun j hj => by rw [Addr.add_lit, Nat.zero_add]; exact HB.out.cell j hj)
      rw [hll, hlen] at hback
      go_wp2_with fail
      go_ret
      refine ⟨?_, HX.out⟩
      unfold turnA
      rw [HL.out]
      simp
    | succ g =>
      have hi : i < l.length := by omega
      have his : i < s.size := by omega
      have hiL : i < L.size := by omega
      have hiU : i < U.size := by omega
      have hi' : (i : Int) < (s.size : Int) := by omega
      have hiLi : (i : Int) < (L.size : Int) := by omega
      have hiUi : (i : Int) < (U.size : Int) := by omega
      have hc := HB.out.cell i (by omega)
      have hf := HB.out.frozen i (by omega)
      have hsi : s[i]'his = l[i] := by
        have h1 := at_list his
        rw [HL.out, List.getElem?_eq_getElem hi] at h1
        exact (Option.some.inj h1).symm
      have hLi : (L[i]'hiL) = lowerB l[i] := by rw [HLA.out i his hiL, hsi]
      have hUi : (U[i]'hiU) = upperB l[i] := by rw [HUA.out i his hiU, hsi]
      have hnext := upd_next (f := turnB) hi hll HU.out
      obtain ⟨b, hb⟩ : ∃ b, l[i] = b := ⟨_, rfl⟩
      rw [hb] at hnext hLi hUi hsi
      have HNX := hide hnext
      rw [turn_eq b] at hnext
      clear hnext
      by_cases h1 : lowerB b = b
      · have et : turnB b = upperB b := by rw [turn_eq, if_pos h1]
        rw [et] at HNX
        have q1 : (((L[i]'hiL).toNat : Int) == ((s[i]'his).toNat : Int)) = true := by rw [hLi, hsi, h1]; simp
        have q2 : ((L[i]'hiL).toNat : Int) = ((s[i]'his).toNat : Int) := by rw [hLi, hsi, h1]
        have HUi := hide hUi
        clear hLi hsi hUi et
        go_wp2_with fail
        go_quiet (fail)
        go_wp2_with fail
        go_roundg g
        case measure => omega
        case rel => exact ⟨i + 1, l'.set i (upperB b), by omega, by simp, by simpa using hll, HNX.out, by rw [HUi.out]; exact HB.out.set i _, (HX.out.drewN nq).setCell (Or.inr (by simp)) _⟩
      · have et : turnB b = lowerB b := by rw [turn_eq, if_neg h1]
        rw [et] at HNX
        have q0 : ¬ ((L[i]'hiL).toNat : Int) = ((s[i]'his).toNat : Int) := by
          rw [hLi, hsi]
          intro e
          exact h1 (UInt8.toNat_inj.1 (by omega))
        have q1 : (((L[i]'hiL).toNat : Int) == ((s[i]'his).toNat : Int)) = false := beq_eq_false_iff_ne.2 q0
        have HLi := hide hLi
        clear hLi hsi hUi et
        go_wp2_with fail
        go_quiet (fail)
        go_wp2_with fail
        go_roundg g
        case measure => omega
        case rel => exact ⟨i + 1, l'.set i (lowerB b), by omega, by simp, by simpa using hll, HNX.out, by rw [HLi.out]; exact HB.out.set i _, (HX.out.drewN nq).setCell (Or.inr (by simp)) _⟩
end Go.Proofs.YtmeffeigamaipabGreatDoor.G

set_option linter.unusedVariables false
set_option linter.unusedSimpArgs false
namespace Go.Proofs.YtmeffeigamaipabGreatDoor.G
open Go.RowKit

theorem cmp_self : ∀ a : List UInt8, Lib.compareBytes a a = 0
  | [] => rfl
  | x :: a => by
    unfold Lib.compareBytes
    rw [if_neg (by simp), if_neg (by simp), cmp_self a]
theorem cmpN_self (a : ByteArray) : cmpN a a = 0 := cmp_self _
theorem eqB_eq {a b : ByteArray} (h : eqB a b = true) : a = b := by
  have h1 : a.toList = b.toList := by simpa [eqB] using h
  rw [ByteArray.toList_eq, ByteArray.toList_eq] at h1
  cases a; cases b
  simp only [ByteArray.mk.injEq]
  exact Array.toList_inj.1 h1
theorem Srt.one {ls : List Lab} (h : Srt ls) {x y : Lab} (hx : x ∈ ls) (hy : y ∈ ls) (he : x.1 = y.1) : x = y := by
  obtain ⟨i, hi⟩ := List.getElem?_of_mem hx
  obtain ⟨j, hj⟩ := List.getElem?_of_mem hy
  rcases Nat.lt_trichotomy i j with h1 | h1 | h1
  · have := h i j x y h1 hi hj
    rw [he, cmpN_self] at this
    omega
  · subst h1
    rw [hi] at hj
    exact Option.some.inj hj
  · have := h j i y x h1 hj hi
    rw [he, cmpN_self] at this
    omega
end Go.Proofs.YtmeffeigamaipabGreatDoor.G

set_option linter.unusedVariables false
set_option linter.unusedSimpArgs false
namespace Go.Proofs.YtmeffeigamaipabGreatDoor.G

theorem eqB_no {a b : ByteArray} (h : cmpN a b ≠ 0) : eqB a b = false := by
  rw [Bool.eq_false_iff]
  intro e
  exact h (by rw [eqB_eq e]; exact cmpN_self b)
theorem eqB_yes (a : ByteArray) : eqB a a = true := by simp [eqB]
theorem find_none {ls : List Lab} {t : ByteArray} (h : ∀ l ∈ ls, cmpN l.1 t ≠ 0) : ls.find? (fun l => eqB l.1 t) = none := by
  rw [List.find?_eq_none]
  intro l hl
  rw [eqB_no (h l hl)]
  simp
theorem getM_append {xs ys : List Lab} {t : ByteArray} (h : ∀ l ∈ xs, cmpN l.1 t ≠ 0) : getM (xs ++ ys) t = getM ys t := by
  unfold getM
  rw [List.find?_append, find_none h]
  rfl
theorem getM_set {ls : List Lab} (h : Srt ls) (hn : ls.length < 60) (t v : ByteArray) (hv : v.size ≤ 200) : getM (Go.Proofs.YtmeffeigamaipabGreatDoor.setL ls t v) t = v := by
  have hsd := off_sides h t
  have hol := off_len ls t
  have hlt : ∀ l ∈ (offL ls t).take (posN ls t), cmpN l.1 t ≠ 0 := fun l hl => by
    obtain ⟨i, hi, rfl⟩ := List.getElem_of_mem hl
    rw [List.length_take] at hi
    have h1 := (hsd i ((offL ls t)[i]'(by omega)) (List.getElem?_eq_getElem (by omega))).1 (by omega)
    rw [List.getElem_take]
    omega
  have hge : ∀ l ∈ (offL ls t).drop (posN ls t), cmpN l.1 t ≠ 0 := fun l hl => by
    obtain ⟨i, hi, rfl⟩ := List.getElem_of_mem hl
    rw [List.length_drop] at hi
    have h1 := (hsd (posN ls t + i) ((offL ls t)[posN ls t + i]'(by omega)) (List.getElem?_eq_getElem (by omega))).2 (by omega)
    rw [cmpN_neg] at h1
    rw [List.getElem_drop]
    omega
  by_cases h0 : v.size = 0
  · have e : Go.Proofs.YtmeffeigamaipabGreatDoor.setL ls t v = offL ls t := by unfold Go.Proofs.YtmeffeigamaipabGreatDoor.setL; rw [if_pos (.inl h0)]
    rw [e]
    have e2 : getM (offL ls t) t = ⟨#[]⟩ := by
      rw [← List.take_append_drop (posN ls t) (offL ls t), getM_append hlt]
      unfold getM
      rw [find_none hge]
    rw [e2]
    apply ByteArray.ext
    exact (Array.eq_empty_of_size_eq_zero h0).symm
  · have e : Go.Proofs.YtmeffeigamaipabGreatDoor.setL ls t v = (offL ls t).take (posN ls t) ++ [(t, v)] ++ (offL ls t).drop (posN ls t) := by
      unfold Go.Proofs.YtmeffeigamaipabGreatDoor.setL
      rw [if_neg (by omega)]
      have : cutB v = v := by unfold cutB; rw [if_neg (by omega)]
      rw [this]
    rw [e, List.append_assoc, getM_append hlt]
    unfold getM
    rw [List.singleton_append, List.find?_cons, eqB_yes]
theorem valN_get {ls : List Lab} (h : Srt ls) (t : ByteArray) : valN ls t = getM ls t := by
  have hlt : ∀ l ∈ ls.take (posN ls t), cmpN l.1 t ≠ 0 := fun l hl => by
    obtain ⟨i, hi, rfl⟩ := List.getElem_of_mem hl
    rw [List.length_take] at hi
    have h1 := posN_lt (show i < posN ls t by omega) (List.getElem?_eq_getElem (show i < ls.length by omega))
    rw [List.getElem_take]
    omega
  rw [← List.take_append_drop (posN ls t) ls, getM_append hlt, List.take_append_drop]
  unfold valN thereN
  cases hp : ls[posN ls t]? with
  | none =>
    have : ls.drop (posN ls t) = [] := List.drop_eq_nil_of_le (by
      rcases Nat.lt_or_ge (posN ls t) ls.length with h9 | h9
      · rw [List.getElem?_eq_getElem h9] at hp; cases hp
      · exact h9)
    rw [this]
    rfl
  | some l =>
    have hpl : posN ls t < ls.length := (List.getElem?_eq_some_iff.1 hp).1
    have hd : ls.drop (posN ls t) = l :: ls.drop (posN ls t + 1) := by
      rw [List.drop_eq_getElem_cons hpl]
      rw [List.getElem?_eq_getElem hpl] at hp
      rw [Option.some.inj hp]
    rw [hd]
    dsimp only
    by_cases h0 : cmpN l.1 t = 0
    · have e0 : l.1 = t := cmpN_zero h0
      unfold getM
      rw [List.find?_cons, show eqB l.1 t = true by rw [e0]; exact eqB_yes t]
      simp [h0]
    · have hf : (cmpN l.1 t == 0) = false := beq_eq_false_iff_ne.2 h0
      simp only [hf, Bool.false_eq_true, if_false]
      unfold getM
      rw [find_none]
      intro x hx
      rcases List.mem_cons.1 hx with rfl | hx
      · exact h0
      · obtain ⟨i, hi, rfl⟩ := List.getElem_of_mem hx
        rw [List.length_drop] at hi
        have h1 := posN_at hp
        have h2 := h (posN ls t) (posN ls t + 1 + i) l (ls[posN ls t + 1 + i]'(by omega)) (by omega) hp (List.getElem?_eq_getElem (by omega))
        rw [List.getElem_drop]
        intro h3
        have h4 := cmpN_zero h3
        rw [h4] at h2
        omega
theorem lower_twice (s : ByteArray) : lowerA (lowerA s) = lowerA s := by
  have h : ∀ n : Nat, n < 256 → lowerB (lowerB (UInt8.ofNat n)) = lowerB (UInt8.ofNat n) := by decide +kernel
  have h1 : ∀ b : UInt8, lowerB (lowerB b) = lowerB b := fun b => by have := h b.toNat b.toNat_lt; rwa [UInt8.ofNat_toNat] at this
  unfold lowerA
  simp [h1]
theorem upper_lower (s : ByteArray) : upperA (lowerA s) = upperA s := by
  have h : ∀ n : Nat, n < 256 → upperB (lowerB (UInt8.ofNat n)) = upperB (UInt8.ofNat n) := by decide +kernel
  have h1 : ∀ b : UInt8, upperB (lowerB b) = upperB b := fun b => by have := h b.toNat b.toNat_lt; rwa [UInt8.ofNat_toNat] at this
  unfold lowerA upperA
  simp [h1]
end Go.Proofs.YtmeffeigamaipabGreatDoor.G

set_option linter.unusedVariables false
set_option linter.unusedSimpArgs false
namespace Go.Proofs.YtmeffeigamaipabGreatDoor.G

theorem pos_none {xs : List Lab} {a : ByteArray} (h : ∀ x ∈ xs, 0 < cmpN x.1 a) : posN xs a = 0 ∧ thereN xs a = false ∧ offL xs a = xs := by
  have hp : posN xs a = 0 := by
    unfold posN
    cases xs with
    | nil => rfl
    | cons x xs =>
      have := h x (List.mem_cons_self ..)
      rw [List.takeWhile_cons, if_neg (by simp; omega)]
      rfl
  have ht : thereN xs a = false := by
    unfold thereN
    rw [hp]
    cases xs with
    | nil => rfl
    | cons x xs =>
      have := h x (List.mem_cons_self ..)
      show (cmpN x.1 a == 0) = false
      exact beq_eq_false_iff_ne.2 (by omega)
  exact ⟨hp, ht, by unfold offL; rw [ht]; rfl⟩
theorem set_front {xs : List Lab} {a v : ByteArray} (h : ∀ x ∈ xs, 0 < cmpN x.1 a) (hn : xs.length < 60) (hv : ¬ v.size = 0) (h2 : v.size ≤ 200) : Go.Proofs.YtmeffeigamaipabGreatDoor.setL xs a v = (a, v) :: xs := by
  obtain ⟨hp, ht, ho⟩ := pos_none h
  have hc : cutB v = v := by unfold cutB; rw [if_neg (by omega)]
  unfold Go.Proofs.YtmeffeigamaipabGreatDoor.setL
  rw [ho, hp, hc, if_neg (by omega)]
  rfl
theorem set_front0 {xs : List Lab} {a v : ByteArray} (h : ∀ x ∈ xs, 0 < cmpN x.1 a) (hv : v.size = 0) : Go.Proofs.YtmeffeigamaipabGreatDoor.setL xs a v = xs := by
  obtain ⟨hp, ht, ho⟩ := pos_none h
  unfold Go.Proofs.YtmeffeigamaipabGreatDoor.setL
  rw [if_pos (.inl hv), ho]
def bN1 : ByteArray := ⟨#[98]⟩
def abN1 : ByteArray := ⟨#[97, 98]⟩
theorem ab_b : 0 < cmpN bN1 abN1 := by decide
theorem two_labels (v w : ByteArray) (hv : v.size ≤ 60) (hw : w.size ≤ 60) : getM (bareL [(bN1, v), (abN1, w)]) bN1 = v ∧ getM (bareL [(bN1, v), (abN1, w)]) abN1 = w ∧ (bareL [(bN1, v), (abN1, w)]).length ≤ 2 := by
  have hs0 : Srt ([] : List Lab) := LOK.nil.srt
  have e : bareL [(bN1, v), (abN1, w)] = Go.Proofs.YtmeffeigamaipabGreatDoor.setL (Go.Proofs.YtmeffeigamaipabGreatDoor.setL [] bN1 v) abN1 w := rfl
  have hX : Go.Proofs.YtmeffeigamaipabGreatDoor.setL [] bN1 v = if v.size = 0 then [] else [(bN1, v)] := by
    by_cases h0 : v.size = 0
    · rw [if_pos h0]; exact set_front0 (fun x hx => by simp at hx) h0
    · rw [if_neg h0]; exact set_front (fun x hx => by simp at hx) (by simp) h0 (by omega)
  have hXs : ∀ x ∈ Go.Proofs.YtmeffeigamaipabGreatDoor.setL [] bN1 v, 0 < cmpN x.1 abN1 := by
    rw [hX]
    intro x hx
    split at hx
    · simp at hx
    · rw [List.mem_singleton] at hx; subst hx; exact ab_b
  have hXl : (Go.Proofs.YtmeffeigamaipabGreatDoor.setL [] bN1 v).length ≤ 1 := by rw [hX]; split <;> simp
  have g1 := getM_set hs0 (by simp) bN1 v (by omega)
  have hXsrt := set_srt hs0 bN1 v
  have g2 := getM_set hXsrt (by omega) abN1 w (by omega)
  refine ⟨?_, by rw [e]; exact g2, ?_⟩
  · rw [e]
    by_cases h0 : w.size = 0
    · rw [set_front0 hXs h0]; exact g1
    · rw [set_front hXs (by omega) h0 (by omega)]
      rw [show (abN1, w) :: Go.Proofs.YtmeffeigamaipabGreatDoor.setL [] bN1 v = [(abN1, w)] ++ Go.Proofs.YtmeffeigamaipabGreatDoor.setL [] bN1 v by rfl, getM_append (fun l hl => by rw [List.mem_singleton] at hl; subst hl; have := ab_b; rw [cmpN_neg] at this; show cmpN abN1 bN1 ≠ 0; omega)]
      exact g1
  · rw [e]
    have := set_len1 (Go.Proofs.YtmeffeigamaipabGreatDoor.setL [] bN1 v) abN1 w
    omega
theorem two_text (v w sep : ByteArray) (hv : v.size ≤ 60) (hw : w.size ≤ 60) (hok : Srt (bareL [(bN1, v), (abN1, w)])) : textN (bareL [(bN1, v), (abN1, w)]) [bN1, abN1] sep = v ++ sep ++ w := by
  obtain ⟨h1, h2, _⟩ := two_labels v w hv hw
  unfold textN
  simp only [List.map_cons, List.map_nil]
  rw [valN_get hok, valN_get hok, h1, h2]
  unfold joinB
  apply ByteArray.ext
  apply Array.toList_inj.1
  simp [Lib.join, Lib.joinTail, ByteArray.data_append]
end Go.Proofs.YtmeffeigamaipabGreatDoor.G
