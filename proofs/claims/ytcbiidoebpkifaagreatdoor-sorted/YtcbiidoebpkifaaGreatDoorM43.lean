/- X5 X1 X2 X6, one behind the other. -/
import Derived.Test.YtcbiidoebpkifaaGreatDoorM42
import Derived.Test.YtcbiidoebpkifaaGreatDoorM16
import Derived.Test.YtcbiidoebpkifaaGreatDoorM01
import Derived.Test.YtcbiidoebpkifaaGreatDoorShelf
import Derived.Test.YtcbiidoebpkifaaGreatDoorM05
set_option linter.unusedVariables false
set_option linter.unusedSimpArgs false
/- What a group stands for, by its name. -/
namespace Go.Proofs.YtcbiidoebpkifaaGreatDoor.G
open Go.RowKit

def nameN (l : List (ByteArray × Nat)) (n : ByteArray) : Nat := match l.find? (fun x => decide (x.1 = n)) with | some x => x.2 | none => 0
theorem nm_look2 {w : World} {mb : Nat} {l : List (ByteArray × Nat)} {n : ByteArray} (hm : w.heap[mb]? = some (.map (nmE l) l.length)) (hk : ∀ x ∈ l, x.1.size ≤ 60) (hu : ∀ x ∈ l, ∀ y ∈ l, x.1 = y.1 → x.2 = y.2) (hn : n.size ≤ 60) :
    (Instr.lookup 53 (.map (some mb)) (.string n) true).run Tryz.prog w = .ok (.tuple #[.int .i64 (nameN l n), .bool (takenM l n)]) w := by
  obtain ⟨kl, hl⟩ := keyOf_str n hn
  have hg := MapKept.run_getObj_map (P := Tryz.prog) hm
  have hc := strKeyed.check w (nmE l).isEmpty hl
  rcases strKeyed.find w hl (nmE l).toList (nmE_keyed hk) with ⟨hf, hno⟩ | ⟨j, e, hf, hj, he⟩
  · have ht : takenM l n = false := by
      rw [Bool.eq_false_iff]
      intro h
      obtain ⟨e, he, hke⟩ := (nmE_has l n).2 h
      exact hno e he hke
    have hz : nameN l n = 0 := by
      unfold nameN
      cases h : l.find? (fun x => decide (x.1 = n)) with
      | none => rfl
      | some x =>
        exfalso
        have h1 := List.mem_of_find?_eq_some h
        have h2 := List.find?_some h
        have h3 : takenM l n = true := by unfold takenM; rw [List.any_eq_true]; exact ⟨x, h1, by simpa using h2⟩
        rw [ht] at h3; cases h3
    rw [ht, hz]
    unfold Instr.lookup
    simp [run_underlying Tryz.underlying53, hg, hc, hf, zeroInt]
  · have ht : takenM l n = true := (nmE_has l n).1 ⟨e, List.mem_of_getElem? hj, he⟩
    have hv : e.val = .int .i64 (nameN l n) := by
      have h1 := List.mem_of_getElem? hj
      simp only [nmE, List.toList_toArray, List.mem_map] at h1
      obtain ⟨x, hx, rfl⟩ := h1
      have hxl : x.1 ∈ l := by
        have := List.mem_map_of_mem (f := Prod.fst) hx
        rwa [List.zipIdx_map_fst] at this
      have hxn : x.1.1 = n := by simpa using he
      unfold nameN
      cases h : l.find? (fun x => decide (x.1 = n)) with
      | none =>
        rw [List.find?_eq_none] at h
        exact absurd (decide_eq_true hxn) (h _ hxl)
      | some y =>
        have h2 : y.1 = n := by simpa using List.find?_some h
        have h3 := hu x.1 hxl y (List.mem_of_find?_eq_some h) (hxn.trans h2.symm)
        simp [h3]
    rw [ht]
    unfold Instr.lookup
    simp [hv, run_underlying Tryz.underlying53, hg, hc, hf]

def namedM (s : ByteArray) (l : List (Int × Int)) (nm : List (ByteArray × Nat)) (n : ByteArray) : ByteArray := if takenM nm n then numM s l (nameN nm n) else ⟨#[]⟩

set_option maxHeartbeats 2000000 in
set_option maxRecDepth 100000 in
theorem named_any (s : ByteArray) (mb g c : Nat) (l : List (Int × Int)) (nm : List (ByteArray × Nat)) (n : ByteArray) (w : World) (hm : w.heap[mb]? = some (.map (nmE nm) nm.length)) (hnk : ∀ x ∈ nm, x.1.size ≤ 60) (hu : ∀ x ∈ nm, ∀ y ∈ nm, x.1 = y.1 → x.2 = y.2) (hnv : ∀ x ∈ nm, x.2 ≤ 1000) (hn : n.size ≤ 60) (hgl : g < w.heap.size) (hcell : ∀ j u, (spanL l)[j]? = some u → w.cell? ⟨g, j, none⟩ = some u) (hl : l.length ≤ 1000) (hs : s.size ≤ 9223372036854775807)
    (hok : ∀ y ∈ l, y.1 < 0 ∨ (0 ≤ y.1 ∧ y.1 ≤ y.2 ∧ y.2 ≤ s.size)) :
    Calls Tryz.prog 99 #[.agg #[.string s, .slice (some ⟨g, 0, none⟩) l.length c, .map (some mb)], .string n] w fun e w' => e = .returned (.string (namedM s l nm n)) ∧ Ex [] w w' := by
  obtain ⟨R, hR⟩ : ∃ R, R = namedM s l nm n := ⟨_, rfl⟩
  rw [← hR]
  have HR := hide hR
  obtain ⟨W, hW⟩ : ∃ W, W = w.alloc (Obj.cells #[.string s, .slice (some ⟨g, 0, none⟩) l.length c, .map (some mb)] 55) := ⟨_, rfl⟩
  have hmb : mb < w.heap.size := by
    rcases Nat.lt_or_ge mb w.heap.size with h | h
    · exact h
    · rw [Array.getElem?_eq_none h] at hm; cases hm
  have hxW : Ex [] w W := by rw [hW]; exact (Ex.refl _ _).alloc _
  have hbW : BK W w.heap.size (.cells #[.string s, .slice (some ⟨g, 0, none⟩) l.length c, .map (some mb)] 55 (0, 0)) := by rw [hW]; exact BK.new _ _
  have hlook := nm_look2 (w := W) (n := n) ((show BK w mb (.map (nmE nm) nm.length) from hm).ex hxW (by simp)) hnk hu hn
  have hb : nameN nm n ≤ 1000 := by
    unfold nameN
    cases h : nm.find? (fun x => decide (x.1 = n)) with
    | none => simp
    | some x => exact hnv x (List.mem_of_find?_eq_some h)
  have KN := hide (fun (W' : World) (hx : Ex [] w W') => numbered_any s mb g c l (nameN nm n) W' (Nat.lt_of_lt_of_le hgl hx.size) (fun j u hj => (hx.cell0.1 g j hgl).trans (hcell j u hj)) hl hs ⟨by omega, by omega⟩ hok)
  obtain ⟨k, hk⟩ : ∃ k, k = nameN nm n := ⟨_, rfl⟩
  obtain ⟨b, hbb⟩ : ∃ b, b = takenM nm n := ⟨_, rfl⟩
  rw [← hk, ← hbb] at hlook
  rw [← hk] at KN
  have hr : R = if b then numM s l k else ⟨#[]⟩ := by rw [hR, hbb, hk]; rfl
  have HRR := hide hr
  obtain ⟨V, hV⟩ : ∃ V, V = numM s l k := ⟨_, rfl⟩
  obtain ⟨m, hm2⟩ : ∃ m, m = l.length := ⟨_, rfl⟩
  rw [← hV] at KN HRR
  rw [← hm2] at KN hbW hW ⊢
  have HXW := hide hxW
  subst hW
  clear hm hnk hu hnv hcell hok hR hr hk hbb hV hm2 hxW hb hbW
  cases b with
  | false =>
    obtain rfl : R = ⟨#[]⟩ := by rw [HRR.out]; rfl
    go_enter Tryz.func99, Tryz.ntmps99
    go_wp2_with fail
    go_ret
    exact ⟨rfl, HXW.out⟩
  | true =>
    obtain rfl : R = V := by rw [HRR.out]; rfl
    go_enter Tryz.func99, Tryz.ntmps99
    go_wp2_with fail
    refine (KN.out _ HXW.out).mono ?_
    rintro e w1 ⟨rfl, hx1⟩
    have HX1 := hide (HXW.out.trans hx1)
    clear hx1
    go_wp2_with fail
    go_ret
    exact ⟨rfl, HX1.out⟩
end Go.Proofs.YtcbiidoebpkifaaGreatDoor.G

/- Package expand: runs of letters, digits and _. -/
namespace Go.Proofs.YtcbiidoebpkifaaGreatDoor.G
open Go.RowKit

set_option maxHeartbeats 400000 in
theorem xDigit_any (x : Int) (w : World) :
    Calls Tryz.prog 127 #[.int .u8 x] w fun e w' => e = .returned (.bool (digB x)) ∧ w' = w := by
  unfold digB
  by_cases h1 : 48 ≤ x
  · by_cases h2 : x ≤ 57
    · go_enter Tryz.func127, Tryz.ntmps127
      go_wp2
      go_ret
      exact ⟨by simp [h1, h2], rfl⟩
    · go_enter Tryz.func127, Tryz.ntmps127
      go_wp2
      go_ret
      exact ⟨by simp [h1, h2], rfl⟩
  · go_enter Tryz.func127, Tryz.ntmps127
    go_wp2
    go_ret
    exact ⟨by simp; omega, rfl⟩

set_option maxHeartbeats 1000000 in
theorem inRun_any (x : Int) (w : World) :
    Calls Tryz.prog 96 #[.int .u8 x] w fun e w' => e = .returned (.bool (wordB x)) ∧ w' = w := by
  by_cases h1 : 97 ≤ x <;> by_cases h2 : x ≤ 122 <;> by_cases h3 : 65 ≤ x <;> by_cases h4 : x ≤ 90 <;> by_cases h5 : x = 95
  all_goals
    first
    | (exfalso; omega)
    | (go_enter Tryz.func96, Tryz.ntmps96
       go_wp2_with fail
       first
       | (go_ret
          exact ⟨by simp [wordB, letB, h1, h2, h3, h4, h5], rfl⟩)
       | (refine (xDigit_any x _).mono ?_
          rintro e w1 ⟨rfl, rfl⟩
          have hl : letB x = false := by simp [letB]; omega
          have hu : (x == 95) = false := beq_eq_false_iff_ne.2 h5
          go_wp2_with fail
          go_ret
          exact ⟨by simp [wordB, hl, hu], rfl⟩))

def runN (s : ByteArray) : Nat := (s.data.toList.takeWhile fun b => wordB (b.toNat : Int)).length
theorem takeWhile_at {α : Type} (q : α → Bool) : ∀ (l : List α) (j : Nat), (∀ i, i < j → ∀ a, l[i]? = some a → q a = true) → j ≤ l.length → (∀ a, l[j]? = some a → q a = false) → (l.takeWhile q).length = j
  | [], 0, _, _, _ => rfl
  | [], j + 1, _, h, _ => by simp at h
  | a :: l, 0, _, _, h => by
    have := h a (by simp)
    simp [List.takeWhile_cons, this]
  | a :: l, j + 1, h1, h2, h3 => by
    have h4 := h1 0 (by omega) a (by simp)
    rw [List.takeWhile_cons, if_pos h4]
    have := takeWhile_at q l j (fun i hi b hb => h1 (i + 1) (by omega) b (by simpa using hb)) (by simpa using h2) (fun b hb => h3 b (by simpa using hb))
    simp [this]
theorem runN_le (s : ByteArray) : runN s ≤ s.size := by
  unfold runN
  rw [← len_list]
  exact (List.takeWhile_sublist _).length_le

set_option maxHeartbeats 1000000 in
set_option maxRecDepth 100000 in
theorem runSize_any (s : ByteArray) (w : World) (hs : s.size ≤ 9223372036854775807) :
    Calls Tryz.prog 68 #[.string s] w fun e w' => e = .returned (.int .i64 (runN s)) ∧ w' = w := by
  obtain ⟨N, hN⟩ : ∃ N, N = runN s := ⟨_, rfl⟩
  have HN := hide hN
  rw [← hN]
  clear hN
  obtain ⟨n, hn⟩ : ∃ n, n = s.size := ⟨_, rfl⟩
  go_enter Tryz.func68, Tryz.ntmps68
  go_wp2_with fail
  go_loopg [3] n (fun gk i wr => ∃ j : Nat, j + gk = n ∧ i = .int .i64 j ∧ (∀ i (h : i < s.size), i < j → wordB ((s[i]'h).toNat : Int) = true) ∧ wr = w)
  case atStart => exact ⟨0, by omega, rfl, fun i h hi => by omega, rfl⟩
  case round =>
    obtain ⟨j, hj, rfl, hw, rfl⟩ := hrel
    have HW := hide hw
    clear hw
    cases gk with
    | zero =>
      have hjs : j = s.size := by omega
      have hr : N = j := by
        rw [HN.out]
        refine takeWhile_at _ _ j (fun i hi a ha => ?_) (by rw [len_list]; omega) (fun a ha => ?_)
        · have hi' : i < s.size := by omega
          rw [at_list hi'] at ha
          cases ha
          exact HW.out i hi' hi
        · rw [List.getElem?_eq_none (by rw [len_list]; omega)] at ha; cases ha
      subst hr
      have h1 : ¬ ((N : Int) < (s.size : Int)) := by omega
      clear hj hjs
      go_wp2_with fail
      go_ret
      exact ⟨rfl, rfl⟩
    | succ g =>
      have hjl : j < s.size := by omega
      have h1 : (j : Int) < (s.size : Int) := by omega
      have hstep : wordB ((s[j]'hjl).toNat : Int) = true → ∀ i (h : i < s.size), i < j + 1 → wordB ((s[i]'h).toNat : Int) = true := fun hb i hi hlt => by
        by_cases hij : i = j
        · subst hij; exact hb
        · exact HW.out i hi (by omega)
      have HS := hide hstep
      obtain ⟨x, hx⟩ : ∃ x : Int, x = ((s[j]'hjl).toNat : Int) := ⟨_, rfl⟩
      have HX := hide hx
      clear hstep hx
      go_wp2_with fail
      refine (inRun_any _ _).mono ?_
      rintro e w' ⟨rfl, rfl⟩
      rw [← show x = ((s[j]'hjl).toNat : Int) from HX.out]
      cases hl : wordB x with
      | true =>
        have HL := hide hl
        clear hl
        go_wp2_with fail
        go_roundg g
        case measure => omega
        case rel => exact ⟨j + 1, by omega, by simp, HS.out (by rw [← HX.out]; exact HL.out), rfl⟩
      | false =>
        have HL := hide hl
        clear hl
        have hr : N = j := by
          rw [HN.out]
          refine takeWhile_at _ _ j (fun i hi a ha => ?_) (by rw [len_list]; omega) (fun a ha => ?_)
          · have hi' : i < s.size := by omega
            rw [at_list hi'] at ha
            cases ha
            exact HW.out i hi' hi
          · rw [at_list hjl] at ha
            cases ha
            rw [← HX.out]; exact HL.out
        subst hr
        go_wp2_with fail
        go_ret
        exact ⟨rfl, rfl⟩
end Go.Proofs.YtcbiidoebpkifaaGreatDoor.G

/- Package expand: how long a plain piece is, how long a run in braces. -/
namespace Go.Proofs.YtcbiidoebpkifaaGreatDoor.G
open Go.RowKit

def plainI (s : ByteArray) : Int := if 0 ≤ Lib.indexByte s.data.toList 36 then Lib.indexByte s.data.toList 36 else s.size
set_option maxHeartbeats 1000000 in
theorem plainSize_any (s : ByteArray) (w : World) (hs : s.size ≤ 9223372036854775807) :
    Calls Tryz.prog 66 #[.string s] w fun e w' => e = .returned (.int .i64 (plainI s)) ∧ w' = w := by
  obtain ⟨P, hP⟩ : ∃ P, P = Lib.indexByte s.data.toList 36 := ⟨_, rfl⟩
  have KI := hide (fun w' => Tryz.strings_IndexByte s 36 w')
  have e36 : (36 : Int).toNat.toUInt8 = 36 := rfl
  rw [e36, ← hP] at KI
  unfold plainI
  rw [← hP]
  clear hP e36
  by_cases h0 : 0 ≤ P
  · rw [if_pos h0]
    go_enter Tryz.func66, Tryz.ntmps66
    go_wp2_with (go_at_call 94; refine (KI.out _).mono ?_; rintro e w' ⟨rfl, rfl⟩)
    go_ret
    exact ⟨rfl, rfl⟩
  · rw [if_neg h0]
    go_enter Tryz.func66, Tryz.ntmps66
    go_wp2_with (go_at_call 94; refine (KI.out _).mono ?_; rintro e w' ⟨rfl, rfl⟩)
    go_ret
    exact ⟨rfl, rfl⟩

def bracedN (s : ByteArray) : Nat := if Lib.hasPrefix s.data.toList [123] && Lib.hasPrefix (s.extract (1 + runN (s.extract 1 s.size)) s.size).data.toList [125] then runN (s.extract 1 s.size) else 0
theorem prefix_pos {s : ByteArray} {a : UInt8} (h : Lib.hasPrefix s.data.toList [a] = true) : 1 ≤ s.size := by
  rcases Nat.eq_zero_or_pos s.size with h0 | h0
  · exfalso
    rw [← len_list] at h0
    rw [List.length_eq_zero_iff.1 h0] at h
    simp [Lib.hasPrefix] at h
  · exact h0
theorem size_ext1 (s : ByteArray) (a : Nat) : (s.extract a s.size).size = s.size - a := by simp
set_option maxHeartbeats 1000000 in
theorem bracedSize_any (s : ByteArray) (w : World) (hs : s.size ≤ 9223372036854775807) :
    Calls Tryz.prog 70 #[.string s] w fun e w' => e = .returned (.int .i64 (bracedN s)) ∧ w' = w := by
  have KH := hide (fun w' => Tryz.strings_HasPrefix s ⟨#[123]⟩ w')
  obtain ⟨b, hb⟩ : ∃ b, b = Lib.hasPrefix s.data.toList [123] := ⟨_, rfl⟩
  rw [show Lib.hasPrefix s.data.toList (⟨#[123]⟩ : ByteArray).data.toList = b from hb.symm] at KH
  obtain ⟨N, hN⟩ : ∃ N, N = bracedN s := ⟨_, rfl⟩
  rw [← hN]
  have HN := hide hN
  have HB := hide hb
  clear hN hb
  cases b with
  | false =>
    have hr : N = 0 := by rw [HN.out]; unfold bracedN; rw [← HB.out]; rfl
    subst hr
    go_enter Tryz.func70, Tryz.ntmps70
    go_wp2_with (go_at_call 67; refine (KH.out _).mono ?_; rintro e w' ⟨rfl, rfl⟩)
    go_ret
    exact ⟨rfl, rfl⟩
  | true =>
    have h1 : 1 ≤ s.size := prefix_pos HB.out.symm
    have h2 : (1 : Int) ≤ (s.size : Int) := by omega
    have hz := size_ext1 s 1
    obtain ⟨u, hu⟩ : ∃ u, u = s.extract 1 s.size := ⟨_, rfl⟩
    rw [← hu] at hz
    have KR := hide (fun w' => runSize_any u w' (by omega))
    have hle := runN_le u
    obtain ⟨n, hn⟩ : ∃ n, n = runN u := ⟨_, rfl⟩
    rw [← hn] at KR hle
    have h3 : 1 + n ≤ s.size := by omega
    have h4 : (1 : Int) + (n : Int) ≤ (s.size : Int) := by omega
    have KT := hide (fun w' => Tryz.strings_HasPrefix (s.extract (1 + n) s.size) ⟨#[125]⟩ w')
    obtain ⟨q, hq⟩ : ∃ q, q = Lib.hasPrefix (s.extract (1 + n) s.size).data.toList [125] := ⟨_, rfl⟩
    rw [show Lib.hasPrefix (s.extract (1 + n) s.size).data.toList (⟨#[125]⟩ : ByteArray).data.toList = q from hq.symm] at KT
    have hr : N = if q then n else 0 := by rw [HN.out, hq, hn, hu]; unfold bracedN; rw [← HB.out, Bool.true_and]
    have HR := hide hr
    rw [hu] at KR
    clear hu hn hq hr hz hle
    cases q with
    | false =>
      obtain rfl : N = 0 := by rw [HR.out]; rfl
      go_enter Tryz.func70, Tryz.ntmps70
      go_wp2_with fail
      refine (KH.out _).mono ?_
      rintro e w' ⟨rfl, rfl⟩
      go_wp2_with fail
      refine (KR.out _).mono ?_
      rintro e w' ⟨rfl, rfl⟩
      go_wp2_with fail
      refine (KT.out _).mono ?_
      rintro e w' ⟨rfl, rfl⟩
      go_wp2_with fail
      go_ret
      exact ⟨rfl, rfl⟩
    | true =>
      obtain rfl : N = n := by rw [HR.out]; rfl
      go_enter Tryz.func70, Tryz.ntmps70
      go_wp2_with fail
      refine (KH.out _).mono ?_
      rintro e w' ⟨rfl, rfl⟩
      go_wp2_with fail
      refine (KR.out _).mono ?_
      rintro e w' ⟨rfl, rfl⟩
      go_wp2_with fail
      refine (KT.out _).mono ?_
      rintro e w' ⟨rfl, rfl⟩
      go_wp2_with fail
      go_ret
      exact ⟨rfl, rfl⟩
end Go.Proofs.YtcbiidoebpkifaaGreatDoor.G

/- Package expand: the number of a group, what a run stands for. -/
namespace Go.Proofs.YtcbiidoebpkifaaGreatDoor.G
open Go.RowKit

def gnB (s : ByteArray) : Bool := decide (s.size ≤ 3) && s.data.toList.all (fun b => digB (b.toNat : Int))
def gnN (s : ByteArray) : Int := (Lib.atoi s.data.toList).getD 0
theorem decFrom_digs : ∀ (l : List UInt8) (acc : Nat), l.all (fun b => digB (b.toNat : Int)) = true → ∃ n, Lib.decFrom acc l = some n
  | [], acc, _ => ⟨acc, rfl⟩
  | b :: r, acc, h => by
    rw [List.all_cons, Bool.and_eq_true] at h
    have hb : 48 ≤ b.toNat ∧ b.toNat ≤ 57 := by
      have := h.1
      simp [digB] at this
      omega
    obtain ⟨n, hn⟩ := decFrom_digs r (acc * 10 + (b.toNat - 48)) h.2
    refine ⟨n, ?_⟩
    unfold Lib.decFrom Lib.digitVal
    rw [if_pos hb]
    exact hn
theorem atoi_digs (l : List UInt8) (h0 : l ≠ []) (h : l.all (fun b => digB (b.toNat : Int)) = true) : ∃ n : Nat, Lib.decFrom 0 l = some n ∧ Lib.atoi l = some (n : Int) := by
  obtain ⟨n, hn⟩ := decFrom_digs l 0 h
  refine ⟨n, hn, ?_⟩
  cases l with
  | nil => exact absurd rfl h0
  | cons b r =>
    rw [List.all_cons, Bool.and_eq_true] at h
    have hb : 48 ≤ b.toNat ∧ b.toNat ≤ 57 := by
      have := h.1
      simp [digB] at this
      omega
    have h1 : (b == 45) = false := beq_eq_false_iff_ne.2 (by rintro rfl; revert hb; decide)
    have h2 : (b == 43) = false := beq_eq_false_iff_ne.2 (by rintro rfl; revert hb; decide)
    simp [Lib.atoi, h1, h2, Lib.decNat, hn]
theorem decFrom_bound : ∀ (l : List UInt8) (acc n : Nat), Lib.decFrom acc l = some n → n < (acc + 1) * 10 ^ l.length
  | [], acc, n, h => by simp [Lib.decFrom] at h; simp; omega
  | b :: r, acc, n, h => by
    unfold Lib.decFrom at h
    cases hd : Lib.digitVal b with
    | none => rw [hd] at h; cases h
    | some d =>
      rw [hd] at h
      have h1 := decFrom_bound r _ n h
      have h2 : d ≤ 9 := by
        unfold Lib.digitVal at hd
        by_cases hb : 48 ≤ b.toNat ∧ b.toNat ≤ 57
        · rw [if_pos hb] at hd; cases hd; omega
        · rw [if_neg hb] at hd; cases hd
      refine Nat.lt_of_lt_of_le h1 ?_
      rw [List.length_cons, Nat.pow_succ, Nat.mul_comm (10 ^ r.length) 10, ← Nat.mul_assoc]
      exact Nat.mul_le_mul_right _ (by omega)
theorem bytesWorld_ex (w : World) (e : TypeId) (t : ByteArray) : Ex [] w (Lib.bytesWorld w e t) := by
  exact ⟨rfl, rfl, rfl, by rw [Lib.bytesWorld_size]; omega, fun k hk _ => Lib.bytesWorld_at_old w e t k hk⟩
theorem digs_all {s : ByteArray} (h : ∀ i (h : i < s.size), i < s.size → digB ((s[i]'h).toNat : Int) = true) : s.data.toList.all (fun b => digB (b.toNat : Int)) = true := by
  rw [List.all_eq_true]
  intro b hb
  obtain ⟨i, hi, rfl⟩ := List.getElem_of_mem hb
  have hi' : i < s.size := by rw [← len_list]; exact hi
  have e := at_list hi'
  rw [List.getElem?_eq_getElem hi] at e
  rw [Option.some.inj e]; exact h i hi' hi'
theorem digs_not {s : ByteArray} {j : Nat} (hj : j < s.size) (h : digB ((s[j]'hj).toNat : Int) = false) : s.data.toList.all (fun b => digB (b.toNat : Int)) = false := by
  rw [List.all_eq_false]
  exact ⟨s[j]'hj, List.mem_of_getElem? (at_list hj), by simpa using h⟩

set_option maxHeartbeats 2000000 in
set_option maxRecDepth 100000 in
theorem groupNumber_any (s : ByteArray) (w : World) (h1 : 1 ≤ s.size) (hs : s.size ≤ 9223372036854775807) :
    Calls Tryz.prog 97 #[.string s] w fun e w' => e = .returned (.tuple #[.int .i64 (if gnB s then gnN s else 0), .bool (gnB s)]) ∧ Ex [] w w' := by
  obtain ⟨G, hG⟩ : ∃ G, G = gnB s := ⟨_, rfl⟩
  obtain ⟨N, hN⟩ : ∃ N, N = if G then gnN s else 0 := ⟨_, rfl⟩
  rw [← hG, ← hN]
  have HG := hide hG
  have HN := hide hN
  clear hG hN
  by_cases h3 : 3 < s.size
  · obtain rfl : G = false := by rw [HG.out]; unfold gnB; rw [decide_eq_false (by omega), Bool.false_and]
    obtain rfl : N = 0 := HN.out
    go_enter Tryz.func97, Tryz.ntmps97
    go_wp2_with fail
    go_ret2
    exact ⟨rfl, Ex.refl _ _⟩
  · have H3 := hide h3
    obtain ⟨n, hn⟩ : ∃ n, n = s.size := ⟨_, rfl⟩
    go_enter Tryz.func97, Tryz.ntmps97
    go_wp2_with fail
    go_loopg [12] n (fun gk i wr => ∃ j : Nat, j + gk = n ∧ i = .int .i64 j ∧ (∀ i (h : i < s.size), i < j → digB ((s[i]'h).toNat : Int) = true) ∧ wr = w)
    case atStart => exact ⟨0, by omega, rfl, fun i h hi => by omega, rfl⟩
    case round =>
      obtain ⟨j, hj, rfl, hw, rfl⟩ := hrel
      have HW := hide hw
      clear hw
      cases gk with
      | zero =>
        obtain rfl : j = s.size := by omega
        have hall := digs_all HW.out
        obtain rfl : G = true := by rw [HG.out]; unfold gnB; rw [hall]; simp; have := H3.out; omega
        obtain ⟨m, _, hm⟩ := atoi_digs s.data.toList (by intro h; have := len_list s; rw [h] at this; simp at this; omega) hall
        obtain rfl : N = (m : Int) := by rw [HN.out]; unfold gnN; rw [hm]; rfl
        have KA := hide (fun w' => Tryz.strconv_Atoi s m (by have := H3.out; omega) hm w')
        clear hj hm hall
        go_wp2_with fail
        refine (KA.out _).mono ?_
        rintro e w1 ⟨rfl, t, rfl⟩
        have HX := hide (bytesWorld_ex wr 5 t)
        generalize Lib.bytesWorld wr 5 t = W at HX ⊢
        go_wp2_with fail
        go_quiet (fail)
        go_wp2_with fail
        go_ret2
        exact ⟨rfl, by first | exact HX.out.drewN _ | exact HX.out | exact HX.out.drew⟩
      | succ g =>
        have hjl : j < s.size := by omega
        have h4 : (j : Int) < (s.size : Int) := by omega
        have hstep : digB ((s[j]'hjl).toNat : Int) = true → ∀ i (h : i < s.size), i < j + 1 → digB ((s[i]'h).toNat : Int) = true := fun hb i hi hlt => by
          by_cases hij : i = j
          · subst hij; exact hb
          · exact HW.out i hi (by omega)
        have HS := hide hstep
        obtain ⟨x, hx⟩ : ∃ x : Int, x = ((s[j]'hjl).toNat : Int) := ⟨_, rfl⟩
        have HX := hide hx
        clear hstep hx
        go_wp2_with fail
        refine (xDigit_any _ _).mono ?_
        rintro e w' ⟨rfl, rfl⟩
        rw [← show x = ((s[j]'hjl).toNat : Int) from HX.out]
        cases hl : digB x with
        | true =>
          have HL := hide hl
          clear hl
          go_wp2_with fail
          go_roundg g
          case measure => omega
          case rel => exact ⟨j + 1, by omega, by simp, HS.out (by rw [← HX.out]; exact HL.out), rfl⟩
        | false =>
          have HL := hide hl
          clear hl
          obtain rfl : G = false := by
            rw [HG.out]; unfold gnB
            rw [digs_not hjl (by rw [← HX.out]; exact HL.out), Bool.and_false]
          obtain rfl : N = 0 := HN.out
          go_wp2_with fail
          go_ret2
          exact ⟨rfl, Ex.refl _ _⟩

def standM (s : ByteArray) (l : List (Int × Int)) (nm : List (ByteArray × Nat)) (n : ByteArray) : ByteArray := if gnB n then numM s l (gnN n) else namedM s l nm n
theorem gnN_bound (n : ByteArray) (h1 : 1 ≤ n.size) (h : gnB n = true) : 0 ≤ gnN n ∧ gnN n ≤ 1000 := by
  unfold gnB at h
  rw [Bool.and_eq_true] at h
  obtain ⟨m, hk, hm⟩ := atoi_digs n.data.toList (by intro h; have := len_list n; rw [h] at this; simp at this; omega) h.2
  have hl : n.data.toList.length ≤ 3 := by rw [len_list]; simpa using h.1
  have h2 := decFrom_bound _ _ _ hk
  have h3 : 10 ^ n.data.toList.length ≤ 10 ^ 3 := Nat.pow_le_pow_right (by omega) hl
  have hb : m < 1000 := by omega
  unfold gnN
  rw [hm]
  simp
  omega

set_option maxHeartbeats 2000000 in
set_option maxRecDepth 100000 in
theorem standsFor_any (s : ByteArray) (mb g c : Nat) (l : List (Int × Int)) (nm : List (ByteArray × Nat)) (n : ByteArray) (w : World) (hm : BK w mb (.map (nmE nm) nm.length)) (hnk : ∀ x ∈ nm, x.1.size ≤ 60) (hu : ∀ x ∈ nm, ∀ y ∈ nm, x.1 = y.1 → x.2 = y.2) (hnv : ∀ x ∈ nm, x.2 ≤ 1000) (h1 : 1 ≤ n.size) (hn : n.size ≤ 60) (hgl : g < w.heap.size) (hcell : ∀ j u, (spanL l)[j]? = some u → w.cell? ⟨g, j, none⟩ = some u) (hl : l.length ≤ 1000) (hs : s.size ≤ 9223372036854775807)
    (hok : ∀ y ∈ l, y.1 < 0 ∨ (0 ≤ y.1 ∧ y.1 ≤ y.2 ∧ y.2 ≤ s.size)) :
    Calls Tryz.prog 69 #[.string n, .agg #[.string s, .slice (some ⟨g, 0, none⟩) l.length c, .map (some mb)]] w fun e w' => e = .returned (.string (standM s l nm n)) ∧ Ex [] w w' := by
  obtain ⟨R, hR⟩ : ∃ R, R = standM s l nm n := ⟨_, rfl⟩
  rw [← hR]
  have HR := hide hR
  have hxW : Ex [] w (w.alloc (Obj.cells #[.string s, .slice (some ⟨g, 0, none⟩) l.length c, .map (some mb)] 55)) := (Ex.refl _ _).alloc _
  have hbW : BK (w.alloc (Obj.cells #[.string s, .slice (some ⟨g, 0, none⟩) l.length c, .map (some mb)] 55)) w.heap.size (.cells #[.string s, .slice (some ⟨g, 0, none⟩) l.length c, .map (some mb)] 55 (0, 0)) := BK.new _ _
  have KG := hide (fun W => groupNumber_any n W h1 (by omega))
  have KN := hide (fun (W' : World) (hx : Ex [] w W') => named_any s mb g c l nm n W' (hm.ex hx (by simp)) hnk hu hnv hn (Nat.lt_of_lt_of_le hgl hx.size) (fun j u hj => (hx.cell0.1 g j hgl).trans (hcell j u hj)) hl hs hok)
  have KM := hide (fun (W' : World) (hx : Ex [] w W') (hg : gnB n = true) => numbered_any s mb g c l (gnN n) W' (Nat.lt_of_lt_of_le hgl hx.size) (fun j u hj => (hx.cell0.1 g j hgl).trans (hcell j u hj)) hl hs ⟨by have := gnN_bound n h1 hg; omega, by have := gnN_bound n h1 hg; omega⟩ hok)
  have hr : R = if gnB n then numM s l (gnN n) else namedM s l nm n := hR
  obtain ⟨B, hB⟩ : ∃ B, B = gnB n := ⟨_, rfl⟩
  obtain ⟨K, hK⟩ : ∃ K, K = gnN n := ⟨_, rfl⟩
  obtain ⟨V1, hV1⟩ : ∃ V, V = numM s l K := ⟨_, rfl⟩
  obtain ⟨V2, hV2⟩ : ∃ V, V = namedM s l nm n := ⟨_, rfl⟩
  obtain ⟨m, hm2⟩ : ∃ m, m = l.length := ⟨_, rfl⟩
  rw [← hK] at KG KM hr
  rw [← hB] at KG KM hr
  rw [← hV1, ← hV2] at hr
  rw [← hV1] at KM
  rw [← hV2] at KN
  rw [← hm2] at KM KN hbW hxW ⊢
  have HRR := hide hr
  have HXW := hide hxW
  have HBW := hide hbW
  clear hm hnk hu hnv hcell hok hR hr hK hB hV1 hV2 hm2 hxW hbW
  go_enter Tryz.func69, Tryz.ntmps69
  go_wp2_with fail
  refine (KG.out _).mono ?_
  rintro e w1 ⟨rfl, hx1⟩
  have hb1 := HBW.out.ex hx1 (by simp)
  have HX1 := hide (HXW.out.trans hx1)
  have c1 := hb1.all.1 0
  have c2 := hb1.all.1 1
  have c3 := hb1.all.1 2
  clear hx1 hb1
  simp only [List.getElem?_toArray, List.getElem?_cons_zero, List.getElem?_cons_succ] at c1 c2 c3
  cases B with
  | true =>
    obtain rfl : R = V1 := by rw [HRR.out]; rfl
    go_wp2_with fail
    refine (KM.out _ HX1.out (by simp)).mono ?_
    rintro e w2 ⟨rfl, hx2⟩
    have HX2 := hide (HX1.out.trans hx2)
    clear hx2
    go_wp2_with fail
    go_ret
    exact ⟨rfl, HX2.out⟩
  | false =>
    obtain rfl : R = V2 := by rw [HRR.out]; rfl
    go_wp2_with fail
    refine (KN.out _ HX1.out).mono ?_
    rintro e w2 ⟨rfl, hx2⟩
    have HX2 := hide (HX1.out.trans hx2)
    clear hx2
    go_wp2_with fail
    go_ret
    exact ⟨rfl, HX2.out⟩
end Go.Proofs.YtcbiidoebpkifaaGreatDoor.G
