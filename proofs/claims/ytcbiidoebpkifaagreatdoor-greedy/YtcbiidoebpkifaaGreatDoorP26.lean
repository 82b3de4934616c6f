/- X6 X7 X8, one behind the other. -/
import Derived.Test.YtcbiidoebpkifaaGreatDoorP25
import Derived.Test.YtcbiidoebpkifaaGreatDoorP02
import Derived.Deep.RegionHeld3
set_option linter.unusedVariables false
set_option linter.unusedSimpArgs false
/- Package expand: the number of a group, what a run stands for. -/
namespace Go.Proofs.YtcbiidoebpkifaaGreatDoor.G
open Go.RowKit

def gnB (s : ByteArray) : Bool := decide (s.size ≤ 3) && s.data.toList.all (fun b => digB (b.toNat : Int))
def gnN (s : ByteArray) : Int := (Lib.atoi s.data.toList).getD 0
theorem decFrom_digs : ∀ (l : List UInt8) (acc : Nat), l.all (fun b => digB (b.toNat : Int)) = true → ∃ n, Lib.decFrom acc l = some n
  | [], acc, _ => ⟨acc, rfl⟩
  | b :: r, acc, h => by
    rw [List.all_cons, Bool.and_eq_true] at h
    have hb : 48 ≤ b.toNat ∧ b.toNat ≤ 57 := by
      have := h.1
      simp [digB] at this
      omega
    obtain ⟨n, hn⟩ := decFrom_digs r (acc * 10 + (b.toNat - 48)) h.2
    refine ⟨n, ?_⟩
    unfold Lib.decFrom Lib.digitVal
    rw [if_pos hb]
    exact hn
theorem atoi_digs (l : List UInt8) (h0 : l ≠ []) (h : l.all (fun b => digB (b.toNat : Int)) = true) : ∃ n : Nat, Lib.decFrom 0 l = some n ∧ Lib.atoi l = some (n : Int) := by
  obtain ⟨n, hn⟩ := decFrom_digs l 0 h
  refine ⟨n, hn, ?_⟩
  cases l with
  | nil => exact absurd rfl h0
  | cons b r =>
    rw [List.all_cons, Bool.and_eq_true] at h
    have hb : 48 ≤ b.toNat ∧ b.toNat ≤ 57 := by
      have := h.1
      simp [digB] at this
      omega
    have h1 : (b == 45) = false := beq_eq_false_iff_ne.2 (by rintro rfl; revert hb; decide)
    have h2 : (b == 43) = false := beq_eq_false_iff_ne.2 (by rintro rfl; revert hb; decide)
    simp [Lib.atoi, h1, h2, Lib.decNat, hn]
theorem decFrom_bound : ∀ (l : List UInt8) (acc n : Nat), Lib.decFrom acc l = some n → n < (acc + 1) * 10 ^ l.length
  | [], acc, n, h => by simp [Lib.decFrom] at h; simp; omega
  | b :: r, acc, n, h => by
    unfold Lib.decFrom at h
    cases hd : Lib.digitVal b with
    | none => rw [hd] at h; cases h
    | some d =>
      rw [hd] at h
      have h1 := decFrom_bound r _ n h
      have h2 : d ≤ 9 := by
        unfold Lib.digitVal at hd
        by_cases hb : 48 ≤ b.toNat ∧ b.toNat ≤ 57
        · rw [if_pos hb] at hd; cases hd; omega
        · rw [if_neg hb] at hd; cases hd
      refine Nat.lt_of_lt_of_le h1 ?_
      rw [List.length_cons, Nat.pow_succ, Nat.mul_comm (10 ^ r.length) 10, ← Nat.mul_assoc]
      exact Nat.mul_le_mul_right _ (by omega)
theorem bytesWorld_ex (w : World) (e : TypeId) (t : ByteArray) : Ex [] w (Lib.bytesWorld w e t) := by
  exact ⟨rfl, rfl, rfl, by rw [Lib.bytesWorld_size]; omega, fun k hk _ => Lib.bytesWorld_at_old w e t k hk⟩
theorem digs_all {s : ByteArray} (h : ∀ i (h : i < s.size), i < s.size → digB ((s[i]'h).toNat : Int) = true) : s.data.toList.all (fun b => digB (b.toNat : Int)) = true := by
  rw [List.all_eq_true]
  intro b hb
  obtain ⟨i, hi, rfl⟩ := List.getElem_of_mem hb
  have hi' : i < s.size := by rw [← len_list]; exact hi
  have e := at_list hi'
  rw [List.getElem?_eq_getElem hi] at e
  rw [Option.some.inj e]; exact h i hi' hi'
theorem digs_not {s : ByteArray} {j : Nat} (hj : j < s.size) (h : digB ((s[j]'hj).toNat : Int) = false) : s.data.toList.all (fun b => digB (b.toNat : Int)) = false := by
  rw [List.all_eq_false]
  exact ⟨s[j]'hj, List.mem_of_getElem? (at_list hj), by simpa using h⟩

set_option maxHeartbeats 2000000 in
set_option maxRecDepth 100000 in
theorem groupNumber_any (s : ByteArray) (w : World) (h1 : 1 ≤ s.size) (hs : s.size ≤ 9223372036854775807) :
    Calls Tryz.prog 97 #[.string s] w fun e w' => e = .returned (.tuple #[.int .i64 (if gnB s then gnN s else 0), .bool (gnB s)]) ∧ Ex [] w w' := by
  obtain ⟨G, hG⟩ : ∃ G, G = gnB s := ⟨_, rfl⟩
  obtain ⟨N, hN⟩ : ∃ N, N = if G then gnN s else 0 := ⟨_, rfl⟩
  rw [← hG, ← hN]
  have HG := hide hG
  have HN := hide hN
  clear hG hN
  by_cases h3 : 3 < s.size
  · obtain rfl : G = false := by rw [HG.out]; unfold gnB; rw [decide_eq_false (by omega), Bool.false_and]
    obtain rfl : N = 0 := HN.out
    go_enter Tryz.func97, Tryz.ntmps97
    go_wp2_with fail
    go_ret2
    exact ⟨rfl, Ex.refl _ _⟩
  · have H3 := hide h3
    obtain ⟨n, hn⟩ : ∃ n, n = s.size := ⟨_, rfl⟩
    go_enter Tryz.func97, Tryz.ntmps97
    go_wp2_with fail
    go_loopg [12] n (fun gk i wr => ∃ j : Nat, j + gk = n ∧ i = .int .i64 j ∧ (∀ i (h : i < s.size), i < j → digB ((s[i]'h).toNat : Int) = true) ∧ wr = w)
    case atStart => exact ⟨0, by omega, rfl, fun i h hi => by omega, rfl⟩
    case round =>
      obtain ⟨j, hj, rfl, hw, rfl⟩ := hrel
      have HW := hide hw
      clear hw
      cases gk with
      | zero =>
        obtain rfl : j = s.size := by omega
        have hall := digs_all HW.out
        obtain rfl : G = true := by rw [HG.out]; unfold gnB; rw [hall]; simp; have := H3.out; omega
        obtain ⟨m, _, hm⟩ := atoi_digs s.data.toList (by intro h; have := len_list s; rw [h] at this; simp at this; omega) hall
        obtain rfl : N = (m : Int) := by rw [HN.out]; unfold gnN; rw [hm]; rfl
        have KA := hide (fun w' => Tryz.strconv_Atoi s m (by have := H3.out; omega) hm w')
        clear hj hm hall
        go_wp2_with fail
        refine (KA.out _).mono ?_
        rintro e w1 ⟨rfl, t, rfl⟩
        have HX := hide (bytesWorld_ex wr 5 t)
        generalize Lib.bytesWorld wr 5 t = W at HX ⊢
        go_wp2_with fail
        go_quiet (fail)
        go_wp2_with fail
        go_ret2
        exact ⟨rfl, by first | exact HX.out.drewN _ | exact HX.out | exact HX.out.drew⟩
      | succ g =>
        have hjl : j < s.size := by omega
        have h4 : (j : Int) < (s.size : Int) := by omega
        have hstep : digB ((s[j]'hjl).toNat : Int) = true → ∀ i (h : i < s.size), i < j + 1 → digB ((s[i]'h).toNat : Int) = true := fun hb i hi hlt => by
          by_cases hij : i = j
          · subst hij; exact hb
          · exact HW.out i hi (by omega)
        have HS := hide hstep
        obtain ⟨x, hx⟩ : ∃ x : Int, x = ((s[j]'hjl).toNat : Int) := ⟨_, rfl⟩
        have HX := hide hx
        clear hstep hx
        go_wp2_with fail
        refine (xDigit_any _ _).mono ?_
        rintro e w' ⟨rfl, rfl⟩
        rw [← show x = ((s[j]'hjl).toNat : Int) from HX.out]
        cases hl : digB x with
        | true =>
          have HL := hide hl
          clear hl
          go_wp2_with fail
          go_roundg g
          case measure => omega
          case rel => exact ⟨j + 1, by omega, by simp, HS.out (by rw [← HX.out]; exact HL.out), rfl⟩
        | false =>
          have HL := hide hl
          clear hl
          obtain rfl : G = false := by
            rw [HG.out]; unfold gnB
            rw [digs_not hjl (by rw [← HX.out]; exact HL.out), Bool.and_false]
          obtain rfl : N = 0 := HN.out
          go_wp2_with fail
          go_ret2
          exact ⟨rfl, Ex.refl _ _⟩

def standM (s : ByteArray) (l : List (Int × Int)) (nm : List (ByteArray × Nat)) (n : ByteArray) : ByteArray := if gnB n then numM s l (gnN n) else namedM s l nm n
theorem gnN_bound (n : ByteArray) (h1 : 1 ≤ n.size) (h : gnB n = true) : 0 ≤ gnN n ∧ gnN n ≤ 1000 := by
  unfold gnB at h
  rw [Bool.and_eq_true] at h
  obtain ⟨m, hk, hm⟩ := atoi_digs n.data.toList (by intro h; have := len_list n; rw [h] at this; simp at this; omega) h.2
  have hl : n.data.toList.length ≤ 3 := by rw [len_list]; simpa using h.1
  have h2 := decFrom_bound _ _ _ hk
  have h3 : 10 ^ n.data.toList.length ≤ 10 ^ 3 := Nat.pow_le_pow_right (by omega) hl
  have hb : m < 1000 := by omega
  unfold gnN
  rw [hm]
  simp
  omega

set_option maxHeartbeats 2000000 in
set_option maxRecDepth 100000 in
theorem standsFor_any (s : ByteArray) (mb g c : Nat) (l : List (Int × Int)) (nm : List (ByteArray × Nat)) (n : ByteArray) (w : World) (hm : BK w mb (.map (nmE nm) nm.length)) (hnk : ∀ x ∈ nm, x.1.size ≤ 60) (hu : ∀ x ∈ nm, ∀ y ∈ nm, x.1 = y.1 → x.2 = y.2) (hnv : ∀ x ∈ nm, x.2 ≤ 1000) (h1 : 1 ≤ n.size) (hn : n.size ≤ 60) (hgl : g < w.heap.size) (hcell : ∀ j u, (spanL l)[j]? = some u → w.cell? ⟨g, j, none⟩ = some u) (hl : l.length ≤ 1000) (hs : s.size ≤ 9223372036854775807)
    (hok : ∀ y ∈ l, y.1 < 0 ∨ (0 ≤ y.1 ∧ y.1 ≤ y.2 ∧ y.2 ≤ s.size)) :
    Calls Tryz.prog 69 #[.string n, .agg #[.string s, .slice (some ⟨g, 0, none⟩) l.length c, .map (some mb)]] w fun e w' => e = .returned (.string (standM s l nm n)) ∧ Ex [] w w' := by
  obtain ⟨R, hR⟩ : ∃ R, R = standM s l nm n := ⟨_, rfl⟩
  rw [← hR]
  have HR := hide hR
  have hxW : Ex [] w (w.alloc (Obj.cells #[.string s, .slice (some ⟨g, 0, none⟩) l.length c, .map (some mb)] 55)) := (Ex.refl _ _).alloc _
  have hbW : BK (w.alloc (Obj.cells #[.string s, .slice (some ⟨g, 0, none⟩) l.length c, .map (some mb)] 55)) w.heap.size (.cells #[.string s, .slice (some ⟨g, 0, none⟩) l.length c, .map (some mb)] 55 (0, 0)) := BK.new _ _
  have KG := hide (fun W => groupNumber_any n W h1 (by omega))
  have KN := hide (fun (W' : World) (hx : Ex [] w W') => named_any s mb g c l nm n W' (hm.ex hx (by simp)) hnk hu hnv hn (Nat.lt_of_lt_of_le hgl hx.size) (fun j u hj => (hx.cell0.1 g j hgl).trans (hcell j u hj)) hl hs hok)
  have KM := hide (fun (W' : World) (hx : Ex [] w W') (hg : gnB n = true) => numbered_any s mb g c l (gnN n) W' (Nat.lt_of_lt_of_le hgl hx.size) (fun j u hj => (hx.cell0.1 g j hgl).trans (hcell j u hj)) hl hs ⟨by have := gnN_bound n h1 hg; omega, by have := gnN_bound n h1 hg; omega⟩ hok)
  have hr : R = if gnB n then numM s l (gnN n) else namedM s l nm n := hR
  obtain ⟨B, hB⟩ : ∃ B, B = gnB n := ⟨_, rfl⟩
  obtain ⟨K, hK⟩ : ∃ K, K = gnN n := ⟨_, rfl⟩
  obtain ⟨V1, hV1⟩ : ∃ V, V = numM s l K := ⟨_, rfl⟩
  obtain ⟨V2, hV2⟩ : ∃ V, V = namedM s l nm n := ⟨_, rfl⟩
  obtain ⟨m, hm2⟩ : ∃ m, m = l.length := ⟨_, rfl⟩
  rw [← hK] at KG KM hr
  rw [← hB] at KG KM hr
  rw [← hV1, ← hV2] at hr
  rw [← hV1] at KM
  rw [← hV2] at KN
  rw [← hm2] at KM KN hbW hxW ⊢
  have HRR := hide hr
  have HXW := hide hxW
  have HBW := hide hbW
  clear hm hnk hu hnv hcell hok hR hr hK hB hV1 hV2 hm2 hxW hbW
  go_enter Tryz.func69, Tryz.ntmps69
  go_wp2_with fail
  refine (KG.out _).mono ?_
  rintro e w1 ⟨rfl, hx1⟩
  have hb1 := HBW.out.ex hx1 (by simp)
  have HX1 := hide (HXW.out.trans hx1)
  have c1 := hb1.all.1 0
  have c2 := hb1.all.1 1
  have c3 := hb1.all.1 2
  clear hx1 hb1
  simp only [List.getElem?_toArray, List.getElem?_cons_zero, List.getElem?_cons_succ] at c1 c2 c3
  cases B with
  | true =>
    obtain rfl : R = V1 := by rw [HRR.out]; rfl
    go_wp2_with fail
    refine (KM.out _ HX1.out (by simp)).mono ?_
    rintro e w2 ⟨rfl, hx2⟩
    have HX2 := hide (HX1.out.trans hx2)
    clear hx2
    go_wp2_with fail
    go_ret
    exact ⟨rfl, HX2.out⟩
  | false =>
    obtain rfl : R = V2 := by rw [HRR.out]; rfl
    go_wp2_with fail
    refine (KN.out _ HX1.out).mono ?_
    rintro e w2 ⟨rfl, hx2⟩
    have HX2 := hide (HX1.out.trans hx2)
    clear hx2
    go_wp2_with fail
    go_ret
    exact ⟨rfl, HX2.out⟩
end Go.Proofs.YtcbiidoebpkifaaGreatDoor.G

/- Package expand: what the beginning of a template stands for. -/
namespace Go.Proofs.YtcbiidoebpkifaaGreatDoor.G
open Go.RowKit

def firstM (F : ByteArray → ByteArray) (t : ByteArray) : ByteArray × Nat :=
  if t.data.toList.headD 0 ≠ 36 then (t.extract 0 (plainI t).toNat, (plainI t).toNat)
  else if Lib.hasPrefix t.data.toList [36, 36] then (⟨#[36]⟩, 2)
  else if 0 < runN (t.extract 1 t.size) then (F (t.extract 1 (1 + runN (t.extract 1 t.size))), 1 + runN (t.extract 1 t.size))
  else if 0 < bracedN (t.extract 1 t.size) then (F (t.extract 2 (2 + bracedN (t.extract 1 t.size))), bracedN (t.extract 1 t.size) + 3)
  else (⟨#[36]⟩, 1)
theorem index_lt (c : UInt8) : ∀ (l : List UInt8), Lib.indexByte l c ≤ l.length
  | [] => by simp [Lib.indexByte]
  | b :: l => by
    have := index_lt c l
    unfold Lib.indexByte
    rw [List.length_cons]
    repeat' split
    all_goals omega
theorem index_pos (c : UInt8) : ∀ (l : List UInt8), l.headD 0 ≠ c → Lib.indexByte l c ≠ 0
  | [], h => by simp [Lib.indexByte]
  | b :: l, h => by
    have h1 : (b == c) = false := beq_eq_false_iff_ne.2 (by simpa using h)
    have := Lib.indexByte_ge l c
    unfold Lib.indexByte
    rw [h1]
    simp only [Bool.false_eq_true, if_false]
    split
    · omega
    · next h2 =>
      have : Lib.indexByte l c ≠ -1 := fun e => h2 (by rw [e]; rfl)
      omega
theorem plain_bound (t : ByteArray) (h1 : 1 ≤ t.size) (hh : t.data.toList.headD 0 ≠ 36) : 1 ≤ plainI t ∧ plainI t ≤ t.size := by
  have h2 := index_lt 36 t.data.toList
  have h3 := index_pos 36 t.data.toList hh
  rw [len_list] at h2
  unfold plainI
  split <;> omega
theorem braced_le (u : ByteArray) (h : 0 < bracedN u) : bracedN u + 2 ≤ u.size := by
  unfold bracedN at h ⊢
  split at h
  · next hc =>
    rw [if_pos hc]
    rw [Bool.and_eq_true] at hc
    have h2 := prefix_pos hc.2
    rw [Go.Proofs.YtcbiidoebpkifaaGreatDoor.G.size_extract u _ u.size (Nat.le_refl _)] at h2
    omega
  · omega

structure FD (w : World) (s : ByteArray) (mb g : Nat) (l : List (Int × Int)) (nm : List (ByteArray × Nat)) : Prop where
  mp : BK w mb (.map (nmE nm) nm.length)
  nk : ∀ x ∈ nm, x.1.size ≤ 60
  nu : ∀ x ∈ nm, ∀ y ∈ nm, x.1 = y.1 → x.2 = y.2
  nv : ∀ x ∈ nm, x.2 ≤ 1000
  gl : g < w.heap.size
  cell : ∀ j u, (spanL l)[j]? = some u → w.cell? ⟨g, j, none⟩ = some u
  ll : l.length ≤ 1000
  sl : s.size ≤ 100000000
  ok : ∀ y ∈ l, y.1 < 0 ∨ (0 ≤ y.1 ∧ y.1 ≤ y.2 ∧ y.2 ≤ s.size)
theorem FD.ex {w w' : World} {s : ByteArray} {mb g : Nat} {l : List (Int × Int)} {nm : List (ByteArray × Nat)} (h : FD w s mb g l nm) (hx : Ex [] w w') : FD w' s mb g l nm :=
  ⟨h.mp.ex hx (by simp), h.nk, h.nu, h.nv, Nat.lt_of_lt_of_le h.gl hx.size, fun j u hj => (hx.cell0.1 g j h.gl).trans (h.cell j u hj), h.ll, h.sl, h.ok⟩
theorem stands_fd (s : ByteArray) (mb g c : Nat) (l : List (Int × Int)) (nm : List (ByteArray × Nat)) (n : ByteArray) (w : World) (h : FD w s mb g l nm) (h1 : 1 ≤ n.size) (hn : n.size ≤ 60) :
    Calls Tryz.prog 69 #[.string n, .agg #[.string s, .slice (some ⟨g, 0, none⟩) l.length c, .map (some mb)]] w fun e w' => e = .returned (.string (standM s l nm n)) ∧ Ex [] w w' :=
  standsFor_any s mb g c l nm n w h.mp h.nk h.nu h.nv h1 hn h.gl h.cell h.ll (by have := h.sl; omega) h.ok

set_option maxHeartbeats 4000000 in
set_option maxRecDepth 100000 in
theorem first_any (s : ByteArray) (mb g c : Nat) (l : List (Int × Int)) (nm : List (ByteArray × Nat)) (t : ByteArray) (w : World) (hd : FD w s mb g l nm) (h1 : 1 ≤ t.size) (ht : t.size ≤ 60) :
    Calls Tryz.prog 41 #[.string t, .agg #[.string s, .slice (some ⟨g, 0, none⟩) l.length c, .map (some mb)]] w fun e w' => e = .returned (.tuple #[.string (firstM (standM s l nm) t).1, .int .i64 ((firstM (standM s l nm) t).2 : Nat)]) ∧ Ex [] w w' := by
  have hp : 0 < t.size := h1
  have hh := head_list hp
  obtain ⟨R, hR⟩ : ∃ R, R = (firstM (standM s l nm) t).1 := ⟨_, rfl⟩
  obtain ⟨N, hN⟩ : ∃ N, N = (firstM (standM s l nm) t).2 := ⟨_, rfl⟩
  rw [← hR, ← hN]
  have KSS := hide (fun (n : ByteArray) (W : World) (hx : Ex [] w W) (h1 : 1 ≤ n.size) (hn : n.size ≤ 60) => stands_fd s mb g c l nm n W (hd.ex hx) h1 hn)
  have hxW : Ex [] w (w.alloc (Obj.cells #[.string s, .slice (some ⟨g, 0, none⟩) l.length c, .map (some mb)] 55)) := (Ex.refl _ _).alloc _
  have hbW : BK (w.alloc (Obj.cells #[.string s, .slice (some ⟨g, 0, none⟩) l.length c, .map (some mb)] 55)) w.heap.size (.cells #[.string s, .slice (some ⟨g, 0, none⟩) l.length c, .map (some mb)] 55 (0, 0)) := BK.new _ _
  obtain ⟨m, hm2⟩ : ∃ m, m = l.length := ⟨_, rfl⟩
  rw [← hm2] at KSS hbW hxW ⊢
  have HXW := hide hxW
  have HBW := hide hbW
  have HR := hide hR
  have HN := hide hN
  clear hm2 hxW hbW hR hN hd
  by_cases h36 : ((t[0]'hp).toNat : Int) = 36
  rotate_left
  · have hne : t.data.toList.headD 0 ≠ 36 := by rw [hh]; intro e; apply h36; rw [e]; rfl
    obtain ⟨p1, p2⟩ := plain_bound t h1 hne
    obtain ⟨k, hk⟩ : ∃ k : Nat, plainI t = k := ⟨(plainI t).toNat, by omega⟩
    have hr : R = t.extract 0 k := by rw [HR.out]; unfold firstM; rw [if_pos hne, hk]; rfl
    have hn : N = k := by rw [HN.out]; unfold firstM; rw [if_pos hne, hk]; rfl
    have KP := hide (fun W => plainSize_any t W (by omega))
    rw [hk] at KP p1 p2
    have HRR := hide hr
    subst hn
    clear hr hk hh hne
    have hk2 : N ≤ t.size := by omega
    clear p1
    go_enter Tryz.func41, Tryz.ntmps41
    go_wp2_with fail
    refine (KP.out _).mono ?_
    rintro e w1 ⟨rfl, rfl⟩
    go_wp2_with fail
    go_ret2
    exact ⟨by rw [HRR.out]; rfl, HXW.out⟩
  have heq : ¬ t.data.toList.headD 0 ≠ 36 := by rw [hh]; intro e; apply e; exact UInt8.toNat_inj.1 (by simpa using (show (t[0]'hp).toNat = 36 by omega))
  have KH := hide (fun w' => Tryz.strings_HasPrefix t ⟨#[36, 36]⟩ w')
  obtain ⟨B, hB⟩ : ∃ B, B = Lib.hasPrefix t.data.toList [36, 36] := ⟨_, rfl⟩
  rw [show Lib.hasPrefix t.data.toList (⟨#[36, 36]⟩ : ByteArray).data.toList = B from hB.symm] at KH
  have hzx := size_ext1 t 1
  have KR := hide (fun w' => runSize_any (t.extract 1 t.size) w' (by omega))
  have KB := hide (fun w' => bracedSize_any (t.extract 1 t.size) w' (by omega))
  have hle := runN_le (t.extract 1 t.size)
  have hbe := braced_le (t.extract 1 t.size)
  have hr : R = (if B then (⟨#[36]⟩, 2) else if 0 < runN (t.extract 1 t.size) then (standM s l nm (t.extract 1 (1 + runN (t.extract 1 t.size))), 1 + runN (t.extract 1 t.size)) else if 0 < bracedN (t.extract 1 t.size) then (standM s l nm (t.extract 2 (2 + bracedN (t.extract 1 t.size))), bracedN (t.extract 1 t.size) + 3) else (⟨#[36]⟩, 1) : ByteArray × Nat).1 := by
    rw [HR.out]; unfold firstM; rw [if_neg heq, hB]
  have hn : N = (if B then (⟨#[36]⟩, 2) else if 0 < runN (t.extract 1 t.size) then (standM s l nm (t.extract 1 (1 + runN (t.extract 1 t.size))), 1 + runN (t.extract 1 t.size)) else if 0 < bracedN (t.extract 1 t.size) then (standM s l nm (t.extract 2 (2 + bracedN (t.extract 1 t.size))), bracedN (t.extract 1 t.size) + 3) else (⟨#[36]⟩, 1) : ByteArray × Nat).2 := by
    rw [HN.out]; unfold firstM; rw [if_neg heq, hB]
  obtain ⟨n, hnn⟩ : ∃ n, n = runN (t.extract 1 t.size) := ⟨_, rfl⟩
  obtain ⟨b, hbb⟩ : ∃ b, b = bracedN (t.extract 1 t.size) := ⟨_, rfl⟩
  rw [← hnn] at KR hle hr hn
  rw [← hbb] at KB hbe hr hn
  rw [hzx] at hle hbe
  have HH := hide hh
  clear HR HN hnn hbb hB heq hzx hh
  have HRR := hide hr
  have HNN := hide hn
  clear hr hn
  cases B with
  | true =>
    obtain rfl : R = ⟨#[36]⟩ := HRR.out
    obtain rfl : N = 2 := HNN.out
    clear hbe
    go_enter Tryz.func41, Tryz.ntmps41
    go_wp2_with fail
    refine (KH.out _).mono ?_
    rintro e w1 ⟨rfl, rfl⟩
    go_wp2_with fail
    go_ret2
    exact ⟨rfl, HXW.out⟩
  | false =>
    by_cases hn0 : 0 < n
    · have hn1 : n + 1 ≤ t.size := by omega
      have hr : R = standM s l nm (t.extract 1 (1 + n)) := by rw [HRR.out]; simp [hn0]
      obtain rfl : N = 1 + n := by rw [HNN.out]; simp [hn0]
      have hz : (t.extract 1 (1 + n)).size = n := by rw [Go.Proofs.YtcbiidoebpkifaaGreatDoor.G.size_extract t 1 (1 + n) (by omega)]; omega
      have KS := hide (fun W hx => KSS.out (t.extract 1 (1 + n)) W hx (by omega) (by omega))
      rw [← hr] at KS
      have hi1 : (1 : Int) + (n : Int) ≤ (t.size : Int) := by omega
      have hi2 : (1 : Int) ≤ (1 : Int) + (n : Int) := by omega
      have hi3 : (0 : Int) < (n : Int) := by omega
      have hi4 : IntKind.i64.wrap ((1 : Int) + (n : Int)) = (1 : Int) + (n : Int) := by rw [IntKind.wrap_i64]; omega
      clear hbe hr hz hle KSS HRR HNN
      go_enter Tryz.func41, Tryz.ntmps41
      go_wp2_with fail
      refine (KH.out _).mono ?_
      rintro e w1 ⟨rfl, rfl⟩
      go_wp2_with fail
      refine (KR.out _).mono ?_
      rintro e w1 ⟨rfl, rfl⟩
      have hcw := HBW.out.all.1
      have hlw := HBW.out.lt
      go_wp2_with fail
      go_region_held3 (fun w' => ∀ o, w'.cell? ⟨w.heap.size, o, none⟩ = #[Value.string s, .slice (some ⟨g, 0, none⟩) m c, .map (some mb)][o]?)
        (first | exact q6 | exact hcw)
        (first
          | (go_at_call 69; refine (show Calls _ _ _ _ _ from KS.out _ (HXW.out.drew)).mono ?_; rintro x w6 ⟨rfl, hx6⟩; have q6 := (HBW.out.drew.ex hx6 (by simp)).all.1))
      have hy6 : Ex [] w w6 := HXW.out.drew.trans hx6
      clear hx6 q6 hcw
      go_wp2_with fail
      go_ret2
      exact ⟨rfl, hy6⟩
    · obtain rfl : n = 0 := by omega
      by_cases hb0 : 0 < b
      · have hb1 : b + 3 ≤ t.size := by have := hbe hb0; omega
        have hr : R = standM s l nm (t.extract 2 (2 + b)) := by rw [HRR.out]; simp [hb0]
        obtain rfl : N = b + 3 := by rw [HNN.out]; simp [hb0]
        have hz : (t.extract 2 (2 + b)).size = b := by rw [Go.Proofs.YtcbiidoebpkifaaGreatDoor.G.size_extract t 2 (2 + b) (by omega)]; omega
        have KS := hide (fun W hx => KSS.out (t.extract 2 (2 + b)) W hx (by omega) (by omega))
        rw [← hr] at KS
        have hi1 : (2 : Int) + (b : Int) ≤ (t.size : Int) := by omega
        have hi2 : (2 : Int) ≤ (2 : Int) + (b : Int) := by omega
        have hi3 : (0 : Int) < (b : Int) := by omega
        have hi4 : IntKind.i64.wrap ((2 : Int) + (b : Int)) = (2 : Int) + (b : Int) := by rw [IntKind.wrap_i64]; omega
        have hi5 : IntKind.i64.wrap ((b : Int) + 3) = (b : Int) + 3 := by rw [IntKind.wrap_i64]; omega
        clear hbe hr hz hle KSS HRR HNN
        go_enter Tryz.func41, Tryz.ntmps41
        go_wp2_with fail
        refine (KH.out _).mono ?_
        rintro e w1 ⟨rfl, rfl⟩
        go_wp2_with fail
        refine (KR.out _).mono ?_
        rintro e w1 ⟨rfl, rfl⟩
        go_wp2_with fail
        refine (KB.out _).mono ?_
        rintro e w1 ⟨rfl, rfl⟩
        have hcw := HBW.out.all.1
        have hlw := HBW.out.lt
        go_wp2_with fail
        go_region_held3 (fun w' => ∀ o, w'.cell? ⟨w.heap.size, o, none⟩ = #[Value.string s, .slice (some ⟨g, 0, none⟩) m c, .map (some mb)][o]?)
          (first | exact q6 | exact hcw)
          (first
            | (go_at_call 69; refine (show Calls _ _ _ _ _ from KS.out _ (HXW.out.drew)).mono ?_; rintro x w6 ⟨rfl, hx6⟩; have q6 := (HBW.out.drew.ex hx6 (by simp)).all.1))
        have hy6 : Ex [] w w6 := HXW.out.drew.trans hx6
        clear hx6 q6 hcw
        go_wp2_with fail
        go_ret2
        exact ⟨rfl, hy6⟩
      · obtain rfl : b = 0 := by omega
        obtain rfl : R = ⟨#[36]⟩ := HRR.out
        obtain rfl : N = 1 := HNN.out
        clear hbe
        go_enter Tryz.func41, Tryz.ntmps41
        go_wp2_with fail
        refine (KH.out _).mono ?_
        rintro e w1 ⟨rfl, rfl⟩
        go_wp2_with fail
        refine (KR.out _).mono ?_
        rintro e w1 ⟨rfl, rfl⟩
        go_wp2_with fail
        refine (KB.out _).mono ?_
        rintro e w1 ⟨rfl, rfl⟩
        go_wp2_with fail
        go_ret2
        exact ⟨rfl, HXW.out⟩
end Go.Proofs.YtcbiidoebpkifaaGreatDoor.G

/- Package expand: a template, built. -/
namespace Go.Proofs.YtcbiidoebpkifaaGreatDoor.G
open Go.RowKit

def tempM (F : ByteArray → ByteArray) : Nat → ByteArray → List UInt8
  | 0, _ => []
  | f + 1, t => if t.size = 0 then [] else (firstM F t).1.data.toList ++ tempM F f (t.extract (firstM F t).2 t.size)
def tplM (F : ByteArray → ByteArray) (t : ByteArray) : ByteArray := ⟨(tempM F t.size t).toArray⟩
theorem temp_empty (F : ByteArray → ByteArray) (f : Nat) (t : ByteArray) (h : t.size = 0) : tempM F f t = [] := by
  cases f with
  | zero => rfl
  | succ f => simp [tempM, h]
theorem num_size (s : ByteArray) (l : List (Int × Int)) (k : Int) : (numM s l k).size ≤ s.size := by
  have h0 : (⟨#[]⟩ : ByteArray).size ≤ s.size := Nat.zero_le _
  unfold numM
  split
  · exact h0
  · split
    · split
      · exact h0
      · rw [Lib.size_eq, Lib.extract_data, List.length_take, List.length_drop, ← Lib.size_eq]; omega
    · exact h0
theorem stand_size (s : ByteArray) (l : List (Int × Int)) (nm : List (ByteArray × Nat)) (n : ByteArray) : (standM s l nm n).size ≤ s.size := by
  unfold standM namedM
  repeat' split
  all_goals first | exact num_size _ _ _ | exact Nat.zero_le _
theorem first_len (F : ByteArray → ByteArray) (t : ByteArray) (h1 : 1 ≤ t.size) : 1 ≤ (firstM F t).2 ∧ (firstM F t).2 ≤ t.size := by
  have hzx := size_ext1 t 1
  have hle := runN_le (t.extract 1 t.size)
  have hbe := braced_le (t.extract 1 t.size)
  unfold firstM
  split
  · next h =>
    have := plain_bound t h1 h
    dsimp only
    omega
  · split
    · next h =>
      have h2 : 2 ≤ t.size := by
        rw [← len_list]
        unfold Lib.hasPrefix at h
        exact (List.isPrefixOf_iff_prefix.1 h).length_le
      dsimp only
      omega
    · split
      · dsimp only; omega
      · split
        · next h => have := hbe h; dsimp only; omega
        · dsimp only; omega
theorem first_size (F : ByteArray → ByteArray) (t : ByteArray) (M : Nat) (hF : ∀ n, (F n).size ≤ M) (hM : t.size ≤ M) (h1 : 1 ≤ M) : (firstM F t).1.size ≤ M := by
  have h36 : (⟨#[36]⟩ : ByteArray).size = 1 := rfl
  unfold firstM
  repeat' split
  all_goals dsimp only
  · rw [Lib.size_eq, Lib.extract_data, List.length_take, List.length_drop, ← Lib.size_eq]; omega
  · omega
  · exact hF _
  · exact hF _
  · omega
theorem isb_ex {T e : TypeId} {B b : Nat} {bs : List Value} {w w' : World} (h : Lib.IsBuilderF T e B b bs w) (hx : Ex [] w w') : Lib.IsBuilderF T e B b bs w' := by
  have key : ∀ p, Lib.BuilderAtF T e B b p bs w → Lib.BuilderAtF T e B b p bs w' := by
    rintro p ⟨hB, v, hb, hown, hne⟩
    refine ⟨hB, v, (hx.block b (Array.getElem?_eq_some_iff.1 hb).1 (by simp)).trans hb, ⟨hown.1, ?_⟩, hne⟩
    rcases hown.2 with hn | ⟨g, cap, cur, fz, rfl, hb', hgg, rest⟩
    · exact .inl hn
    · exact .inr ⟨g, cap, cur, fz, rfl, hb', (hx.block g (Array.getElem?_eq_some_iff.1 hgg).1 (by simp)).trans hgg, rest⟩
  exact h.elim (fun h => .inl (key _ h)) (fun h => .inr (key _ h))
theorem _root_.Go.Proofs.YtcbiidoebpkifaaGreatDoor.Ex.trans2 {a w w' : World} (h : Ex [] a w) (hb : Below a.heap.size w w') : Ex [] a w' :=
  ⟨hb.os.trans h.os, hb.tape.trans h.tape, hb.output.trans h.output, Nat.le_trans h.size hb.size, fun k hk hn => (hb.block k hk).trans (h.block k hk hn)⟩
theorem writeString_k (B b : Nat) (bs : List Value) (s : ByteArray) (w : World) (h : Lib.IsBuilderF 121 5 B b bs w) (hlen : bs.length + s.size ≤ 140737488355328) (hBw : B ≤ w.heap.size) :
    Calls Tryz.prog 42 #[.pointer (some ⟨b, 0, none⟩), .string s] w fun e w' => e = .returned (.tuple #[.int .i64 s.size, .nilIface]) ∧ (Lib.BuilderAtF 121 5 B b (.pointer (some ⟨b, 0, none⟩)) (bs ++ Lib.strCells s) w' ∧ Below B w w' ∧ Lib.OthersKept 5 (some b) w w') :=
  Any.Builder_WriteString_k { Tryz.lays156 with } Tryz.Builder_Extra_156 B b bs s w h hlen hBw

set_option maxHeartbeats 4000000 in
set_option maxRecDepth 100000 in
theorem template_any (s : ByteArray) (mb g c : Nat) (l : List (Int × Int)) (nm : List (ByteArray × Nat)) (t : ByteArray) (w : World) (hd : FD w s mb g l nm) (ht : t.size ≤ 60) :
    Calls Tryz.prog 19 #[.string t, .agg #[.string s, .slice (some ⟨g, 0, none⟩) l.length c, .map (some mb)]] w fun e w' => e = .returned (.string (tplM (standM s l nm) t)) ∧ Ex [] w w' := by
  have KF := hide (fun (r : ByteArray) (W : World) (hx : Ex [] w W) (h1 : 1 ≤ r.size) (hr : r.size ≤ 60) => first_any s mb g c l nm r W (hd.ex hx) h1 hr)
  have hFs := fun r : ByteArray => fun hr : r.size ≤ 60 => first_size (standM s l nm) r 100000100 (fun n => by have := stand_size s l nm n; have := hd.sl; omega) (by omega) (by omega)
  obtain ⟨F, hF⟩ : ∃ F, F = standM s l nm := ⟨_, rfl⟩
  rw [← hF] at KF hFs ⊢
  obtain ⟨m, hm2⟩ : ∃ m, m = l.length := ⟨_, rfl⟩
  rw [← hm2] at KF ⊢
  have HFS := hide hFs
  obtain ⟨R, hR⟩ : ∃ R, R = tplM F t := ⟨_, rfl⟩
  rw [← hR]
  have HR := hide hR
  clear hd hF hm2 hFs hR
  obtain ⟨W1, hW1⟩ : ∃ W, W = w.alloc (Obj.cells #[.string s, .slice (some ⟨g, 0, none⟩) m c, .map (some mb)] 55) := ⟨_, rfl⟩
  have hx1 : Ex [] w W1 := by rw [hW1]; exact (Ex.refl _ _).alloc _
  have hb1 : BK W1 w.heap.size (.cells #[.string s, .slice (some ⟨g, 0, none⟩) m c, .map (some mb)] 55 (0, 0)) := by rw [hW1]; exact BK.new _ _
  have hs1 : W1.heap.size = w.heap.size + 1 := by rw [hW1]; simp
  have HX1 := hide hx1
  have HB1 := hide hb1
  have HS1 := hide hs1
  have HW1 := hide hW1
  clear hx1 hb1 hs1
  obtain ⟨n, hn⟩ : ∃ n, n = t.size := ⟨_, rfl⟩
  have HT := hide ht
  have HN := hide hn
  clear ht hn
  go_enter Tryz.func19, Tryz.ntmps19
  go_wp2_with fail
  rw [← HW1.out]
  clear hW1 HW1
  go_loopg [6] n (fun gk r6 wr => ∃ (r : ByteArray) (o : List UInt8), r6 = .string r ∧ r.size ≤ gk ∧ r.size ≤ 60 ∧ o ++ tempM F gk r = R.data.toList ∧ o.length + r.size * 100000100 ≤ 60 * 100000100 ∧ Lib.IsBuilderF 121 5 (w.heap.size + 1) (w.heap.size + 1) (Lib.byteCells o) wr ∧ Ex [] W1 wr)
  case atStart => exact ⟨t, [], rfl, by rw [HN.out]; exact Nat.le_refl _, HT.out, by rw [HR.out, HN.out]; simp [tplM], by have := HT.out; simp; omega, .inl ⟨Nat.le_refl _, _, by have h := BK.new W1 (.cells #[.pointer none, .slice none 0 0] 121); rw [HS1.out] at h; exact h, World.ownsRowF_nil _ _ _ _, by simp [Value.ownBlock]⟩, (Ex.refl _ _).alloc _⟩
  case round =>
    obtain ⟨r, o, rfl, hrg, hr60, hro, hol, hbd, hx⟩ := hrel
    have HRO := hide hro
    have HBD := hide hbd
    have HX := hide hx
    have hzz : w.heap.size + 1 ≤ wr.heap.size := by have := hx.size; have := HS1.out; omega
    clear hro hbd hx
    by_cases h0 : r.size = 0
    · obtain rfl : r = ⟨#[]⟩ := by apply ByteArray.ext; exact Array.eq_empty_of_size_eq_zero h0
      have KS := hide (fun W h1 h2 => Tryz.Builder_String_any_k (w.heap.size + 1) (w.heap.size + 1) o W h1 h2)
      have hres : (⟨o.toArray⟩ : ByteArray) = R := by
        have := HRO.out
        rw [temp_empty _ _ _ h0, List.append_nil] at this
        apply ByteArray.ext
        show o.toArray = R.data
        rw [this, Array.toArray_toList]
      rw [hres] at KS
      clear hres h0 hol hrg hr60
      go_wp2_with fail
      refine (KS.out _ HBD.out hzz).mono ?_
      rintro e w3 ⟨rfl, _, hbl, _⟩
      have hx3 : Ex [] W1 w3 := HX.out.trans2 (by rw [HS1.out]; exact hbl)
      have HX3 := hide (HX1.out.trans hx3)
      clear hx3 hbl
      go_wp2_with fail
      go_ret
      exact ⟨rfl, HX3.out⟩
    · have hem := nonempty_list h0
      have hpos : 1 ≤ r.size := by omega
      cases gk with
      | zero => exfalso; omega
      | succ gk =>
        obtain ⟨f1, f2⟩ := first_len F r hpos
        have f3 := HFS.out r hr60
        have K1 := hide (fun W hx => KF.out r W hx hpos hr60)
        have hstep : o ++ ((firstM F r).1.data.toList ++ tempM F gk (r.extract (firstM F r).2 r.size)) = R.data.toList := by
          have := HRO.out
          unfold tempM at this
          rw [if_neg h0] at this
          exact this
        obtain ⟨x, hx⟩ : ∃ x, x = (firstM F r).1 := ⟨_, rfl⟩
        obtain ⟨k, hk⟩ : ∃ k, k = (firstM F r).2 := ⟨_, rfl⟩
        rw [← hx, ← hk] at K1 hstep
        rw [← hk] at f1 f2
        rw [← hx] at f3
        have HST := hide hstep
        have hcr := (HB1.out.ex HX.out (by simp)).all.1
        have hlr := (HB1.out.ex HX.out (by simp)).lt
        have hkk : (k : Int) ≤ (r.size : Int) := by omega
        clear hx hk hstep HRO h0
        go_wp2_with fail
        refine (K1.out _ (HX1.out.trans HX.out)).mono ?_
        rintro e w3 ⟨rfl, hx3⟩
        have HX3 := hide (HX.out.trans hx3)
        have HBD3 := hide (isb_ex HBD.out hx3)
        have hz3 : w.heap.size + 1 ≤ w3.heap.size := by have := HX3.out.size; have := HS1.out; omega
        clear hx3 hcr
        go_wp2_with fail
        refine (writeString_k (w.heap.size + 1) (w.heap.size + 1) (Lib.byteCells o) x _ HBD3.out (by rw [Lib.byteCells_length]; omega) hz3).mono ?_
        rintro e w4 ⟨rfl, hat, hbl, _⟩
        have HX4 : Hid (Ex [] W1 w4) := HX3.out.trans2 (by rw [HS1.out]; exact hbl)
        have HBD4 : Hid (Lib.IsBuilderF 121 5 (w.heap.size + 1) (w.heap.size + 1) (Lib.byteCells (o ++ x.data.toList)) w4) := .inr (by
          have : Lib.byteCells (o ++ x.data.toList) = Lib.byteCells o ++ Lib.strCells x := by simp [Lib.byteCells, Lib.strCells]
          rw [this]; exact hat)
        clear hat hbl
        go_wp2_with fail
        have hse := Go.Proofs.YtcbiidoebpkifaaGreatDoor.G.size_extract r k r.size (Nat.le_refl _)
        go_roundg gk
        case measure => omega
        case rel => exact ⟨r.extract k r.size, o ++ x.data.toList, rfl, by omega, by omega, by rw [List.append_assoc]; exact HST.out, by rw [List.length_append, len_list, hse]; omega, HBD4.out, HX4.out⟩
end Go.Proofs.YtcbiidoebpkifaaGreatDoor.G
