/- X7 X8 Y1, one behind the other. -/
import Derived.Test.YtcbiidoebpkifaaGreatDoorM43
import Derived.Deep.RegionHeld3
import Derived.Test.YtcbiidoebpkifaaGreatDoorM05
import Derived.Test.YtcbiidoebpkifaaGreatDoorM31
import Derived.Test.YtcbiidoebpkifaaGreatDoorM28
set_option linter.unusedVariables false
set_option linter.unusedSimpArgs false
/- Package expand: what the beginning of a template stands for. -/
namespace Go.Proofs.YtcbiidoebpkifaaGreatDoor.G
open Go.RowKit

def firstM (F : ByteArray → ByteArray) (t : ByteArray) : ByteArray × Nat :=
  if t.data.toList.headD 0 ≠ 36 then (t.extract 0 (plainI t).toNat, (plainI t).toNat)
  else if Lib.hasPrefix t.data.toList [36, 36] then (⟨#[36]⟩, 2)
  else if 0 < runN (t.extract 1 t.size) then (F (t.extract 1 (1 + runN (t.extract 1 t.size))), 1 + runN (t.extract 1 t.size))
  else if 0 < bracedN (t.extract 1 t.size) then (F (t.extract 2 (2 + bracedN (t.extract 1 t.size))), bracedN (t.extract 1 t.size) + 3)
  else (⟨#[36]⟩, 1)
theorem index_lt (c : UInt8) : ∀ (l : List UInt8), Lib.indexByte l c ≤ l.length
  | [] => by simp [Lib.indexByte]
  | b :: l => by
    have := index_lt c l
    unfold Lib.indexByte
    rw [List.length_cons]
    repeat' split
    all_goals omega
theorem index_pos (c : UInt8) : ∀ (l : List UInt8), l.headD 0 ≠ c → Lib.indexByte l c ≠ 0
  | [], h => by simp [Lib.indexByte]
  | b :: l, h => by
    have h1 : (b == c) = false := beq_eq_false_iff_ne.2 (by simpa using h)
    have := Lib.indexByte_ge l c
    unfold Lib.indexByte
    rw [h1]
    simp only [Bool.false_eq_true, if_false]
    split
    · omega
    · next h2 =>
      have : Lib.indexByte l c ≠ -1 := fun e => h2 (by rw [e]; rfl)
      omega
theorem plain_bound (t : ByteArray) (h1 : 1 ≤ t.size) (hh : t.data.toList.headD 0 ≠ 36) : 1 ≤ plainI t ∧ plainI t ≤ t.size := by
  have h2 := index_lt 36 t.data.toList
  have h3 := index_pos 36 t.data.toList hh
  rw [len_list] at h2
  unfold plainI
  split <;> omega
theorem braced_le (u : ByteArray) (h : 0 < bracedN u) : bracedN u + 2 ≤ u.size := by
  unfold bracedN at h ⊢
  split at h
  · next hc =>
    rw [if_pos hc]
    rw [Bool.and_eq_true] at hc
    have h2 := prefix_pos hc.2
    rw [Go.Proofs.YtcbiidoebpkifaaGreatDoor.G.size_extract u _ u.size (Nat.le_refl _)] at h2
    omega
  · omega

structure FD (w : World) (s : ByteArray) (mb g : Nat) (l : List (Int × Int)) (nm : List (ByteArray × Nat)) : Prop where
  mp : BK w mb (.map (nmE nm) nm.length)
  nk : ∀ x ∈ nm, x.1.size ≤ 60
  nu : ∀ x ∈ nm, ∀ y ∈ nm, x.1 = y.1 → x.2 = y.2
  nv : ∀ x ∈ nm, x.2 ≤ 1000
  gl : g < w.heap.size
  cell : ∀ j u, (spanL l)[j]? = some u → w.cell? ⟨g, j, none⟩ = some u
  ll : l.length ≤ 1000
  sl : s.size ≤ 100000000
  ok : ∀ y ∈ l, y.1 < 0 ∨ (0 ≤ y.1 ∧ y.1 ≤ y.2 ∧ y.2 ≤ s.size)
theorem FD.ex {w w' : World} {s : ByteArray} {mb g : Nat} {l : List (Int × Int)} {nm : List (ByteArray × Nat)} (h : FD w s mb g l nm) (hx : Ex [] w w') : FD w' s mb g l nm :=
  ⟨h.mp.ex hx (by simp), h.nk, h.nu, h.nv, Nat.lt_of_lt_of_le h.gl hx.size, fun j u hj => (hx.cell0.1 g j h.gl).trans (h.cell j u hj), h.ll, h.sl, h.ok⟩
theorem stands_fd (s : ByteArray) (mb g c : Nat) (l : List (Int × Int)) (nm : List (ByteArray × Nat)) (n : ByteArray) (w : World) (h : FD w s mb g l nm) (h1 : 1 ≤ n.size) (hn : n.size ≤ 60) :
    Calls Tryz.prog 69 #[.string n, .agg #[.string s, .slice (some ⟨g, 0, none⟩) l.length c, .map (some mb)]] w fun e w' => e = .returned (.string (standM s l nm n)) ∧ Ex [] w w' :=
  standsFor_any s mb g c l nm n w h.mp h.nk h.nu h.nv h1 hn h.gl h.cell h.ll (by have := h.sl; omega) h.ok

set_option maxHeartbeats 4000000 in
set_option maxRecDepth 100000 in
theorem first_any (s : ByteArray) (mb g c : Nat) (l : List (Int × Int)) (nm : List (ByteArray × Nat)) (t : ByteArray) (w : World) (hd : FD w s mb g l nm) (h1 : 1 ≤ t.size) (ht : t.size ≤ 60) :
    Calls Tryz.prog 41 #[.string t, .agg #[.string s, .slice (some ⟨g, 0, none⟩) l.length c, .map (some mb)]] w fun e w' => e = .returned (.tuple #[.string (firstM (standM s l nm) t).1, .int .i64 ((firstM (standM s l nm) t).2 : Nat)]) ∧ Ex [] w w' := by
  have hp : 0 < t.size := h1
  have hh := head_list hp
  obtain ⟨R, hR⟩ : ∃ R, R = (firstM (standM s l nm) t).1 := ⟨_, rfl⟩
  obtain ⟨N, hN⟩ : ∃ N, N = (firstM (standM s l nm) t).2 := ⟨_, rfl⟩
  rw [← hR, ← hN]
  have KSS := hide (fun (n : ByteArray) (W : World) (hx : Ex [] w W) (h1 : 1 ≤ n.size) (hn : n.size ≤ 60) => stands_fd s mb g c l nm n W (hd.ex hx) h1 hn)
  have hxW : Ex [] w (w.alloc (Obj.cells #[.string s, .slice (some ⟨g, 0, none⟩) l.length c, .map (some mb)] 55)) := (Ex.refl _ _).alloc _
  have hbW : BK (w.alloc (Obj.cells #[.string s, .slice (some ⟨g, 0, none⟩) l.length c, .map (some mb)] 55)) w.heap.size (.cells #[.string s, .slice (some ⟨g, 0, none⟩) l.length c, .map (some mb)] 55 (0, 0)) := BK.new _ _
  obtain ⟨m, hm2⟩ : ∃ m, m = l.length := ⟨_, rfl⟩
  rw [← hm2] at KSS hbW hxW ⊢
  have HXW := hide hxW
  have HBW := hide hbW
  have HR := hide hR
  have HN := hide hN
  clear hm2 hxW hbW hR hN hd
  by_cases h36 : ((t[0]'hp).toNat : Int) = 36
  rotate_left
  · have hne : t.data.toList.headD 0 ≠ 36 := by rw [hh]; intro e; apply h36; rw [e]; rfl
    obtain ⟨p1, p2⟩ := plain_bound t h1 hne
    obtain ⟨k, hk⟩ : ∃ k : Nat, plainI t = k := ⟨(plainI t).toNat, by omega⟩
    have hr : R = t.extract 0 k := by rw [HR.out]; unfold firstM; rw [if_pos hne, hk]; rfl
    have hn : N = k := by rw [HN.out]; unfold firstM; rw [if_pos hne, hk]; rfl
    have KP := hide (fun W => plainSize_any t W (by omega))
    rw [hk] at KP p1 p2
    have HRR := hide hr
    subst hn
    clear hr hk hh hne
    have hk2 : N ≤ t.size := by omega
    clear p1
    go_enter Tryz.func41, Tryz.ntmps41
    go_wp2_with fail
    refine (KP.out _).mono ?_
    rintro e w1 ⟨rfl, rfl⟩
    go_wp2_with fail
    go_ret2
    exact ⟨by rw [HRR.out]; rfl, HXW.out⟩
  have heq : ¬ t.data.toList.headD 0 ≠ 36 := by rw [hh]; intro e; apply e; exact UInt8.toNat_inj.1 (by simpa using (show (t[0]'hp).toNat = 36 by omega))
  have KH := hide (fun w' => Tryz.strings_HasPrefix t ⟨#[36, 36]⟩ w')
  obtain ⟨B, hB⟩ : ∃ B, B = Lib.hasPrefix t.data.toList [36, 36] := ⟨_, rfl⟩
  rw [show Lib.hasPrefix t.data.toList (⟨#[36, 36]⟩ : ByteArray).data.toList = B from hB.symm] at KH
  have hzx := size_ext1 t 1
  have KR := hide (fun w' => runSize_any (t.extract 1 t.size) w' (by omega))
  have KB := hide (fun w' => bracedSize_any (t.extract 1 t.size) w' (by omega))
  have hle := runN_le (t.extract 1 t.size)
  have hbe := braced_le (t.extract 1 t.size)
  have hr : R = (if B then (⟨#[36]⟩, 2) else if 0 < runN (t.extract 1 t.size) then (standM s l nm (t.extract 1 (1 + runN (t.extract 1 t.size))), 1 + runN (t.extract 1 t.size)) else if 0 < bracedN (t.extract 1 t.size) then (standM s l nm (t.extract 2 (2 + bracedN (t.extract 1 t.size))), bracedN (t.extract 1 t.size) + 3) else (⟨#[36]⟩, 1) : ByteArray × Nat).1 := by
    rw [HR.out]; unfold firstM; rw [if_neg heq, hB]
  have hn : N = (if B then (⟨#[36]⟩, 2) else if 0 < runN (t.extract 1 t.size) then (standM s l nm (t.extract 1 (1 + runN (t.extract 1 t.size))), 1 + runN (t.extract 1 t.size)) else if 0 < bracedN (t.extract 1 t.size) then (standM s l nm (t.extract 2 (2 + bracedN (t.extract 1 t.size))), bracedN (t.extract 1 t.size) + 3) else (⟨#[36]⟩, 1) : ByteArray × Nat).2 := by
    rw [HN.out]; unfold firstM; rw [if_neg heq, hB]
  obtain ⟨n, hnn⟩ : ∃ n, n = runN (t.extract 1 t.size) := ⟨_, rfl⟩
  obtain ⟨b, hbb⟩ : ∃ b, b = bracedN (t.extract 1 t.size) := ⟨_, rfl⟩
  rw [← hnn] at KR hle hr hn
  rw [← hbb] at KB hbe hr hn
  rw [hzx] at hle hbe
  have HH := hide hh
  clear HR HN hnn hbb hB heq hzx hh
  have HRR := hide hr
  have HNN := hide hn
  clear hr hn
  cases B with
  | true =>
    obtain rfl : R = ⟨#[36]⟩ := HRR.out
    obtain rfl : N = 2 := HNN.out
    clear hbe
    go_enter Tryz.func41, Tryz.ntmps41
    go_wp2_with fail
    refine (KH.out _).mono ?_
    rintro e w1 ⟨rfl, rfl⟩
    go_wp2_with fail
    go_ret2
    exact ⟨rfl, HXW.out⟩
  | false =>
    by_cases hn0 : 0 < n
    · have hn1 : n + 1 ≤ t.size := by omega
      have hr : R = standM s l nm (t.extract 1 (1 + n)) := by rw [HRR.out]; simp [hn0]
      obtain rfl : N = 1 + n := by rw [HNN.out]; simp [hn0]
      have hz : (t.extract 1 (1 + n)).size = n := by rw [Go.Proofs.YtcbiidoebpkifaaGreatDoor.G.size_extract t 1 (1 + n) (by omega)]; omega
      have KS := hide (fun W hx => KSS.out (t.extract 1 (1 + n)) W hx (by omega) (by omega))
      rw [← hr] at KS
      have hi1 : (1 : Int) + (n : Int) ≤ (t.size : Int) := by omega
      have hi2 : (1 : Int) ≤ (1 : Int) + (n : Int) := by omega
      have hi3 : (0 : Int) < (n : Int) := by omega
      have hi4 : IntKind.i64.wrap ((1 : Int) + (n : Int)) = (1 : Int) + (n : Int) := by rw [IntKind.wrap_i64]; omega
      clear hbe hr hz hle KSS HRR HNN
      go_enter Tryz.func41, Tryz.ntmps41
      go_wp2_with fail
      refine (KH.out _).mono ?_
      rintro e w1 ⟨rfl, rfl⟩
      go_wp2_with fail
      refine (KR.out _).mono ?_
      rintro e w1 ⟨rfl, rfl⟩
      have hcw := HBW.out.all.1
      have hlw := HBW.out.lt
      go_wp2_with fail
      go_region_held3 (fun w' => ∀ o, w'.cell? ⟨w.heap.size, o, none⟩ = #[Value.string s, .slice (some ⟨g, 0, none⟩) m c, .map (some mb)][o]?)
        (first | exact q6 | exact hcw)
        (first
          | (go_at_call 69; refine (show Calls _ _ _ _ _ from KS.out _ (HXW.out.drew)).mono ?_; rintro x w6 ⟨rfl, hx6⟩; have q6 := (HBW.out.drew.ex hx6 (by simp)).all.1))
      have hy6 : Ex [] w w6 := HXW.out.drew.trans hx6
      clear hx6 q6 hcw
      go_wp2_with fail
      go_ret2
      exact ⟨rfl, hy6⟩
    · obtain rfl : n = 0 := by omega
      by_cases hb0 : 0 < b
      · have hb1 : b + 3 ≤ t.size := by have := hbe hb0; omega
        have hr : R = standM s l nm (t.extract 2 (2 + b)) := by rw [HRR.out]; simp [hb0]
        obtain rfl : N = b + 3 := by rw [HNN.out]; simp [hb0]
        have hz : (t.extract 2 (2 + b)).size = b := by rw [Go.Proofs.YtcbiidoebpkifaaGreatDoor.G.size_extract t 2 (2 + b) (by omega)]; omega
        have KS := hide (fun W hx => KSS.out (t.extract 2 (2 + b)) W hx (by omega) (by omega))
        rw [← hr] at KS
        have hi1 : (2 : Int) + (b : Int) ≤ (t.size : Int) := by omega
        have hi2 : (2 : Int) ≤ (2 : Int) + (b : Int) := by omega
        have hi3 : (0 : Int) < (b : Int) := by omega
        have hi4 : IntKind.i64.wrap ((2 : Int) + (b : Int)) = (2 : Int) + (b : Int) := by rw [IntKind.wrap_i64]; omega
        have hi5 : IntKind.i64.wrap ((b : Int) + 3) = (b : Int) + 3 := by rw [IntKind.wrap_i64]; omega
        clear hbe hr hz hle KSS HRR HNN
        go_enter Tryz.func41, Tryz.ntmps41
        go_wp2_with fail
        refine (KH.out _).mono ?_
        rintro e w1 ⟨rfl, rfl⟩
        go_wp2_with fail
        refine (KR.out _).mono ?_
        rintro e w1 ⟨rfl, rfl⟩
        go_wp2_with fail
        refine (KB.out _).mono ?_
        rintro e w1 ⟨rfl, rfl⟩
        have hcw := HBW.out.all.1
        have hlw := HBW.out.lt
        go_wp2_with fail
        go_region_held3 (fun w' => ∀ o, w'.cell? ⟨w.heap.size, o, none⟩ = #[Value.string s, .slice (some ⟨g, 0, none⟩) m c, .map (some mb)][o]?)
          (first | exact q6 | exact hcw)
          (first
            | (go_at_call 69; refine (show Calls _ _ _ _ _ from KS.out _ (HXW.out.drew)).mono ?_; rintro x w6 ⟨rfl, hx6⟩; have q6 := (HBW.out.drew.ex hx6 (by simp)).all.1))
        have hy6 : Ex [] w w6 := HXW.out.drew.trans hx6
        clear hx6 q6 hcw
        go_wp2_with fail
        go_ret2
        exact ⟨rfl, hy6⟩
      · obtain rfl : b = 0 := by omega
        obtain rfl : R = ⟨#[36]⟩ := HRR.out
        obtain rfl : N = 1 := HNN.out
        clear hbe
        go_enter Tryz.func41, Tryz.ntmps41
        go_wp2_with fail
        refine (KH.out _).mono ?_
        rintro e w1 ⟨rfl, rfl⟩
        go_wp2_with fail
        refine (KR.out _).mono ?_
        rintro e w1 ⟨rfl, rfl⟩
        go_wp2_with fail
        refine (KB.out _).mono ?_
        rintro e w1 ⟨rfl, rfl⟩
        go_wp2_with fail
        go_ret2
        exact ⟨rfl, HXW.out⟩
end Go.Proofs.YtcbiidoebpkifaaGreatDoor.G

/- Package expand: a template, built. -/
namespace Go.Proofs.YtcbiidoebpkifaaGreatDoor.G
open Go.RowKit

def tempM (F : ByteArray → ByteArray) : Nat → ByteArray → List UInt8
  | 0, _ => []
  | f + 1, t => if t.size = 0 then [] else (firstM F t).1.data.toList ++ tempM F f (t.extract (firstM F t).2 t.size)
def tplM (F : ByteArray → ByteArray) (t : ByteArray) : ByteArray := ⟨(tempM F t.size t).toArray⟩
theorem temp_empty (F : ByteArray → ByteArray) (f : Nat) (t : ByteArray) (h : t.size = 0) : tempM F f t = [] := by
  cases f with
  | zero => rfl
  | succ f => simp [tempM, h]
theorem num_size (s : ByteArray) (l : List (Int × Int)) (k : Int) : (numM s l k).size ≤ s.size := by
  have h0 : (⟨#[]⟩ : ByteArray).size ≤ s.size := Nat.zero_le _
  unfold numM
  split
  · exact h0
  · split
    · split
      · exact h0
      · rw [Lib.size_eq, Lib.extract_data, List.length_take, List.length_drop, ← Lib.size_eq]; omega
    · exact h0
theorem stand_size (s : ByteArray) (l : List (Int × Int)) (nm : List (ByteArray × Nat)) (n : ByteArray) : (standM s l nm n).size ≤ s.size := by
  unfold standM namedM
  repeat' split
  all_goals first | exact num_size _ _ _ | exact Nat.zero_le _
theorem first_len (F : ByteArray → ByteArray) (t : ByteArray) (h1 : 1 ≤ t.size) : 1 ≤ (firstM F t).2 ∧ (firstM F t).2 ≤ t.size := by
  have hzx := size_ext1 t 1
  have hle := runN_le (t.extract 1 t.size)
  have hbe := braced_le (t.extract 1 t.size)
  unfold firstM
  split
  · next h =>
    have := plain_bound t h1 h
    dsimp only
    omega
  · split
    · next h =>
      have h2 : 2 ≤ t.size := by
        rw [← len_list]
        unfold Lib.hasPrefix at h
        exact (List.isPrefixOf_iff_prefix.1 h).length_le
      dsimp only
      omega
    · split
      · dsimp only; omega
      · split
        · next h => have := hbe h; dsimp only; omega
        · dsimp only; omega
theorem first_size (F : ByteArray → ByteArray) (t : ByteArray) (M : Nat) (hF : ∀ n, (F n).size ≤ M) (hM : t.size ≤ M) (h1 : 1 ≤ M) : (firstM F t).1.size ≤ M := by
  have h36 : (⟨#[36]⟩ : ByteArray).size = 1 := rfl
  unfold firstM
  repeat' split
  all_goals dsimp only
  · rw [Lib.size_eq, Lib.extract_data, List.length_take, List.length_drop, ← Lib.size_eq]; omega
  · omega
  · exact hF _
  · exact hF _
  · omega
theorem isb_ex {T e : TypeId} {B b : Nat} {bs : List Value} {w w' : World} (h : Lib.IsBuilderF T e B b bs w) (hx : Ex [] w w') : Lib.IsBuilderF T e B b bs w' := by
  have key : ∀ p, Lib.BuilderAtF T e B b p bs w → Lib.BuilderAtF T e B b p bs w' := by
    rintro p ⟨hB, v, hb, hown, hne⟩
    refine ⟨hB, v, (hx.block b (Array.getElem?_eq_some_iff.1 hb).1 (by simp)).trans hb, ⟨hown.1, ?_⟩, hne⟩
    rcases hown.2 with hn | ⟨g, cap, cur, fz, rfl, hb', hgg, rest⟩
    · exact .inl hn
    · exact .inr ⟨g, cap, cur, fz, rfl, hb', (hx.block g (Array.getElem?_eq_some_iff.1 hgg).1 (by simp)).trans hgg, rest⟩
  exact h.elim (fun h => .inl (key _ h)) (fun h => .inr (key _ h))
theorem _root_.Go.Proofs.YtcbiidoebpkifaaGreatDoor.Ex.trans2 {a w w' : World} (h : Ex [] a w) (hb : Below a.heap.size w w') : Ex [] a w' :=
  ⟨hb.os.trans h.os, hb.tape.trans h.tape, hb.output.trans h.output, Nat.le_trans h.size hb.size, fun k hk hn => (hb.block k hk).trans (h.block k hk hn)⟩
theorem writeString_k (B b : Nat) (bs : List Value) (s : ByteArray) (w : World) (h : Lib.IsBuilderF 121 5 B b bs w) (hlen : bs.length + s.size ≤ 140737488355328) (hBw : B ≤ w.heap.size) :
    Calls Tryz.prog 42 #[.pointer (some ⟨b, 0, none⟩), .string s] w fun e w' => e = .returned (.tuple #[.int .i64 s.size, .nilIface]) ∧ (Lib.BuilderAtF 121 5 B b (.pointer (some ⟨b, 0, none⟩)) (bs ++ Lib.strCells s) w' ∧ Below B w w' ∧ Lib.OthersKept 5 (some b) w w') :=
  Any.Builder_WriteString_k { Tryz.lays156 with } Tryz.Builder_Extra_156 B b bs s w h hlen hBw

set_option maxHeartbeats 4000000 in
set_option maxRecDepth 100000 in
theorem template_any (s : ByteArray) (mb g c : Nat) (l : List (Int × Int)) (nm : List (ByteArray × Nat)) (t : ByteArray) (w : World) (hd : FD w s mb g l nm) (ht : t.size ≤ 60) :
    Calls Tryz.prog 19 #[.string t, .agg #[.string s, .slice (some ⟨g, 0, none⟩) l.length c, .map (some mb)]] w fun e w' => e = .returned (.string (tplM (standM s l nm) t)) ∧ Ex [] w w' := by
  have KF := hide (fun (r : ByteArray) (W : World) (hx : Ex [] w W) (h1 : 1 ≤ r.size) (hr : r.size ≤ 60) => first_any s mb g c l nm r W (hd.ex hx) h1 hr)
  have hFs := fun r : ByteArray => fun hr : r.size ≤ 60 => first_size (standM s l nm) r 100000100 (fun n => by have := stand_size s l nm n; have := hd.sl; omega) (by omega) (by omega)
  obtain ⟨F, hF⟩ : ∃ F, F = standM s l nm := ⟨_, rfl⟩
  rw [← hF] at KF hFs ⊢
  obtain ⟨m, hm2⟩ : ∃ m, m = l.length := ⟨_, rfl⟩
  rw [← hm2] at KF ⊢
  have HFS := hide hFs
  obtain ⟨R, hR⟩ : ∃ R, R = tplM F t := ⟨_, rfl⟩
  rw [← hR]
  have HR := hide hR
  clear hd hF hm2 hFs hR
  obtain ⟨W1, hW1⟩ : ∃ W, W = w.alloc (Obj.cells #[.string s, .slice (some ⟨g, 0, none⟩) m c, .map (some mb)] 55) := ⟨_, rfl⟩
  have hx1 : Ex [] w W1 := by rw [hW1]; exact (Ex.refl _ _).alloc _
  have hb1 : BK W1 w.heap.size (.cells #[.string s, .slice (some ⟨g, 0, none⟩) m c, .map (some mb)] 55 (0, 0)) := by rw [hW1]; exact BK.new _ _
  have hs1 : W1.heap.size = w.heap.size + 1 := by rw [hW1]; simp
  have HX1 := hide hx1
  have HB1 := hide hb1
  have HS1 := hide hs1
  have HW1 := hide hW1
  clear hx1 hb1 hs1
  obtain ⟨n, hn⟩ : ∃ n, n = t.size := ⟨_, rfl⟩
  have HT := hide ht
  have HN := hide hn
  clear ht hn
  go_enter Tryz.func19, Tryz.ntmps19
  go_wp2_with fail
  rw [← HW1.out]
  clear hW1 HW1
  go_loopg [6] n (fun gk r6 wr => ∃ (r : ByteArray) (o : List UInt8), r6 = .string r ∧ r.size ≤ gk ∧ r.size ≤ 60 ∧ o ++ tempM F gk r = R.data.toList ∧ o.length + r.size * 100000100 ≤ 60 * 100000100 ∧ Lib.IsBuilderF 121 5 (w.heap.size + 1) (w.heap.size + 1) (Lib.byteCells o) wr ∧ Ex [] W1 wr)
  case atStart => exact ⟨t, [], rfl, by rw [HN.out]; exact Nat.le_refl _, HT.out, by rw [HR.out, HN.out]; simp [tplM], by have := HT.out; simp; omega, .inl ⟨Nat.le_refl _, _, by have h := BK.new W1 (.cells #[.pointer none, .slice none 0 0] 121); rw [HS1.out] at h; exact h, World.ownsRowF_nil _ _ _ _, by simp [Value.ownBlock]⟩, (Ex.refl _ _).alloc _⟩
  case round =>
    obtain ⟨r, o, rfl, hrg, hr60, hro, hol, hbd, hx⟩ := hrel
    have HRO := hide hro
    have HBD := hide hbd
    have HX := hide hx
    have hzz : w.heap.size + 1 ≤ wr.heap.size := by have := hx.size; have := HS1.out; omega
    clear hro hbd hx
    by_cases h0 : r.size = 0
    · obtain rfl : r = ⟨#[]⟩ := by apply ByteArray.ext; exact Array.eq_empty_of_size_eq_zero h0
      have KS := hide (fun W h1 h2 => Tryz.Builder_String_any_k (w.heap.size + 1) (w.heap.size + 1) o W h1 h2)
      have hres : (⟨o.toArray⟩ : ByteArray) = R := by
        have := HRO.out
        rw [temp_empty _ _ _ h0, List.append_nil] at this
        apply ByteArray.ext
        show o.toArray = R.data
        rw [this, Array.toArray_toList]
      rw [hres] at KS
      clear hres h0 hol hrg hr60
      go_wp2_with fail
      refine (KS.out _ HBD.out hzz).mono ?_
      rintro e w3 ⟨rfl, _, hbl, _⟩
      have hx3 : Ex [] W1 w3 := HX.out.trans2 (by rw [HS1.out]; exact hbl)
      have HX3 := hide (HX1.out.trans hx3)
      clear hx3 hbl
      go_wp2_with fail
      go_ret
      exact ⟨rfl, HX3.out⟩
    · have hem := nonempty_list h0
      have hpos : 1 ≤ r.size := by omega
      cases gk with
      | zero => exfalso; omega
      | succ gk =>
        obtain ⟨f1, f2⟩ := first_len F r hpos
        have f3 := HFS.out r hr60
        have K1 := hide (fun W hx => KF.out r W hx hpos hr60)
        have hstep : o ++ ((firstM F r).1.data.toList ++ tempM F gk (r.extract (firstM F r).2 r.size)) = R.data.toList := by
          have := HRO.out
          unfold tempM at this
          rw [if_neg h0] at this
          exact this
        obtain ⟨x, hx⟩ : ∃ x, x = (firstM F r).1 := ⟨_, rfl⟩
        obtain ⟨k, hk⟩ : ∃ k, k = (firstM F r).2 := ⟨_, rfl⟩
        rw [← hx, ← hk] at K1 hstep
        rw [← hk] at f1 f2
        rw [← hx] at f3
        have HST := hide hstep
        have hcr := (HB1.out.ex HX.out (by simp)).all.1
        have hlr := (HB1.out.ex HX.out (by simp)).lt
        have hkk : (k : Int) ≤ (r.size : Int) := by omega
        clear hx hk hstep HRO h0
        go_wp2_with fail
        refine (K1.out _ (HX1.out.trans HX.out)).mono ?_
        rintro e w3 ⟨rfl, hx3⟩
        have HX3 := hide (HX.out.trans hx3)
        have HBD3 := hide (isb_ex HBD.out hx3)
        have hz3 : w.heap.size + 1 ≤ w3.heap.size := by have := HX3.out.size; have := HS1.out; omega
        clear hx3 hcr
        go_wp2_with fail
        refine (writeString_k (w.heap.size + 1) (w.heap.size + 1) (Lib.byteCells o) x _ HBD3.out (by rw [Lib.byteCells_length]; omega) hz3).mono ?_
        rintro e w4 ⟨rfl, hat, hbl, _⟩
        have HX4 : Hid (Ex [] W1 w4) := HX3.out.trans2 (by rw [HS1.out]; exact hbl)
        have HBD4 : Hid (Lib.IsBuilderF 121 5 (w.heap.size + 1) (w.heap.size + 1) (Lib.byteCells (o ++ x.data.toList)) w4) := .inr (by
          have : Lib.byteCells (o ++ x.data.toList) = Lib.byteCells o ++ Lib.strCells x := by simp [Lib.byteCells, Lib.strCells]
          rw [this]; exact hat)
        clear hat hbl
        go_wp2_with fail
        have hse := Go.Proofs.YtcbiidoebpkifaaGreatDoor.G.size_extract r k r.size (Nat.le_refl _)
        go_roundg gk
        case measure => omega
        case rel => exact ⟨r.extract k r.size, o ++ x.data.toList, rfl, by omega, by omega, by rw [List.append_assoc]; exact HST.out, by rw [List.length_append, len_list, hse]; omega, HBD4.out, HX4.out⟩
end Go.Proofs.YtcbiidoebpkifaaGreatDoor.G

/- What a group stands for lies within the text, and ends no earlier than it begins. -/
namespace Go.Proofs.YtcbiidoebpkifaaGreatDoor.G

def clsB (code : List Ins) (k pc : Nat) : Bool := (code.take pc).countP (fun i => i.op == 3 && i.sl == ((2 * k : Nat) : Int)) == (code.take pc).countP (fun i => i.op == 3 && i.sl == ((2 * k + 1 : Nat) : Int))
def wayC (code : List Ins) (src : Nat → Bool) (y : Nat × Int) : Bool := (List.range 5).all fun k => !clsB code k y.1 || bitAt y.2 (2 * k + 1) || (!bitAt y.2 (2 * k) && src k)
def spanB (code : List Ins) : Bool := (waysM code (0, 0)).all (wayC code fun _ => true) && (List.range code.length).all fun pc => match code[pc]? with
  | none => true
  | some i => (i.op != 0 || (waysM code (pc + 1, 1)).all (wayC code fun k => clsB code k pc)) && (i.op != 6 || (List.range 5).all fun k => clsB code k pc)

def shutN (sl : List Int) (k : Nat) : Prop := sl.getD (2 * k) 0 < 0 ∨ sl.getD (2 * k) 0 ≤ sl.getD (2 * k + 1) 0
structure TI (code : List Ins) (pl : Int) (t : Th) : Prop where
  len : t.sl.length = 10
  bnd : ∀ z ∈ t.sl, -1 ≤ z ∧ z ≤ pl
  shut : ∀ k, k < 5 → clsB code k t.pc = true → shutN t.sl k
theorem TI.up {code : List Ins} {pl pl' : Int} {t : Th} (h : TI code pl t) (hp : pl ≤ pl') : TI code pl' t := ⟨h.len, fun z hz => ⟨(h.bnd z hz).1, by have := (h.bnd z hz).2; omega⟩, h.shut⟩
theorem markN_at (b pl : Int) (sl : List Int) : ∀ (n i : Nat), i < sl.length → (markN b pl n sl)[i]? = if i < n ∧ bitAt b i = true then some pl else sl[i]?
  | 0, i, hi => by simp [markN]
  | n + 1, i, hi => by
    have ih := markN_at b pl sl n i hi
    unfold markN
    by_cases hb : bitAt b n = true
    · rw [if_pos hb]
      by_cases hin : n = i
      · subst hin
        rw [List.getElem?_set_self (by rw [markN_len]; exact hi), if_pos ⟨by omega, hb⟩]
      · rw [List.getElem?_set_ne hin, ih]
        by_cases h : i < n ∧ bitAt b i = true
        · rw [if_pos h, if_pos ⟨by omega, h.2⟩]
        · rw [if_neg h, if_neg (fun e => h ⟨by omega, e.2⟩)]
    · rw [if_neg hb, ih]
      by_cases h : i < n ∧ bitAt b i = true
      · rw [if_pos h, if_pos ⟨by omega, h.2⟩]
      · rw [if_neg h, if_neg (fun e => h ⟨by
          have : i ≠ n := fun e2 => hb (e2 ▸ e.2)
          omega, e.2⟩)]
theorem markM_get (b pl : Int) (sl : List Int) (hl : sl.length = 10) (i : Nat) (hi : i < 10) : (markM b pl sl).getD i 0 = if bitAt b i = true then pl else sl.getD i 0 := by
  have h := markN_at b pl sl 10 i (by omega)
  unfold markM
  rw [List.getD_eq_getElem?_getD, h]
  by_cases hb : bitAt b i = true
  · rw [if_pos ⟨hi, hb⟩, if_pos hb]; rfl
  · rw [if_neg (fun e => hb e.2), if_neg hb, List.getD_eq_getElem?_getD]
theorem get_mem (sl : List Int) (i : Nat) (hi : i < sl.length) : sl.getD i 0 ∈ sl := by
  rw [List.getD_eq_getElem?_getD, List.getElem?_eq_getElem hi]
  exact List.getElem_mem hi
theorem mark_ti {code : List Ins} {pl : Int} {sl : List Int} {src : Nat → Bool} {y : Nat × Int} (h0 : 0 ≤ pl) (hl : sl.length = 10) (hz : ∀ z ∈ sl, -1 ≤ z ∧ z ≤ pl) (hs : ∀ k, k < 5 → src k = true → shutN sl k) (hw : wayC code src y = true) : TI code pl ⟨y.1, markM y.2 pl sl⟩ := by
  refine ⟨by rw [markM_len]; exact hl, fun z hm => ?_, fun k hk hc => ?_⟩
  · obtain ⟨i, hi, rfl⟩ := List.getElem_of_mem hm
    have hi' : i < 10 := by rw [markM_len, hl] at hi; exact hi
    have h := markM_get y.2 pl sl hl i hi'
    have e : (markM y.2 pl sl).getD i 0 = (markM y.2 pl sl)[i] := by rw [List.getD_eq_getElem?_getD, List.getElem?_eq_getElem hi]; rfl
    rw [← e, h]
    split
    · omega
    · exact hz _ (get_mem sl i (by omega))
  · have h1 := List.all_eq_true.1 hw k (List.mem_range.2 hk)
    dsimp only at hc
    rw [hc] at h1
    unfold shutN
    rw [markM_get _ _ _ hl _ (by omega), markM_get _ _ _ hl _ (by omega)]
    have b1 := hz _ (get_mem sl (2 * k) (by omega))
    have b2 := hz _ (get_mem sl (2 * k + 1) (by omega))
    by_cases hb : bitAt y.2 (2 * k + 1) = true
    · rw [if_pos hb]
      split
      · exact .inr (Int.le_refl _)
      · exact .inr b1.2
    · rw [if_neg hb]
      simp only [Bool.not_true, Bool.false_or, Bool.or_eq_true, Bool.and_eq_true, Bool.not_eq_true'] at h1
      rcases h1 with h1 | ⟨h1, h2⟩
      · exact absurd h1 hb
      · rw [if_neg (by rw [h1]; simp)]
        exact hs k hk h2
theorem follow_ti {code : List Ins} {pl : Int} {sl : List Int} {src : Nat → Bool} (h0 : 0 ≤ pl) (hl : sl.length = 10) (hz : ∀ z ∈ sl, -1 ≤ z ∧ z ≤ pl) (hs : ∀ k, k < 5 → src k = true → shutN sl k) : ∀ (ws : List (Nat × Int)) (s : List Th × List Int), ws.all (wayC code src) = true → (∀ t ∈ s.1, TI code pl t) → ∀ t ∈ (followM sl pl (wys ws) s).1, TI code pl t
  | [], s, _, hi => hi
  | y :: ws, s, hw, hi => by
    rw [List.all_cons, Bool.and_eq_true] at hw
    have e : wys (y :: ws) = ⟨y.1, y.2⟩ :: wys ws := rfl
    rw [e]
    unfold followM
    split
    · exact follow_ti h0 hl hz hs ws s hw.2 hi
    · refine follow_ti h0 hl hz hs ws _ hw.2 (fun t ht => ?_)
      rcases List.mem_append.1 ht with ht | ht
      · exact hi t ht
      · simp at ht; subst ht; exact mark_ti h0 hl hz hs hw.1
theorem step_ti {code : List Ins} (hB : spanB code = true) {r pl pl0 : Int} (h0 : 0 ≤ pl) (hp : pl0 ≤ pl) : ∀ (ts : List Th) (s : List Th × List Int), (∀ t ∈ ts, TI code pl0 t) → (∀ t ∈ s.1, TI code pl t) → ∀ t ∈ (stepL code r pl ts s).1, TI code pl t
  | [], s, _, hi => hi
  | t :: ts, s, ht, hi => by
    have ih : ∀ s, (∀ t ∈ s.1, TI code pl t) → ∀ t ∈ (stepL code r pl ts s).1, TI code pl t := fun s => step_ti hB h0 hp ts s (fun x hx => ht x (List.mem_cons_of_mem _ hx))
    have h1 := (ht t (List.mem_cons_self ..)).up hp
    unfold stepL
    split
    · next i hic =>
      split
      · next htk =>
        refine ih _ (follow_ti h0 h1.len h1.bnd h1.shut _ s ?_ hi)
        have hpc : t.pc < code.length := (List.getElem?_eq_some_iff.1 hic).1
        unfold spanB at hB
        rw [Bool.and_eq_true] at hB
        have h2 := List.all_eq_true.1 hB.2 t.pc (List.mem_range.2 hpc)
        rw [hic] at h2
        simp only [Bool.and_eq_true, Bool.or_eq_true] at h2
        unfold Ins.takes at htk
        rw [Bool.and_eq_true] at htk
        rcases h2.1 with h3 | h3
        · have e0 : i.op = 0 := by simpa using htk.1
          rw [e0] at h3; simp at h3
        · exact h3
      · exact ih s hi
    · exact ih s hi
theorem accept_ti {code : List Ins} (hB : spanB code = true) {pl : Int} : ∀ (ts : List Th), (∀ t ∈ ts, TI code pl t) → ∀ sl, acceptM code ts = some sl → sl.length = 10 ∧ (∀ z ∈ sl, -1 ≤ z ∧ z ≤ pl) ∧ ∀ k, k < 5 → shutN sl k
  | [], _, sl, h => by cases h
  | t :: ts, ht, sl, h => by
    unfold acceptM at h
    split at h
    · next h6 =>
      cases h
      have h1 := ht t (List.mem_cons_self ..)
      refine ⟨h1.len, h1.bnd, fun k hk => h1.shut k hk ?_⟩
      cases hic : code[t.pc]? with
      | none => rw [hic] at h6; cases h6
      | some i =>
        rw [hic] at h6
        have e6 : i.op = 6 := by simpa using h6
        have hpc : t.pc < code.length := (List.getElem?_eq_some_iff.1 hic).1
        unfold spanB at hB
        rw [Bool.and_eq_true] at hB
        have h2 := List.all_eq_true.1 hB.2 t.pc (List.mem_range.2 hpc)
        rw [hic] at h2
        simp only [Bool.and_eq_true, Bool.or_eq_true] at h2
        rcases h2.2 with h3 | h3
        · rw [e6] at h3; simp at h3
        · exact List.all_eq_true.1 h3 k (List.mem_range.2 hk)
    · exact accept_ti hB ts (fun x hx => ht x (List.mem_cons_of_mem _ hx)) sl h
theorem run_ti {code : List Ins} (hB : spanB code = true) (s : ByteArray) : ∀ (f a : Nat) (st : List Th × List Int), a ≤ s.size → (∀ t ∈ st.1, TI code (a : Int) t) → ∀ sl, runM code s f a st = some sl → sl.length = 10 ∧ (∀ z ∈ sl, -1 ≤ z ∧ z ≤ (s.size : Int)) ∧ ∀ k, k < 5 → shutN sl k
  | 0, a, st, ha, ht, sl, h => accept_ti hB st.1 (fun t hm => (ht t hm).up (by omega)) sl h
  | f + 1, a, st, ha, ht, sl, h => by
    unfold runM at h
    split at h
    · next hlt =>
      split at h
      · cases h
      · have hr := rs_all s a hlt
        exact run_ti hB s f _ _ hr.2 (step_ti hB (by omega) (by omega) st.1 _ ht (by simp)) sl h
    · exact accept_ti hB st.1 (fun t hm => (ht t hm).up (by omega)) sl h
theorem match_ti {code : List Ins} (hB : spanB code = true) (s : ByteArray) (sl : List Int) (h : matchM code s = some sl) : sl.length = 10 ∧ (∀ z ∈ sl, -1 ≤ z ∧ z ≤ (s.size : Int)) ∧ ∀ k, k < 5 → shutN sl k := by
  unfold matchM at h
  refine run_ti hB s _ 0 _ (by omega) (follow_ti (src := fun _ => true) (by simp) rfl (by decide) (fun k hk _ => ?_) _ _ ?_ (by simp)) sl h
  · have : k = 0 ∨ k = 1 ∨ k = 2 ∨ k = 3 ∨ k = 4 := by omega
    rcases this with rfl | rfl | rfl | rfl | rfl <;> exact .inl (by decide)
  · unfold spanB at hB
    rw [Bool.and_eq_true] at hB
    exact hB.1
theorem spans_in {code : List Ins} (hB : spanB code = true) (s : ByteArray) (sl : List Int) (h : matchM code s = some sl) (ng : Nat) (hg : ng ≤ 5) : ∀ y ∈ spansM s.size sl ng, y.1 < 0 ∨ (0 ≤ y.1 ∧ y.1 ≤ y.2 ∧ y.2 ≤ (s.size : Int)) := by
  obtain ⟨h1, h2, h3⟩ := match_ti hB s sl h
  intro y hy
  unfold spansM at hy
  rcases List.mem_cons.1 hy with rfl | hy
  · exact .inr ⟨by simp, by simp, by simp⟩
  · rw [List.mem_map] at hy
    obtain ⟨k, hk, rfl⟩ := hy
    have hk5 : k < 5 := by have := List.mem_range.1 hk; omega
    have b2 := h2 _ (get_mem sl (2 * k + 1) (by omega))
    have h4 := h3 k hk5
    unfold shutN at h4
    unfold spanAt
    dsimp only
    omega
end Go.Proofs.YtcbiidoebpkifaaGreatDoor.G
