import Derived.Test.YtfnanjbleifjkaaGreatDoorM06
set_option linter.unusedVariables false
set_option linter.unusedSimpArgs false
set_option maxHeartbeats 2000000
set_option maxRecDepth 100000
namespace Go.Proofs.YtfnanjbleifjkaaGreatDoor.G
variable {w : World} {mb r : Nat} {t : ByteArray} {x : EV} {s : RS}
open Go.RowKit
theorem dU (a b : Nat) (w : World) (hab : a <= b) (hb : b < 128) : Calls Tryz.prog 243 #[.int .u8 a, .int .u8 b] w fun e w' => e = .returned (ar (bU a b)) /\ Ex [] w w' := by
 obtain ⟨R, hR⟩ : ∃ R, bU a b = R := ⟨_, rfl⟩
 have HR : Hid (iW (b + 1 - a) a ⟨0, 0, false⟩ = R) := hR
 rw [hR]
 clear hR
 go_enter Tryz.func243, Tryz.ntmps243
 go_wp2_with fail
 go_loopg [6] (b + 1 - a) (fun gk l6 wr => ∃ (i : Nat) (c : Cls), i + gk = b + 1 /\ l6 = .int .u8 i /\ iW gk i c = R /\ BK wr w.heap.size (.cells #[.int .u64 0, .int .u64 0, .bool false] 99 (0, 0)) /\ BK wr (w.heap.size + 1) (.cells #[.int .u64 c.lo, .int .u64 c.hi, .bool c.hg] 99 (0, 0)) /\ Ex [] w wr)
 case atStart =>
  refine ⟨a, ⟨0, 0, false⟩, by omega, rfl, HR.O, (BK.new _ _).alloc _, ?_, ((Ex.refl _ _).alloc _).alloc _⟩
  have := BK.new (w.alloc (Obj.cells #[.int .u64 0, .int .u64 0, .bool false] 99)) (Obj.cells #[.int .u64 0, .int .u64 0, .bool false] 99)
  simpa using this
 case round =>
  obtain ⟨i, c, hi, rfl, hac, hb0, hb1, hx⟩ := hrel
  have HX := aa hx
  have HB0 := aa hb0
  have HB1 := aa hb1
  have HAC := aa hac
  have hl0 := hb0.lt
  have hl1 := hb1.lt
  obtain ⟨hc0, hf0⟩ := hb0.all
  obtain ⟨hc1, hf1⟩ := hb1.all
  clear hx hb0 hb1 hac
  cases gk with
  |zero =>
   have e1 : ¬ (i : Int) <= (b : Int) := by omega
   have HRC : Hid (c = R) := HAC.O
   go_wp2_with fail
   refine bodyPost_ret (v := ar c) (by simp [results, Tryz.results243, go_sem, ar, hc0, hl0]) rfl ⟨by rw [HRC.O], ?_⟩
   repeat (refine Ex.setCell ?_ (Or.inr (by simp)) _)
   exact HX.O
  |succ g =>
   have e1 : (i : Int) <= (b : Int) := by omega
   have hi128 : i < 128 := by omega
   have HAN : Hid (iW g (i + 1) (addB c i) = R) := HAC.O
   have hd : i / 64 = 0 \/ i / 64 = 1 := by omega
   obtain ⟨c1, c2, c3⟩ := c
   simp only at hc1 HB1 HAN
   rcases hd with hd | hd
   ·have HAB : Hid (addB ⟨c1, c2, c3⟩ i = ⟨bits BinOp.or IntKind.u64 c1 (eS i), c2, c3⟩) := by show addB ⟨c1, c2, c3⟩ i = _; unfold addB; rw [if_pos hd]
    obtain ⟨d, hdd⟩ : ∃ d, bits BinOp.or IntKind.u64 c1 (eS i) = d := ⟨_, rfl⟩
    unfold eS at hdd
    go_wp2_with fail
    go_roundg g
    case measure => omega
    case rel =>
     refine ⟨i + 1, ⟨d, c2, c3⟩, by omega, by simp, ?_, ?_, ?_, ?_⟩
     ·have h1 := HAN.O
      rw [HAB.O] at h1
      unfold eS at h1
      rw [hdd] at h1
      exact h1
     ·repeat (refine BK.set ?_ (by simp) _)
      exact HB0.O
     ·have h1 := HB1.O.self 0 (.int .u64 d)
      simpa using h1
     ·repeat (refine Ex.setCell ?_ (Or.inr (by simp)) _)
      exact HX.O
   ·have HAB : Hid (addB ⟨c1, c2, c3⟩ i = ⟨c1, bits BinOp.or IntKind.u64 c2 (eS i), c3⟩) := by show addB ⟨c1, c2, c3⟩ i = _; unfold addB; rw [if_neg (by omega)]
    obtain ⟨d, hdd⟩ : ∃ d, bits BinOp.or IntKind.u64 c2 (eS i) = d := ⟨_, rfl⟩
    unfold eS at hdd
    go_wp2_with fail
    go_roundg g
    case measure => omega
    case rel =>
     refine ⟨i + 1, ⟨c1, d, c3⟩, by omega, by simp, ?_, ?_, ?_, ?_⟩
     ·have h1 := HAN.O
      rw [HAB.O] at h1
      unfold eS at h1
      rw [hdd] at h1
      exact h1
     ·repeat (refine BK.set ?_ (by simp) _)
      exact HB0.O
     ·have h1 := HB1.O.self 1 (.int .u64 d)
      simpa using h1
     ·repeat (refine Ex.setCell ?_ (Or.inr (by simp)) _)
      exact HX.O
theorem eK (c : Cls) (w : World) :
  Calls Tryz.prog 265 #[ar c] w fun e w' => e = .returned (ar (bC c)) /\ Ex [] w w' := by
 obtain ⟨c1, c2, c3⟩ := c
 unfold bC ar
 simp only
 obtain ⟨d1, hd1⟩ : ∃ d, bits BinOp.xor IntKind.u64 IntKind.u64.max c1 = d := ⟨_, rfl⟩
 obtain ⟨d2, hd2⟩ : ∃ d, bits BinOp.xor IntKind.u64 IntKind.u64.max c2 = d := ⟨_, rfl⟩
 go_enter Tryz.func265, Tryz.ntmps265
 go_wp2
 refine bodyPost_ret (v := .agg #[.int .u64 d1, .int .u64 d2, .bool (!c3)]) (by simp [results, Tryz.results265, go_sem]) rfl ⟨rfl, ?_⟩
 repeat (first | exact Ex.refl _ _ | refine Ex.setCell ?_ (Or.inr (by simp)) _ | refine Ex.alloc ?_ _)
theorem ki (w : World) : Calls Tryz.prog 282 #[] w fun e w' => e = .returned (ar dD) /\ Ex [] w w' := by
 obtain ⟨c, hc⟩ : ∃ c, dD = c := ⟨_, rfl⟩
 have K := aa (fun w => dU 48 57 w (by omega) (by omega))
 rw [show bU 48 57 = c from hc] at K
 rw [hc]
 clear hc
 go_enter Tryz.func282, Tryz.ntmps282
 go_wp2_with fail
 refine (K.O _).mono ?_
 rintro e w1 ⟨rfl, hx⟩
 have X1 : Hid (Ex [] (w.alloc (Obj.cells #[.int .u64 0, .int .u64 0, .bool false] 99)) w1) := hx
 clear hx
 have hb := (BK.new w (Obj.cells #[.int .u64 0, .int .u64 0, .bool false] 99)).ex X1.O (by simp)
 obtain ⟨hc, hf⟩ := hb.all
 have hl := hb.lt
 clear hb
 unfold ar
 go_wp2_with fail
 refine bodyPost_ret (v := ar c) (by simp [results, Tryz.results282, go_sem, ar, hc]) rfl ⟨rfl, ?_⟩
 repeat (refine Ex.setCell ?_ (Or.inr (by simp)) _)
 exact ((Ex.refl _ _).alloc _).trans X1.O
theorem lI (w : World) : Calls Tryz.prog 239 #[] w fun e w' => e = .returned (ar nU) /\ Ex [] w w' := by
 obtain ⟨c, hc⟩ : ∃ c, nU = c := ⟨_, rfl⟩
 have K := aa (fun w => eK ⟨0, 0, false⟩ w)
 rw [show bC ⟨0, 0, false⟩ = c from hc] at K
 rw [hc]
 clear hc
 go_enter Tryz.func239, Tryz.ntmps239
 go_wp2_with fail
 refine (K.O _).mono ?_
 rintro e w1 ⟨rfl, hx⟩
 have X1 : Hid (Ex [] (w.alloc (Obj.cells #[.int .u64 0, .int .u64 0, .bool false] 99)) w1) := hx
 clear hx
 have hb := (BK.new w (Obj.cells #[.int .u64 0, .int .u64 0, .bool false] 99)).ex X1.O (by simp)
 obtain ⟨hc, hf⟩ := hb.all
 have hl := hb.lt
 clear hb
 unfold ar
 go_wp2_with fail
 refine bodyPost_ret (v := ar c) (by simp [results, Tryz.results239, go_sem, ar, hc]) rfl ⟨rfl, ?_⟩
 repeat (refine Ex.setCell ?_ (Or.inr (by simp)) _)
 exact ((Ex.refl _ _).alloc _).trans X1.O
theorem jM (l : List UInt8) (w : World) (hl : l.length <= 60) (h128 : ∀ b ∈ l, b.toNat < 128) : Calls Tryz.prog 284 #[.string ⟨l.toArray⟩] w fun e w' => e = .returned (ar (kh l)) /\ Ex [] w w' := by
 obtain ⟨R, hR⟩ : ∃ R, kh l = R := ⟨_, rfl⟩
 have HR : Hid (l.foldl (fun c b => bI c (bZ b.toNat)) ⟨0, 0, false⟩ = R) := hR
 rw [hR]
 clear hR
 have H8 := aa h128
 clear h128
 obtain ⟨t, ht⟩ : ∃ t : ByteArray, (⟨l.toArray⟩ : ByteArray) = t := ⟨_, rfl⟩
 have hsz : t.size = l.length := by rw [<- ht]; simp [ByteArray.size]
 have HT : Hid (∀ i (hi : i < t.size), l[i]? = some (t[i]'hi)) := by
  intro i hi
  subst ht
  simp [ByteArray.size] at hi
  rw [List.getElem?_eq_getElem hi]; rfl
 rw [ht]
 have HSZ := aa hsz
 have hts : t.size <= 60 := by omega
 clear ht hsz
 go_enter Tryz.func284, Tryz.ntmps284
 go_wp2_with fail
 go_loopg [7] t.size (fun gk l7 wr => ∃ (i : Nat) (c : Cls), i + gk = t.size /\ l7 = .int .i64 i /\ (l.drop i).foldl (fun c b => bI c (bZ b.toNat)) c = R /\ BK wr w.heap.size (.cells #[.int .u64 0, .int .u64 0, .bool false] 99 (0, 0)) /\ BK wr (w.heap.size + 1) (.cells #[.int .u64 c.lo, .int .u64 c.hi, .bool c.hg] 99 (0, 0)) /\ Ex [] w wr)
 case atStart =>
  refine ⟨0, ⟨0, 0, false⟩, by omega, rfl, by simpa using HR.O, (BK.new _ _).alloc _, ?_, ((Ex.refl _ _).alloc _).alloc _⟩
  have := BK.new (w.alloc (Obj.cells #[.int .u64 0, .int .u64 0, .bool false] 99)) (Obj.cells #[.int .u64 0, .int .u64 0, .bool false] 99)
  simpa using this
 case round =>
  obtain ⟨i, c, hi, rfl, hac, hb0, hb1, hx⟩ := hrel
  have HX := aa hx
  have HB0 := aa hb0
  have HB1 := aa hb1
  have HAC := aa hac
  have hl0 := hb0.lt
  have hl1 := hb1.lt
  obtain ⟨hc0, hf0⟩ := hb0.all
  obtain ⟨hc1, hf1⟩ := hb1.all
  clear hx hb0 hb1 hac
  cases gk with
  |zero =>
   have e1 : ¬ (i : Int) < (t.size : Int) := by omega
   have HRC : Hid (c = R) := by
    have h1 := HAC.O
    have hs := HSZ.O
    rw [List.drop_of_length_le (by omega)] at h1
    exact h1
   go_wp2_with fail
   refine bodyPost_ret (v := ar c) (by simp [results, Tryz.results284, go_sem, ar, hc0, hl0]) rfl ⟨by rw [HRC.O], ?_⟩
   repeat (refine Ex.setCell ?_ (Or.inr (by simp)) _)
   exact HX.O
  |succ g =>
   have hit : i < t.size := by omega
   have e1 : (i : Int) < (t.size : Int) := by omega
   obtain ⟨b, hb⟩ : ∃ b, (t[i]'hit) = b := ⟨_, rfl⟩
   have hli : l[i]? = some b := by rw [HT.O i hit, hb]
   have hb128 : b.toNat < 128 := H8.O b (List.mem_of_getElem? hli)
   have HN : Hid ((l.drop (i + 1)).foldl (fun c b => bI c (bZ b.toNat)) (bI c (bZ b.toNat)) = R) := by
    have h1 := HAC.O
    obtain ⟨hlt, hlb⟩ := List.getElem?_eq_some_iff.1 hli
    rw [List.drop_eq_getElem_cons hlt, List.foldl_cons, hlb] at h1
    exact h1
   obtain ⟨O1, W1, hW1, kb1, kw1⟩ : ∃ O1 W1 : Cls, W1 = bI c (bZ b.toNat) /\ (∀ w, Calls Tryz.prog 243 #[.int .u8 (b.toNat : Int), .int .u8 (b.toNat : Int)] w fun e w' => e = .returned (ar O1) /\ Ex [] w w') /\
     (∀ w, Calls Tryz.prog 264 #[ar c, ar O1] w fun e w' => e = .returned (ar W1) /\ Ex [] w w') :=
    ⟨bZ b.toNat, bI c (bZ b.toNat), rfl, fun w => cU b.toNat w hb128, fun w => ez _ _ w⟩
   rw [<- hW1] at HN
   have KB1 := aa kb1
   have KW1 := aa kw1
   clear kb1 kw1 hW1 hli
   go_wp2_with fail
   refine aO (by kernel_rfl) ?_
   refine tk (i := 1) (v := ?_) rfl ?_ ?_
   rotate_left
   ·intro w'
    go_simp
    try with_reducible rfl
   simp only [Act.put, List.replicate, Array.replicate, lx]
   refine tk (i := 2) (v := ?_) rfl ?_ ?_
   rotate_left
   ·intro w'
    go_simp
    try with_reducible rfl
   simp only [Act.put, List.replicate, Array.replicate, lx]
   refine tk (i := 3) (v := ?_) rfl ?_ ?_
   rotate_left
   ·intro w'
    go_simp
    try with_reducible rfl
   simp only [Act.put, List.replicate, Array.replicate, lx]
   refine tk (i := 4) (v := ?_) rfl ?_ ?_
   rotate_left
   ·intro w'
    go_simp
    try with_reducible rfl
   simp only [Act.put, List.replicate, Array.replicate, lx]
   refine tk (i := 5) (v := ?_) rfl ?_ ?_
   rotate_left
   ·intro w'
    go_simp
    try with_reducible rfl
   simp only [Act.put, List.replicate, Array.replicate, lx]
   refine tk (i := 6) (v := ?_) rfl ?_ ?_
   rotate_left
   ·intro w'
    go_simp
    try with_reducible rfl
   simp only [Act.put, List.replicate, Array.replicate, lx]
   refine aU (S := (fun j w' => j < 9 -> ∀ o, w'.cell? ⟨w.heap.size + 1, o, none⟩ = #[Value.int .u64 c.lo, .int .u64 c.hi, .bool c.hg][o]?)) _ _ _ _ ?_
   refine ce (i := 0) (T := (fun w' => ∀ o, w'.cell? ⟨w.heap.size + 1, o, none⟩ = #[Value.int .u64 c.lo, .int .u64 c.hi, .bool c.hg][o]?)) (v := ?_) (fun j => decide (j < 9)) rfl (by kernel_rfl) (by kernel_rfl) (by kernel_rfl) (by kernel_rfl) (fun j w' hj h => h (by simpa using hj)) (fun w' h _ => h) (fun _ _ _ h => h) hc1 (Or.inl ⟨by rfl, ?_⟩) ?_
   rotate_left
   ·intro w' hSw
    obtain hSw := hSw
    go_simp
    try with_reducible rfl
   simp only [Act.put, List.replicate, Array.replicate, lx]
   refine ae (i := 7) rfl rfl (by kernel_rfl) (fun K hK => ?_)
   go_simp
   refine (KB1.O _).mono ?_
   rintro e w3 ⟨rfl, hx3⟩
   have hy3 := ((Ex.refl [] wr).drew).trans hx3
   obtain ⟨q3, hf3⟩ := (HB1.O.ex hy3 (by simp)).all
   unfold ar
   go_wp2_with fail
   refine hK.O _ _ (fun _ => q3) ?_
   clear hK K
   simp only [Act.put, lx]
   refine ae (i := 8) rfl rfl (by kernel_rfl) (fun K hK => ?_)
   go_simp
   refine (KW1.O _).mono ?_
   rintro e w4 ⟨rfl, hx4⟩
   have hy4 := (hy3).trans hx4
   obtain ⟨q4, hf4⟩ := (HB1.O.ex hy4 (by simp)).all
   unfold ar
   go_wp2_with fail
   refine hK.O _ _ (fun _ => q4) ?_
   clear hK K
   simp only [Act.put, lx]
   refine ae (i := 9) rfl rfl (by kernel_rfl) (fun K hK => ?_)
   go_simp
   refine hK.O _ _ (fun hj => by omega) ?_
   clear hK K
   refine aP (by kernel_rfl) ?_ _
   have hb6 := HB1.O.ex hy4 (by simp)
   have hb61 := HB0.O.ex hy4 (by simp)
   have HY4 := aa hy4
   have HB6 := aa hb6
   have HB61 := aa hb61
   clear hx3 hx4 hy3 hy4 hb6 hb61 q3 q4 hf3 hf4
   go_wp2_with fail
   go_roundg g
   case measure => omega
   case rel =>
    refine ⟨i + 1, W1, by omega, by simp, HN.O, ?_, ?_, ?_⟩
    ·repeat (refine BK.set ?_ (by simp) _)
     exact HB61.O
    ·have h1 := ((HB6.O.self 0 (.int .u64 W1.lo)).self 1 (.int .u64 W1.hi)).self 2 (.bool W1.hg)
     simpa using h1
    ·repeat (refine Ex.setCell ?_ (Or.inr (by simp)) _)
     exact HX.O.trans HY4.O
theorem lW (w : World) : Calls Tryz.prog 283 #[] w fun e w' => e = .returned (ar gA) /\ Ex [] w w' := by
 obtain ⟨c1, c2, c3, c4, c5, c6, c7, h7, k1, k2, k3, k4, k5, k6, k7⟩ : ∃ c1 c2 c3 c4 c5 c6 c7 : Cls, gA = c7 /\ (∀ w, Calls Tryz.prog 282 #[] w fun e w' => e = .returned (ar c1) /\ Ex [] w w') /\
   (∀ w, Calls Tryz.prog 243 #[.int .u8 97, .int .u8 122] w fun e w' => e = .returned (ar c2) /\ Ex [] w w') /\
   (∀ w, Calls Tryz.prog 264 #[ar c1, ar c2] w fun e w' => e = .returned (ar c3) /\ Ex [] w w') /\
   (∀ w, Calls Tryz.prog 243 #[.int .u8 65, .int .u8 90] w fun e w' => e = .returned (ar c4) /\ Ex [] w w') /\
   (∀ w, Calls Tryz.prog 264 #[ar c3, ar c4] w fun e w' => e = .returned (ar c5) /\ Ex [] w w') /\
   (∀ w, Calls Tryz.prog 284 #[.string ⟨#[95]⟩] w fun e w' => e = .returned (ar c6) /\ Ex [] w w') /\
   (∀ w, Calls Tryz.prog 264 #[ar c5, ar c6] w fun e w' => e = .returned (ar c7) /\ Ex [] w w') :=
  ⟨dD, bU 97 122, bI dD (bU 97 122), bU 65 90, bI (bI dD (bU 97 122)) (bU 65 90), kh [95], gA, rfl, ki, fun w => dU 97 122 w (by omega) (by omega), fun w => ez _ _ w, fun w => dU 65 90 w (by omega) (by omega), fun w => ez _ _ w, fun w => jM [95] w (by decide) (by decide), fun w => ez _ _ w⟩
 rw [h7]
 have K1 := aa k1
 have K2 := aa k2
 have K3 := aa k3
 have K4 := aa k4
 have K5 := aa k5
 have K6 := aa k6
 have K7 := aa k7
 clear h7 k1 k2 k3 k4 k5 k6 k7
 go_enter Tryz.func283, Tryz.ntmps283
 go_wp2_with fail
 refine (K1.O _).mono ?_
 rintro e w1 ⟨rfl, hx⟩
 have X1 : Hid (Ex [] (w.alloc (Obj.cells #[.int .u64 0, .int .u64 0, .bool false] 99)) w1) := hx
 clear hx
 go_wp2_with fail
 refine (K2.O _).mono ?_
 rintro e w2 ⟨rfl, hx⟩
 have X2 : Hid (Ex [] (w.alloc (Obj.cells #[.int .u64 0, .int .u64 0, .bool false] 99)) w2) := X1.O.trans hx
 clear hx
 go_wp2_with fail
 refine (K3.O _).mono ?_
 rintro e w3 ⟨rfl, hx⟩
 have X3 : Hid (Ex [] (w.alloc (Obj.cells #[.int .u64 0, .int .u64 0, .bool false] 99)) w3) := X2.O.trans hx
 clear hx
 go_wp2_with fail
 refine (K4.O _).mono ?_
 rintro e w4 ⟨rfl, hx⟩
 have X4 : Hid (Ex [] (w.alloc (Obj.cells #[.int .u64 0, .int .u64 0, .bool false] 99)) w4) := X3.O.trans hx
 clear hx
 go_wp2_with fail
 refine (K5.O _).mono ?_
 rintro e w5 ⟨rfl, hx⟩
 have X5 : Hid (Ex [] (w.alloc (Obj.cells #[.int .u64 0, .int .u64 0, .bool false] 99)) w5) := X4.O.trans hx
 clear hx
 go_wp2_with fail
 refine (K6.O _).mono ?_
 rintro e w6 ⟨rfl, hx⟩
 have X6 : Hid (Ex [] (w.alloc (Obj.cells #[.int .u64 0, .int .u64 0, .bool false] 99)) w6) := X5.O.trans hx
 clear hx
 go_wp2_with fail
 refine (K7.O _).mono ?_
 rintro e w7 ⟨rfl, hx⟩
 have X7 : Hid (Ex [] (w.alloc (Obj.cells #[.int .u64 0, .int .u64 0, .bool false] 99)) w7) := X6.O.trans hx
 clear hx
 have hb := (BK.new w (Obj.cells #[.int .u64 0, .int .u64 0, .bool false] 99)).ex X7.O (by simp)
 obtain ⟨hc, hf⟩ := hb.all
 have hl := hb.lt
 clear hb
 unfold ar
 go_wp2_with fail
 refine bodyPost_ret (v := ar c7) (by simp [results, Tryz.results283, go_sem, ar, hc]) rfl ⟨rfl, ?_⟩
 repeat (refine Ex.setCell ?_ (Or.inr (by simp)) _)
 exact ((Ex.refl _ _).alloc _).trans X7.O
def nO : Option Cls -> Value
 |none => .tuple #[ar ⟨0, 0, false⟩, .bool false]
 |some c => .tuple #[ar c, .bool true]
theorem lH (b : UInt8) (w : World) : Calls Tryz.prog 266 #[.int .u8 (b.toNat : Int)] w fun e w' => e = .returned (nO (dB b)) /\ Ex [] w w' := by
 obtain ⟨cd, cw, cs, cD, cW, cS, e1, e2, e3, e4, e5, e6, k1, k2, k3, k4, k5, k6⟩ : ∃ cd cw cs cD cW cS : Cls, dD = cd /\ gA = cw /\ gv = cs /\ bC dD = cD /\ bC gA = cW /\ bC gv = cS /\
   (∀ w, Calls Tryz.prog 282 #[] w fun e w' => e = .returned (ar cd) /\ Ex [] w w') /\
   (∀ w, Calls Tryz.prog 283 #[] w fun e w' => e = .returned (ar cw) /\ Ex [] w w') /\
   (∀ w, Calls Tryz.prog 284 #[.string ⟨#[32, 9, 10, 13]⟩] w fun e w' => e = .returned (ar cs) /\ Ex [] w w') /\
   (∀ w, Calls Tryz.prog 265 #[ar cd] w fun e w' => e = .returned (ar cD) /\ Ex [] w w') /\
   (∀ w, Calls Tryz.prog 265 #[ar cw] w fun e w' => e = .returned (ar cW) /\ Ex [] w w') /\
   (∀ w, Calls Tryz.prog 265 #[ar cs] w fun e w' => e = .returned (ar cS) /\ Ex [] w w') :=
  ⟨dD, gA, gv, bC dD, bC gA, bC gv, rfl, rfl, rfl, rfl, rfl, rfl, ki, lW, fun w => jM [32, 9, 10, 13] w (by decide) (by decide), fun w => eK _ w, fun w => eK _ w, fun w => eK _ w⟩
 have hS : Hid (dB b = if b.toNat = 100 then some cd else if b.toNat = 119 then some cw else if b.toNat = 115 then some cs else if b.toNat = 68 then some cD else if b.toNat = 87 then some cW else if b.toNat = 83 then some cS else none) := by
  show dB b = _
  unfold dB
  rw [e4, e5, e6, e1, e2, e3]
  have hh : ∀ n : UInt8, (b = n) = (b.toNat = n.toNat) := fun n => by rw [UInt8.toNat_inj]
  simp only [hh]
  rfl
 have K1 := aa k1
 have K2 := aa k2
 have K3 := aa k3
 have K4 := aa k4
 have K5 := aa k5
 have K6 := aa k6
 clear e1 e2 e3 e4 e5 e6 k1 k2 k3 k4 k5 k6
 obtain ⟨V, hV⟩ : ∃ V, nO (dB b) = V := ⟨_, rfl⟩
 have HV := aa hV
 rw [hV]
 clear hV
 obtain ⟨n, hn⟩ : ∃ n, b.toNat = n := ⟨_, rfl⟩
 rw [hn] at hS ⊢
 clear hn
 by_cases h100 : n = 100
 ·have HW : Hid (V = .tuple #[ar cd, .bool true]) := by
   show V = _
   rw [<- HV.O, hS.O, if_pos h100]
   rfl
  subst h100
  go_enter Tryz.func266, Tryz.ntmps266
  go_wp2_with fail
  refine (K1.O _).mono ?_
  rintro e w1 ⟨rfl, hx⟩
  have X1 : Hid (Ex [] (w.alloc (Obj.cells #[.int .u64 0, .int .u64 0, .bool false] 99)) w1) := hx
  clear hx
  have hb := (BK.new w (Obj.cells #[.int .u64 0, .int .u64 0, .bool false] 99)).ex X1.O (by simp)
  obtain ⟨hc, hf⟩ := hb.all
  have hl := hb.lt
  clear hb
  unfold ar
  go_wp2_with fail
  refine bodyPost_ret (v := .tuple #[ar cd, .bool true]) (by simp [results, Tryz.results266, go_sem, ar, hc]) rfl ⟨by rw [HW.O], ?_⟩
  repeat (refine Ex.setCell ?_ (Or.inr (by simp)) _)
  exact ((Ex.refl _ _).alloc _).trans X1.O
 by_cases h119 : n = 119
 ·have HW : Hid (V = .tuple #[ar cw, .bool true]) := by
   show V = _
   rw [<- HV.O, hS.O, if_neg h100, if_pos h119]
   rfl
  subst h119
  go_enter Tryz.func266, Tryz.ntmps266
  go_wp2_with fail
  refine (K2.O _).mono ?_
  rintro e w1 ⟨rfl, hx⟩
  have X1 : Hid (Ex [] (w.alloc (Obj.cells #[.int .u64 0, .int .u64 0, .bool false] 99)) w1) := hx
  clear hx
  have hb := (BK.new w (Obj.cells #[.int .u64 0, .int .u64 0, .bool false] 99)).ex X1.O (by simp)
  obtain ⟨hc, hf⟩ := hb.all
  have hl := hb.lt
  clear hb
  unfold ar
  go_wp2_with fail
  refine bodyPost_ret (v := .tuple #[ar cw, .bool true]) (by simp [results, Tryz.results266, go_sem, ar, hc]) rfl ⟨by rw [HW.O], ?_⟩
  repeat (refine Ex.setCell ?_ (Or.inr (by simp)) _)
  exact ((Ex.refl _ _).alloc _).trans X1.O
 by_cases h115 : n = 115
 ·have HW : Hid (V = .tuple #[ar cs, .bool true]) := by
   show V = _
   rw [<- HV.O, hS.O, if_neg h100, if_neg h119, if_pos h115]
   rfl
  subst h115
  go_enter Tryz.func266, Tryz.ntmps266
  go_wp2_with fail
  refine (K3.O _).mono ?_
  rintro e w1 ⟨rfl, hx⟩
  have X1 : Hid (Ex [] (w.alloc (Obj.cells #[.int .u64 0, .int .u64 0, .bool false] 99)) w1) := hx
  clear hx
  have hb := (BK.new w (Obj.cells #[.int .u64 0, .int .u64 0, .bool false] 99)).ex X1.O (by simp)
  obtain ⟨hc, hf⟩ := hb.all
  have hl := hb.lt
  clear hb
  unfold ar
  go_wp2_with fail
  refine bodyPost_ret (v := .tuple #[ar cs, .bool true]) (by simp [results, Tryz.results266, go_sem, ar, hc]) rfl ⟨by rw [HW.O], ?_⟩
  repeat (refine Ex.setCell ?_ (Or.inr (by simp)) _)
  exact ((Ex.refl _ _).alloc _).trans X1.O
 by_cases h68 : n = 68
 ·have HW : Hid (V = .tuple #[ar cD, .bool true]) := by
   show V = _
   rw [<- HV.O, hS.O, if_neg h100, if_neg h119, if_neg h115, if_pos h68]
   rfl
  subst h68
  go_enter Tryz.func266, Tryz.ntmps266
  go_wp2_with fail
  refine (K1.O _).mono ?_
  rintro e w1 ⟨rfl, hx⟩
  have X1 : Hid (Ex [] (w.alloc (Obj.cells #[.int .u64 0, .int .u64 0, .bool false] 99)) w1) := hx
  clear hx
  go_wp2_with fail
  refine (K4.O _).mono ?_
  rintro e w2 ⟨rfl, hx⟩
  have X2 : Hid (Ex [] (w.alloc (Obj.cells #[.int .u64 0, .int .u64 0, .bool false] 99)) w2) := X1.O.trans hx
  clear hx
  have hb := (BK.new w (Obj.cells #[.int .u64 0, .int .u64 0, .bool false] 99)).ex X2.O (by simp)
  obtain ⟨hc, hf⟩ := hb.all
  have hl := hb.lt
  clear hb
  unfold ar
  go_wp2_with fail
  refine bodyPost_ret (v := .tuple #[ar cD, .bool true]) (by simp [results, Tryz.results266, go_sem, ar, hc]) rfl ⟨by rw [HW.O], ?_⟩
  repeat (refine Ex.setCell ?_ (Or.inr (by simp)) _)
  exact ((Ex.refl _ _).alloc _).trans X2.O
 by_cases h87 : n = 87
 ·have HW : Hid (V = .tuple #[ar cW, .bool true]) := by
   show V = _
   rw [<- HV.O, hS.O, if_neg h100, if_neg h119, if_neg h115, if_neg h68, if_pos h87]
   rfl
  subst h87
  go_enter Tryz.func266, Tryz.ntmps266
  go_wp2_with fail
  refine (K2.O _).mono ?_
  rintro e w1 ⟨rfl, hx⟩
  have X1 : Hid (Ex [] (w.alloc (Obj.cells #[.int .u64 0, .int .u64 0, .bool false] 99)) w1) := hx
  clear hx
  go_wp2_with fail
  refine (K5.O _).mono ?_
  rintro e w2 ⟨rfl, hx⟩
  have X2 : Hid (Ex [] (w.alloc (Obj.cells #[.int .u64 0, .int .u64 0, .bool false] 99)) w2) := X1.O.trans hx
  clear hx
  have hb := (BK.new w (Obj.cells #[.int .u64 0, .int .u64 0, .bool false] 99)).ex X2.O (by simp)
  obtain ⟨hc, hf⟩ := hb.all
  have hl := hb.lt
  clear hb
  unfold ar
  go_wp2_with fail
  refine bodyPost_ret (v := .tuple #[ar cW, .bool true]) (by simp [results, Tryz.results266, go_sem, ar, hc]) rfl ⟨by rw [HW.O], ?_⟩
  repeat (refine Ex.setCell ?_ (Or.inr (by simp)) _)
  exact ((Ex.refl _ _).alloc _).trans X2.O
 by_cases h83 : n = 83
 ·have HW : Hid (V = .tuple #[ar cS, .bool true]) := by
   show V = _
   rw [<- HV.O, hS.O, if_neg h100, if_neg h119, if_neg h115, if_neg h68, if_neg h87, if_pos h83]
   rfl
  subst h83
  go_enter Tryz.func266, Tryz.ntmps266
  go_wp2_with fail
  refine (K3.O _).mono ?_
  rintro e w1 ⟨rfl, hx⟩
  have X1 : Hid (Ex [] (w.alloc (Obj.cells #[.int .u64 0, .int .u64 0, .bool false] 99)) w1) := hx
  clear hx
  go_wp2_with fail
  refine (K6.O _).mono ?_
  rintro e w2 ⟨rfl, hx⟩
  have X2 : Hid (Ex [] (w.alloc (Obj.cells #[.int .u64 0, .int .u64 0, .bool false] 99)) w2) := X1.O.trans hx
  clear hx
  have hb := (BK.new w (Obj.cells #[.int .u64 0, .int .u64 0, .bool false] 99)).ex X2.O (by simp)
  obtain ⟨hc, hf⟩ := hb.all
  have hl := hb.lt
  clear hb
  unfold ar
  go_wp2_with fail
  refine bodyPost_ret (v := .tuple #[ar cS, .bool true]) (by simp [results, Tryz.results266, go_sem, ar, hc]) rfl ⟨by rw [HW.O], ?_⟩
  repeat (refine Ex.setCell ?_ (Or.inr (by simp)) _)
  exact ((Ex.refl _ _).alloc _).trans X2.O
 have HW : Hid (V = .tuple #[ar ⟨0, 0, false⟩, .bool false]) := by
  show V = _
  rw [<- HV.O, hS.O, if_neg h100, if_neg h119, if_neg h115, if_neg h68, if_neg h87, if_neg h83]
  rfl
 have g1 : ¬ (n : Int) = 100 := by omega
 have g2 : ¬ (n : Int) = 119 := by omega
 have g3 : ¬ (n : Int) = 115 := by omega
 have g4 : ¬ (n : Int) = 68 := by omega
 have g5 : ¬ (n : Int) = 87 := by omega
 have g6 : ¬ (n : Int) = 83 := by omega
 go_enter Tryz.func266, Tryz.ntmps266
 go_wp2_with fail
 refine bodyPost_ret (v := .tuple #[ar ⟨0, 0, false⟩, .bool false]) (by simp [results, Tryz.results266, go_sem, ar]) rfl ⟨by rw [HW.O], ?_⟩
 repeat (first | exact Ex.refl _ _ | refine Ex.setCell ?_ (Or.inr (by simp)) _ | refine Ex.alloc ?_ _)
theorem lP (l : List UInt8) (b : UInt8) : 0 <= Lib.indexByte l b ↔ b ∈ l := by
 induction l with
 |nil => simp [Lib.indexByte]
 |cons a l ih =>
  have hg := Lib.indexByte_ge l b
  unfold Lib.indexByte
  by_cases h : a = b
  ·subst h; simp
  ·rw [if_neg (by simpa using h)]
   rw [List.mem_cons, <- ih]
   by_cases h2 : Lib.indexByte l b = -1
   ·simp [h2]; exact fun e => h e.symm
   ·rw [if_neg (by simpa using h2)]
    constructor
    ·intro _; right; omega
    ·rintro (e | e)
     ·exact absurd e.symm h
     ·omega
theorem jC (l : List UInt8) (b : UInt8) (w : World) : Calls Tryz.prog 144 #[.string ⟨l.toArray⟩, .int .u8 (b.toNat : Int)] w fun e w' => (∃ ix : Int, e = .returned (.int .i64 ix) /\ (0 <= ix ↔ b ∈ l)) /\ w' = w := by
 refine (Tryz.strings_IndexByte _ _ _).mono ?_
 rintro e w' ⟨rfl, rfl⟩
 refine ⟨⟨_, rfl, ?_⟩, rfl⟩
 simp only [Int.toNat_natCast, UInt8.ofNat_toNat]
 exact lP l b
theorem cK {b : UInt8} (h : RG w r mb t x s) (hb : aj t s.k = some b) :
  Calls Tryz.prog 236 #[.pointer (some ⟨r, 0, none⟩)] w fun e w' => e = .returned (.int .u8 b.toNat) /\ ∃ n, w' = w.drewN n := by
 refine (uu h).mono ?_
 rintro e w' ⟨hn, hp⟩
 rcases hp.split with ⟨b', s', v, hm, rfl, hv, hg, hx⟩ | ⟨s', hm, rfl, hg, hx⟩
 ·rw [eN hb] at hm; cases hm; exact ⟨by rw [hv], hn⟩
 ·rw [eN hb] at hm; cases hm
theorem iy (h : RG w r mb t x s) (hb : aj t s.k = none) :
  Calls Tryz.prog 236 #[.pointer (some ⟨r, 0, none⟩)] w fun e w' => e = .panicked [{ v := .iface x.1 x.2, recovered := false }] /\ ∃ n, w' = w.drewN n := by
 refine (uu h).mono ?_
 rintro e w' ⟨hn, hp⟩
 rcases hp.split with ⟨b', s', v, hm, rfl, hv, hg, hx⟩ | ⟨s', hm, rfl, hg, hx⟩
 ·rw [fJ hb] at hm; cases hm
 ·exact ⟨rfl, hn⟩
theorem ou (h : RG w r mb t x s) (but : List UInt8) :
  Calls Tryz.prog 242 #[.pointer (some ⟨r, 0, none⟩), .string ⟨but.toArray⟩] w fun e w' => az [r] r mb t x w (fun _ v (b : UInt8) => v = .int .u8 (b.toNat : Int) /\ b.toNat < 128) (aN t but s) e w' := by
 have hlt := h.lt
 have ht := h.ht
 obtain ⟨ba, hba⟩ : ∃ ba, (⟨but.toArray⟩ : ByteArray) = ba := ⟨_, rfl⟩
 have KI := aa (fun b w => jC but b w)
 rw [hba] at KI ⊢
 clear hba
 cases hb : aj t s.k with
 |none =>
  have HM : Hid (aN t but s = .bad s) := by show aN t but s = _; simp [aN, hb]
  have HB := aa hb
  have H := aa h
  clear h hb
  go_enter Tryz.func242, Tryz.ntmps242
  go_wp2_with fail
  refine (iy H.O HB.O).mono ?_
  rintro e w1 ⟨rfl, n1, rfl⟩
  exact ab rfl (az.mkBad HM.O (H.O.drewN _) ((Ex.refl _ _).drewN _))
 |some b =>
  have hks := (cG hb).1
  have hb256 := b.toNat_lt
  have HB := aa hb
  have h1 := h.rd.c1
  have hf1 := h.rd.f1
  have hev := h.ev
  have H := aa h
  by_cases h128 : 128 <= b.toNat
  ·have HM : Hid (aN t but s = .bad s) := by show aN t but s = _; simp [aN, hb]; intro h; omega
   have e1 : (128 : Int) <= (b.toNat : Int) := by omega
   clear h hb
   go_enter Tryz.func242, Tryz.ntmps242
   go_wp2_with fail
   refine (cK H.O HB.O).mono ?_
   rintro e w1 ⟨rfl, n1, rfl⟩
   go_wp2_with fail
   exact ab rfl (az.mkBad HM.O (H.O.drewN _) ((Ex.refl _ _).drewN _))
  ·have e1 : ¬ (128 : Int) <= (b.toNat : Int) := by omega
   have hb128 : b.toNat < 128 := by omega
   by_cases hin : b ∈ but
   ·have HM : Hid (aN t but s = .bad s) := by show aN t but s = _; simp [aN, hb, hin]
    have HIN := aa hin
    clear h hb hin
    go_enter Tryz.func242, Tryz.ntmps242
    go_wp2_with fail
    refine (cK H.O HB.O).mono ?_
    rintro e w1 ⟨rfl, n1, rfl⟩
    go_wp2_with fail
    refine (KI.O b _).mono ?_
    rintro e w2 ⟨⟨ix, rfl, hix⟩, rfl⟩
    have hix0 : 0 <= ix := hix.2 HIN.O
    clear hix
    go_wp2_with fail
    exact ab rfl (az.mkBad HM.O (H.O.drewN _) ((Ex.refl _ _).drewN _))
   ·have HM : Hid (aN t but s = .ok b s.up) := by show aN t but s = _; simp [aN, hb, hin]; omega
    have HIN := aa hin
    clear h hb hin
    go_enter Tryz.func242, Tryz.ntmps242
    go_wp2_with fail
    refine (cK H.O HB.O).mono ?_
    rintro e w1 ⟨rfl, n1, rfl⟩
    go_wp2_with fail
    refine (KI.O b _).mono ?_
    rintro e w2 ⟨⟨ix, rfl, hix⟩, rfl⟩
    have hix0 : ¬ 0 <= ix := fun h => HIN.O (hix.1 h)
    clear hix
    go_wp2_with fail
    go_ret
    refine az.mkOk HM.O ⟨rfl, hb128⟩ ?_ (((Ex.refl _ _).drewN _).setCell (Or.inl (by simp)) _)
    have := (H.O.drewN n1).up hks
    simpa using this
theorem yb {cs : Array Value} (h : cs.size = 3) : ∃ x0 x1 x2, cs = #[x0, x1, x2] := by
 obtain ⟨l⟩ := cs
 match l, h with
 | [x0, x1, x2], _ => exact ⟨x0, x1, x2, rfl⟩
theorem vI {b : Nat} {cs : Array Value} {e : TypeId} (h : BK w b (.cells cs e (0, 0))) (hs : cs.size = 3) (a0 a1 a2 : Value) :
  BK (((w.setCell ⟨b, 0, none⟩ a0).setCell ⟨b, 1, none⟩ a1).setCell ⟨b, 2, none⟩ a2) b (.cells #[a0, a1, a2] e (0, 0)) := by
 obtain ⟨x0, x1, x2, rfl⟩ := yb hs
 have h0 := h.self 0 a0; simp only [List.setIfInBounds_toArray, List.set_cons_zero] at h0
 have h1 := h0.self 1 a1; simp only [List.setIfInBounds_toArray, List.set_cons_zero, List.set_cons_succ] at h1
 have h2 := h1.self 2 a2; simp only [List.setIfInBounds_toArray, List.set_cons_zero, List.set_cons_succ] at h2
 exact h2
def qf (y : Cls × UInt8 × Bool) : Value := .tuple #[ar y.1, .int .u8 (y.2.1.toNat : Int), .bool y.2.2]
theorem tP : ∀ b ∈ dX, b.toNat < 128 := by decide
theorem sr (h : RG w r mb t x s) :
  Calls Tryz.prog 240 #[.pointer (some ⟨r, 0, none⟩)] w fun e w' => az [r] r mb t x w (fun _ v y => v = qf y /\ (y.2.2 = true -> y.2.1.toNat < 128)) (am t s) e w' := by
 have hlt := h.lt
 have hmlt := h.mlt
 have helt := h.elt
 have ht := h.ht
 cases hb : aj t s.k with
 |none =>
  have HM : Hid (am t s = .bad s) := by show am t s = _; simp [am, hb]
  have HB := aa hb
  have H := aa h
  clear h hb
  go_enter Tryz.func240, Tryz.ntmps240
  go_wp2_with fail
  refine (iy (H.O.alloc _) HB.O).mono ?_
  rintro e w1 ⟨rfl, n1, rfl⟩
  exact ab rfl (az.mkBad HM.O ((H.O.alloc _).drewN _) (((Ex.refl _ _).alloc _).drewN _))
 |some b =>
  have hks := (cG hb).1
  have hb256 := b.toNat_lt
  have HB := aa hb
  have H := aa h
  by_cases hin : b ∈ dX
  ·obtain ⟨c, hc⟩ : ∃ c, bZ b.toNat = c := ⟨_, rfl⟩
   have hb128 := tP b hin
   have KB := aa (fun w => cU b.toNat w hb128)
   rw [hc] at KB
   have HM : Hid (am t s = .ok (c, b, true) s.up) := by show am t s = _; simp [am, hb, hin, hc]
   have HIN := aa hin
   clear h hb hin hc
   go_enter Tryz.func240, Tryz.ntmps240
   go_wp2_with fail
   refine (cK (H.O.alloc _) HB.O).mono ?_
   rintro e w1 ⟨rfl, n1, hw1⟩
   have hg1 : RG w1 r mb t x s := by rw [hw1]; exact (H.O.alloc _).drewN _
   have hx1 : Ex [] (w.alloc (Obj.cells #[.int .u64 0, .int .u64 0, .bool false] 99)) w1 := by rw [hw1]; exact (Ex.refl _ _).drewN _
   have h1 := hg1.rd.c1
   have hf1 := hg1.rd.f1
   have hl1 := hg1.lt
   have G1 := aa hg1
   have X1 := aa hx1
   clear hg1 hx1 hw1
   go_wp2_with fail
   refine (jC dX b _).mono ?_
   rintro e w2 ⟨⟨ix, rfl, hix⟩, rfl⟩
   have hix0 : 0 <= ix := hix.2 HIN.O
   clear hix
   go_wp2_with fail
   refine (KB.O _).mono ?_
   rintro e w3 ⟨rfl, hx3⟩
   have hg3 : RG w3 r mb t x s.up := by
    have h9 := G1.O.up hks
    refine RG.ex0 ?_ hx3
    simpa using h9
   have X3 : Hid (Ex [r] (w.alloc (Obj.cells #[.int .u64 0, .int .u64 0, .bool false] 99)) w3) := ((X1.O.drop (by simp)).setCell (Or.inl (by simp)) _).trans (hx3.drop (by simp))
   have hb3 := (BK.new w (Obj.cells #[.int .u64 0, .int .u64 0, .bool false] 99)).ex X3.O (by simp; omega)
   obtain ⟨hc, hf⟩ := hb3.all
   have hl := hb3.lt
   have G3 := aa hg3
   clear hb3 hx3 hg3 h1 hf1 G1 X1
   unfold ar
   go_wp2_with fail
   refine bodyPost_ret (v := qf (c, b, true)) (by simp [results, Tryz.results240, go_sem, ar, qf, hc]) rfl (az.mkOk HM.O ⟨rfl, fun _ => hb128⟩ ?_ ?_)
   ·repeat (refine RG.setN (B := w.heap.size) ?_ hlt hmlt helt (by simp) _)
    exact G3.O
   ·repeat (refine Ex.setCell ?_ (Or.inr (by simp)) _)
    exact ((Ex.refl _ _).alloc _).trans X3.O
  ·have KS := aa (fun w => lH b w)
   obtain ⟨o, ho⟩ : ∃ o, dB b = o := ⟨_, rfl⟩
   rw [ho] at KS
   have HIN := aa hin
   cases o with
   |none =>
    have HM : Hid (am t s = .bad s) := by show am t s = _; simp [am, hb, hin, ho]
    clear h hb hin ho
    go_enter Tryz.func240, Tryz.ntmps240
    go_wp2_with fail
    refine (cK (H.O.alloc _) HB.O).mono ?_
    rintro e w1 ⟨rfl, n1, hw1⟩
    have hg1 : RG w1 r mb t x s := by rw [hw1]; exact (H.O.alloc _).drewN _
    have hx1 : Ex [] (w.alloc (Obj.cells #[.int .u64 0, .int .u64 0, .bool false] 99)) w1 := by rw [hw1]; exact (Ex.refl _ _).drewN _
    have G1 := aa hg1
    have X1 := aa hx1
    clear hg1 hx1 hw1
    go_wp2_with fail
    refine (jC dX b _).mono ?_
    rintro e w2 ⟨⟨ix, rfl, hix⟩, rfl⟩
    have hix0 : ¬ 0 <= ix := fun h => HIN.O (hix.1 h)
    clear hix
    go_wp2_with fail
    refine (KS.O _).mono ?_
    rintro e w3 ⟨rfl, hx3⟩
    have X3 := aa (X1.O.trans hx3)
    have hb3 := (BK.new w (Obj.cells #[.int .u64 0, .int .u64 0, .bool false] 99)).ex X3.O (by simp)
    obtain ⟨hc, hf⟩ := hb3.all
    have hl := hb3.lt
    have hg3 := G1.O.ex0 hx3
    have hev := hg3.ev
    have hne : w.heap.size ≠ 0 := by omega
    have G3 := aa hg3
    clear hb3 hx3 hg3 G1 X1
    unfold nO ar
    go_wp2_with fail
    refine ab rfl (az.mkBad HM.O ?_ ?_)
    ·repeat (refine RG.setN (B := w.heap.size) ?_ hlt hmlt helt (by simp) _)
     exact G3.O
    ·repeat (refine Ex.setCell ?_ (Or.inr (by simp)) _)
     exact (((Ex.refl _ _).alloc _).trans X3.O).drop (by simp)
   |some c =>
    have HM : Hid (am t s = .ok (c, 0, false) s.up) := by show am t s = _; simp [am, hb, hin, ho]
    clear h hb hin ho
    go_enter Tryz.func240, Tryz.ntmps240
    go_wp2_with fail
    refine (cK (H.O.alloc _) HB.O).mono ?_
    rintro e w1 ⟨rfl, n1, hw1⟩
    have hg1 : RG w1 r mb t x s := by rw [hw1]; exact (H.O.alloc _).drewN _
    have hx1 : Ex [] (w.alloc (Obj.cells #[.int .u64 0, .int .u64 0, .bool false] 99)) w1 := by rw [hw1]; exact (Ex.refl _ _).drewN _
    have G1 := aa hg1
    have X1 := aa hx1
    clear hg1 hx1 hw1
    go_wp2_with fail
    refine (jC dX b _).mono ?_
    rintro e w2 ⟨⟨ix, rfl, hix⟩, rfl⟩
    have hix0 : ¬ 0 <= ix := fun h => HIN.O (hix.1 h)
    clear hix
    go_wp2_with fail
    refine (KS.O _).mono ?_
    rintro e w3 ⟨rfl, hx3⟩
    have X3 := aa (X1.O.trans hx3)
    have hb3 := (BK.new w (Obj.cells #[.int .u64 0, .int .u64 0, .bool false] 99)).ex X3.O (by simp)
    obtain ⟨hc, hf⟩ := hb3.all
    have hl := hb3.lt
    have hg3 := G1.O.ex0 hx3
    have h1 := hg3.rd.c1
    have hf1 := hg3.rd.f1
    have hl1 := hg3.lt
    have hne : r ≠ w.heap.size := by omega
    have G3 := aa hg3
    have B3 := aa hb3
    clear hb3 hx3 hg3 G1 X1
    unfold nO ar
    go_wp2_with fail
    refine bodyPost_ret (v := qf (c, 0, false)) ?_ rfl (az.mkOk HM.O ⟨rfl, fun h => by cases h⟩ ?_ ?_)
    ·have hB := vI (((vI (af B3) rfl (.int .u64 c.lo) (.int .u64 c.hi) (.bool c.hg))).set (p := ⟨r, 1, none⟩) (Ne.symm hne) (.int .i64 ((s.k : Int) + 1))) rfl (.int .u64 c.lo) (.int .u64 c.hi) (.bool c.hg)
     generalize World.setCell _ ⟨w.heap.size, 2, none⟩ _ = W at hB ⊢
     obtain ⟨hcW, hfW⟩ := hB.all
     simp [results, Tryz.results240, go_sem, ar, qf, hcW]
    ·iterate 3 (refine RG.setN (B := w.heap.size) ?_ hlt hmlt helt (by simp) _)
     have h9 : RG ((((w3.setCell ⟨w.heap.size, 0, none⟩ (.int .u64 c.lo)).setCell ⟨w.heap.size, 1, none⟩ (.int .u64 c.hi)).setCell ⟨w.heap.size, 2, none⟩ (.bool c.hg))) r mb t x s := by
      repeat (refine RG.setN (B := w.heap.size) ?_ hlt hmlt helt (by simp) _)
      exact G3.O
     have h10 := h9.up hks
     simpa using h10
    ·iterate 3 (refine Ex.setCell ?_ (Or.inr (by simp)) _)
     refine Ex.setCell ?_ (Or.inl (by simp)) _
     iterate 3 (refine Ex.setCell ?_ (Or.inr (by simp)) _)
     exact (((Ex.refl _ _).alloc _).trans X3.O).drop (by simp)
end Go.Proofs.YtfnanjbleifjkaaGreatDoor.G
