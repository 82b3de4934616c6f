/- X9 Y2, one behind the other. -/
import Derived.Test.YtmeffeigamaipabGreatDoorM44
import Derived.Test.YtmeffeigamaipabGreatDoorM05
import Derived.Test.YtmeffeigamaipabGreatDoorM33
import Derived.Test.YtmeffeigamaipabGreatDoorM34
import Derived.Lib.AppendIntMem
import Derived.Deep.RegionHeld3
import Derived.Test.YtmeffeigamaipabGreatDoorM37
set_option linter.unusedVariables false
set_option linter.unusedSimpArgs false
/- A number's digits; what is left of a hash. -/
namespace Go.Proofs.YtmeffeigamaipabGreatDoor.G
open Go.RowKit Go.Sort

theorem grow_ex (w : World) (k : Nat) (os : Array Obj) : Ex [] w (grow (w.drewN k) os) :=
  ⟨rfl, rfl, rfl, by show w.heap.size ≤ (w.heap ++ os).size; simp, fun g hg _ => Lib.heap_grow_old w k os g hg⟩
def decB (u : Nat) : ByteArray := ⟨(Lib.decDigits u).toArray⟩

set_option maxHeartbeats 4000000 in
set_option maxRecDepth 100000 in
theorem iFormatUint_any (u : Nat) (hu64 : u < 18446744073709551616) (w : World) (htab : PT w) :
    Calls Tryz.prog 128 #[.int .u64 u, .int .i64 10] w fun e w' => e = .returned (.string (decB u)) ∧ Ex [] w w' := by
  unfold decB
  by_cases hs : u < 100
  · have KS := hide (fun w' => Tryz.internal_strconv_small u hs w')
    have hlt : (u : Int) < 100 := by omega
    have hwr : IntKind.i64.wrap (u : Int) = (u : Int) := by rw [IntKind.wrap_i64]; omega
    clear htab hs
    go_enter Tryz.func128, Tryz.ntmps128
    go_wp2_with fail
    refine (KS.out _).mono ?_
    rintro e w1 ⟨rfl, rfl⟩
    go_wp2_with fail
    go_ret
    exact ⟨rfl, Ex.refl _ _⟩
  · have hu1 : 1 ≤ u := by omega
    have hge : ¬ ((u : Int) < 100) := by omega
    have hnd20 : Lib.nDigits u ≤ 20 := by have := Lib.numDigits_eq u hu1 hu64; split at this <;> omega
    have hal : Tryz.prog.arrayLen 233 = 24 := by kernel_rfl
    have hsl1 : ∀ W, (Instr.sliceAt 233 (.pointer (some ⟨w.heap.size, 0, none⟩)) none (some (.int .i64 (Lib.nDigits u : Int))) none).run Tryz.prog W = .ok (.slice (some ⟨w.heap.size, 0, none⟩) (Lib.nDigits u) 24) W := fun W => by
      rw [run_sliceAt_array_h W 233 ⟨w.heap.size, 0, none⟩ (by kernel_rfl) .i64 (Lib.nDigits u : Int) (by omega) (by rw [hal]; omega)]
      have hel : Tryz.prog.elem 233 = 5 := by kernel_rfl
      rw [hel, hal]
      go_simp
    have hH0 := Lib.holds_zero0 w 233 (Lib.nDigits u) (by omega)
    have hfmt := Tryz.internal_strconv_formatBase10 w.heap.size 0 24 u (Array.replicate (Lib.nDigits u) 0) (w.alloc (.cells Lib.zeros24 233)) hH0 (by rw [Array.size_replicate]; exact Lib.lt_pow_nDigits u) hu64 (by rw [Array.size_replicate]; omega)
    rw [Array.size_replicate] at hfmt
    have HH0 := hide hH0
    have KN := hide (fun w' ht => Tryz.internal_strconv_numDigits u hu1 hu64 w' ht)
    have HT := hide htab
    have HF := hide hfmt
    obtain ⟨nd, hnd⟩ : ∃ nd, nd = Lib.nDigits u := ⟨_, rfl⟩
    rw [← hnd] at hsl1 KN hnd20 HF HH0
    have HND := hide hnd
    clear hH0 hal hfmt htab hs hnd
    go_enter Tryz.func128, Tryz.ntmps128
    go_wp2_with fail
    refine (KN.out _ (PT.ex HT.out ((Ex.refl _ _).alloc _))).mono ?_
    rintro e w1 ⟨rfl, rfl⟩
    go_wp2_with fail
    refine HF.out.mono ?_
    rintro e w1 ⟨rfl, k, v', dk, rfl, hF⟩
    have hcv : (convert 59 9 (.slice (some ⟨w.heap.size, 0, none⟩) nd 24)).run Tryz.prog ((putRow (fun (b : UInt8) => Value.int .u8 (b.toNat : Int)) (w.alloc (.cells Lib.zeros24 233)) w.heap.size 0 dk).drewN k) = .ok (.string ⟨(Lib.decDigits u).toArray⟩) ((putRow (fun (b : UInt8) => Value.int .u8 (b.toNat : Int)) (w.alloc (.cells Lib.zeros24 233)) w.heap.size 0 dk).drewN k) := by
      have hF' : Lib.FmtInv (Lib.nDigits u) u 0 v' dk := by rw [← HND.out]; exact hF
      have h := run_convert_bytes_back (P := Tryz.prog) ((putRow (fun (b : UInt8) => Value.int .u8 (b.toNat : Int)) (w.alloc (.cells Lib.zeros24 233)) w.heap.size 0 dk).drewN k) 59 9 5 ⟨w.heap.size, 0, none⟩ 24 (Lib.decDigits u) Tryz.underlying59 Tryz.underlying5 Tryz.underlying9 (fun j hj => by
        rw [Lib.row_is_numeral hF' j hj, Lib.add_plain, World.cell?_drewN]
        exact cell?_putRow (fun (b : UInt8) => Value.int .u8 (b.toNat : Int)) _ w.heap.size 0 _ dk HH0.out (by rw [hF.size, Array.size_replicate]) j (by rw [hF.size]; rw [Lib.decDigits_length] at hj; rw [HND.out]; exact hj))
      rw [Lib.decDigits_length, ← HND.out] at h
      exact h
    obtain ⟨os, eo⟩ := Lib.fin_at w (.cells Lib.zeros24 233) dk k 0
    have HX : Hid (Ex [] w ((putRow (fun (b : UInt8) => Value.int .u8 (b.toNat : Int)) (w.alloc (.cells Lib.zeros24 233)) w.heap.size 0 dk).drewN k)) := by rw [eo]; exact grow_ex _ _ _
    clear eo hF
    generalize (putRow (fun (b : UInt8) => Value.int .u8 (b.toNat : Int)) (w.alloc (.cells Lib.zeros24 233)) w.heap.size 0 dk).drewN k = W at hcv HX ⊢
    go_wp2_with fail
    go_ret
    exact ⟨rfl, HX.out⟩

set_option maxHeartbeats 1000000 in
theorem formatUint_any (u : Nat) (hu64 : u < 18446744073709551616) (w : World) (htab : PT w) :
    Calls Tryz.prog 107 #[.int .u64 u, .int .i64 10] w fun e w' => e = .returned (.string (decB u)) ∧ Ex [] w w' := by
  have K := hide (iFormatUint_any u hu64 w htab)
  clear htab
  go_enter Tryz.func107, Tryz.ntmps107
  go_wp2_with fail
  refine K.out.mono ?_
  rintro e w1 ⟨rfl, hx⟩
  have HX := hide hx
  clear hx
  go_wp2_with fail
  go_ret
  exact ⟨rfl, HX.out⟩

def remM (mo : Int) (s : ByteArray) : ByteArray := decB (hashM s % mo).toNat
theorem wrap64_bound (x : Int) : 0 ≤ IntKind.u64.wrap x ∧ IntKind.u64.wrap x < 18446744073709551616 := by
  rw [IntKind.wrap_u64]
  omega
theorem hash_bound (s : ByteArray) : 0 ≤ hashM s ∧ hashM s < 18446744073709551616 := by
  unfold hashM
  have key : ∀ (l : List UInt8) (h : Int), 0 ≤ h ∧ h < 18446744073709551616 → 0 ≤ l.foldl hashStep h ∧ l.foldl hashStep h < 18446744073709551616 := by
    intro l
    induction l with
    | nil => exact fun h hh => hh
    | cons b l ih => exact fun h hh => ih _ (wrap64_bound _)
  exact key _ _ ⟨by decide, by decide⟩

set_option maxHeartbeats 4000000 in
set_option maxRecDepth 100000 in
theorem remainder_any (p : Option Addr) (n c : Nat) (se : ByteArray) (pp : Option Addr) (ta rp : ByteArray) (mo : Int) (hmo : 1 ≤ mo) (s : ByteArray) (hs : s.size ≤ 9223372036854775807) (w : World) (ht : PT w) :
    Calls Tryz.prog 74 #[meansV (.slice p n c) se (.pointer pp) ta rp mo, .string s] w fun e w' => e = .returned (.string (remM mo s)) ∧ Ex [] w w' := by
  unfold meansV
  have KH := hide (fun w' => hash_any s w' hs)
  obtain ⟨b1, b2⟩ := hash_bound s
  obtain ⟨R, hR⟩ : ∃ R, R = remM mo s := ⟨_, rfl⟩
  rw [← hR]
  unfold remM at hR
  obtain ⟨h, hh⟩ : ∃ h, h = hashM s := ⟨_, rfl⟩
  rw [← hh] at KH b1 b2 hR
  obtain ⟨H, rfl⟩ : ∃ H : Nat, h = H := ⟨h.toNat, by omega⟩
  obtain ⟨M, rfl⟩ : ∃ M : Nat, mo = M := ⟨mo.toNat, by omega⟩
  have hle : H % M ≤ H := Nat.mod_le H M
  have e1 : ((H : Int) % (M : Int)).toNat = H % M := by rw [← Int.natCast_emod]; rfl
  rw [e1] at hR
  have KF := hide (fun w' hx => formatUint_any (H % M) (by omega) w' (ht.ex hx))
  rw [← hR] at KF
  have e2 : (H : Int).tmod (M : Int) = ((H % M : Nat) : Int) := by rw [Int.tmod_eq_emod_of_nonneg (by omega)]; rfl
  have e3 : IntKind.u64.wrap ((H % M : Nat) : Int) = ((H % M : Nat) : Int) := by rw [IntKind.wrap_u64]; omega
  have hm0 : ¬ (M : Int) = 0 := by omega
  obtain ⟨D, hD⟩ : ∃ D, D = H % M := ⟨_, rfl⟩
  rw [← hD] at KF e2 e3
  have e4 : H % M = D := hD.symm
  have hm1 : ¬ M = 0 := by omega
  have h0 : ((M : Int) == 0) = false := beq_eq_false_iff_ne.2 hm0
  clear hR e1 hle hD hh b1 b2 ht
  go_enter Tryz.func74, Tryz.ntmps74
  go_wp2_with fail
  generalize hw0 : World.alloc w _ = w0
  have hx0 : Ex [] w w0 := by rw [← hw0]; exact (Ex.refl _ _).alloc _
  have hb0 : BK w0 w.heap.size (.cells #[.slice p n c, .string se, .pointer pp, .string ta, .string rp, .int .u64 M] 116 (0, 0)) := by rw [← hw0]; exact BK.new _ _
  have t1 := hb0.all.1
  have HX0 := hide hx0
  have HB0 := hide hb0
  have hl0 := hb0.lt
  clear hw0 hx0 hb0
  go_region_held3 (fun w' => ∀ o, w'.cell? ⟨w.heap.size, o, none⟩ = #[Value.slice p n c, .string se, .pointer pp, .string ta, .string rp, .int .u64 M][o]?)
    (first | exact hb3.all.1 | exact t1)
    (first
      | (go_at_call 37; refine (show Calls _ _ _ _ _ from KH.out _).mono ?_; rintro e w2 ⟨rfl, rfl⟩)
      | (go_at_call 107; refine (show Calls _ _ _ _ _ from KF.out _ (HX0.out.drew)).mono ?_; rintro e w3 ⟨rfl, hx3⟩; have hb3 := HB0.out.drew.ex hx3 (by simp)))
  have HX3 := hide ((HX0.out.drew).trans hx3)
  clear hb3 hx3 t1
  go_wp2_with fail
  go_ret
  exact ⟨rfl, HX3.out⟩
end Go.Proofs.YtmeffeigamaipabGreatDoor.G

/- Lowercase, Uppercase, HashMod: what such a rule does. -/
namespace Go.Proofs.YtmeffeigamaipabGreatDoor.G
open Go.RowKit

theorem text_bound {ls : List Lab} (hok : LOK ls) (ss : List ByteArray) (se : ByteArray) (hsn : ss.length ≤ 1000) (hse : se.size ≤ 1000) : (textN ls ss se).size ≤ 1200000 := by
  have h1 := joinB_size (ss.map (valN ls)) se 200 (fun s hs => by
    simp only [List.mem_map] at hs
    obtain ⟨t, _, rfl⟩ := hs
    exact val_size hok t)
  rw [List.length_map] at h1
  have h2 : ss.length * (200 + se.size) ≤ 1000 * 1200 := Nat.mul_le_mul hsn (by omega)
  unfold textN
  omega
theorem lower_size (s : ByteArray) : (lowerA s).size = s.size := by
  show ((s.data.toList.map lowerB).toArray).size = s.data.size
  rw [List.size_toArray, List.length_map, Array.length_toList]
theorem dec_size (u : Nat) (h : u < 18446744073709551616) : (decB u).size ≤ 20 := by
  unfold decB
  show (Lib.decDigits u).toArray.size ≤ 20
  rw [List.size_toArray, Lib.decDigits_length]
  rcases Nat.eq_zero_or_pos u with rfl | h1
  · unfold Lib.nDigits; simp
  · have := Lib.numDigits_eq u h1 h
    split at this <;> omega
theorem rem_size (mo : Int) (hmo : 1 ≤ mo) (s : ByteArray) : (remM mo s).size ≤ 20 := by
  obtain ⟨b1, b2⟩ := hash_bound s
  unfold remM
  have h1 : hashM s % mo ≤ hashM s := by
    obtain ⟨H, hH⟩ : ∃ H : Nat, hashM s = H := ⟨(hashM s).toNat, by omega⟩
    obtain ⟨M, rfl⟩ : ∃ M : Nat, mo = M := ⟨mo.toNat, by omega⟩
    rw [hH, ← Int.natCast_emod]
    have := Nat.mod_le H M
    omega
  have h2 := Int.emod_nonneg (hashM s) (show mo ≠ 0 by omega)
  exact dec_size _ (by omega)

set_option maxHeartbeats 4000000 in
set_option maxRecDepth 100000 in
theorem set_lower (b1 b2 : Nat) (p : Option Addr) (c : Nat) (ss : List ByteArray) (se : ByteArray) (pp : Option Addr) (ta rp : ByteArray) (mo : Int) (q base : Nat) (ls : List Lab) (v0 : Value) (w : World) (h1 : BK w b1 (.cells #[.slice p ss.length c, .string se, .pointer pp, .string ta, .string rp, .int .u64 mo] 116 (0, 0))) (h2 : BK w b2 (.cells #[.func (.func 78) #[] #[]] 55 (0, 0))) (hg : GL w)
    (hs : SS w (.slice p ss.length c) ss) (hle : base ≤ w.heap.size) (hq : BK w q (.cells #[v0] 98 (0, 0))) (ho : w.ownsRow base 48 2 v0 ls.length (cellsOfL ls)) (hnq : v0.ownBlock ≠ some q) (hok : LOK ls) (hsn : ss.length ≤ 1000) (hse : se.size ≤ 1000) (h1b : b1 < base) (h2b : b2 < base) (hqb : base ≤ q) :
    Calls Tryz.prog 106 #[.pointer (some ⟨q, 0, none⟩), .pointer (some ⟨b1, 0, none⟩), .pointer (some ⟨b2, 0, none⟩)] w fun x w' => x = .returned (.bool true) ∧ LT w' q base (Go.Proofs.YtmeffeigamaipabGreatDoor.setL ls ta (lowerA (textN ls ss se))) ∧ Ex (q :: v0.ownBlock.toList) w w' := by
  have HLT : Hid (LT w q base ls) := ⟨hle, v0, hq, ho, hnq⟩
  obtain ⟨hc1, hf1⟩ := h1.all
  obtain ⟨hc2, hf2⟩ := h2.all
  have hl1 := h1.lt
  have hl2 := h2.lt
  have hlq := hq.lt
  have KT := hide (fun (w' : World) (hx : Ex [] w w') => text_any p c ss se pp ta rp mo q base ls w' (hs.ex0 hx) (HLT.out.exN hx rfl) (by have := hok.len; omega) hsn (fun t => hok.srt.for t) (fun t => by have := val_size hok t; omega) (by omega))
  have htb := text_bound hok ss se hsn hse
  obtain ⟨vv, hvv⟩ : ∃ vv, vv = textN ls ss se := ⟨_, rfl⟩
  rw [← hvv] at KT htb ⊢
  have hus : (lowerA vv).size ≤ 281474976710656 := by
    have := lower_size vv
    omega
  have KU := hide (fun (w' : World) (hx : Ex [] w w') => lower_any vv w' (by omega))
  obtain ⟨uu, huu⟩ : ∃ uu, lowerA vv = uu := ⟨_, rfl⟩
  rw [huu] at KU hus ⊢
  have hc20 : w.cell? ⟨b2, 0, none⟩ = some (.func (.func 78) #[] #[]) := by rw [hc2]; rfl
  have KS := hide (fun (w' : World) (hx : Ex [] w w') => set_any q base ls ta uu v0 w' (by have := hx.size; omega) (hq.ex hx (by simp)) (own_ex ho hx (by simp)) hnq (hok.len) (hok.srt.for ta) hus)
  have hnm : ∀ b, b < base → b ∉ (q :: v0.ownBlock.toList) := fun b hb hm => by
    simp only [List.mem_cons, Option.mem_toList] at hm
    rcases hm with h | h
    · omega
    · have := own_block ho b h; omega
  have HNM := hide hnm
  obtain ⟨n, hn⟩ : ∃ n, n = ss.length := ⟨_, rfl⟩
  rw [← hn] at KT h1 hc1
  unfold meansV at *
  have H1 := hide h1
  have H2 := hide h2
  clear hs h1 h2 hq ho hnq hvv huu hc2 hnm hn hg hok htb hus
  go_enter Tryz.func106, Tryz.ntmps106
  go_wp2_with fail
  go_region_held3 (fun w' => (∀ o, w'.cell? ⟨b1, o, none⟩ = #[Value.slice p n c, .string se, .pointer pp, .string ta, .string rp, .int .u64 mo][o]?) ∧ w'.cell? ⟨b2, 0, none⟩ = some (.func (.func 78) #[] #[]))
    (first | exact q8 | exact q7 | exact q6 | exact ⟨hc1, hc20⟩)
    (first
      | (go_at_call 100; refine (show Calls _ _ _ _ _ from KT.out _ ((Ex.refl _ _).drew)).mono ?_; rintro e w6 ⟨rfl, hx6⟩; have hy6 : Ex [] w w6 := ((Ex.refl [] w).drew).trans hx6; have q6 := And.intro (H1.out.ex hy6 (by simp)).all.1 ((H2.out.ex hy6 (by simp)).all.1 0))
      | (go_at_call 78; refine (show Calls _ _ _ _ _ from KU.out _ hy6).mono ?_; rintro e w7 ⟨rfl, hx7⟩; have hy7 : Ex [] w w7 := hy6.trans hx7; have q7 := And.intro (H1.out.ex hy7 (by simp)).all.1 ((H2.out.ex hy7 (by simp)).all.1 0))
      | (go_at_call 41; refine (show Calls _ _ _ _ _ from KS.out _ hy7).mono ?_; rintro e w8 ⟨rfl, hlt8, hx8⟩; have q8 := And.intro ((H1.out.ex hy7 (by simp)).ex hx8 (HNM.out b1 h1b)).all.1 (((H2.out.ex hy7 (by simp)).ex hx8 (HNM.out b2 h2b)).all.1 0)))
  have HL8 := hide hlt8
  have HX8 : Hid (Ex (q :: v0.ownBlock.toList) w w8) := (hy7.drop (by simp)).trans hx8
  clear q6 q7 q8 hlt8 hx8 hy7 hx7 hy6 hx6 hc1 hc20 hf1 hf2
  go_wp2_with fail
  go_ret
  exact ⟨rfl, HL8.out, HX8.out⟩

set_option maxHeartbeats 2000000 in
set_option maxRecDepth 100000 in
theorem does_lower (lo : Nat) (p : Option Addr) (c : Nat) (ss : List ByteArray) (se : ByteArray) (pp : Option Addr) (ta rp : ByteArray) (mo : Int) (w : World) (b1 b2 : Nat)
    (h1 : BK w b1 (.cells #[.slice p ss.length c, .string se, .pointer pp, .string ta, .string rp, .int .u64 mo] 116 (0, 0))) (h2 : BK w b2 (.cells #[.func (.func 78) #[] #[]] 55 (0, 0))) (hl1 : lo ≤ b1) (hl2 : lo ≤ b2)
    (hs : SS w (.slice p ss.length c) ss) (hsb : ∀ k, (Value.slice p ss.length c).ownBlock = some k → lo ≤ k) (hta : nameB ta = true) (hsn : ss.length ≤ 1000) (hse : se.size ≤ 1000) :
    Does lo w.heap.size w (.func (.func 106) #[] #[.pointer (some ⟨b1, 0, none⟩), .pointer (some ⟨b2, 0, none⟩)]) (fun ls => (Go.Proofs.YtmeffeigamaipabGreatDoor.setL ls ta (lowerA (textN ls ss se)), true)) := by
  refine ⟨Nat.le_refl _, ⟨_, _, _, rfl⟩, fun w1 hk hg q base ls v0 hb hle hqb hq ho hnq hok => ?_⟩
  have KM := hide (fun (w' : World) (hx : Ex [] w1 w') => set_lower b1 b2 p c ss se pp ta rp mo q base ls v0 w' ((BK.kb h1 hk hl1 h1.lt).ex hx (by simp)) ((BK.kb h2 hk hl2 h2.lt).ex hx (by simp)) (hg.ex hx) ((SS.kb hs hk hsb).ex0 hx) (Nat.le_trans hle hx.size) (hq.ex hx (by simp)) (own_ex ho hx (by simp)) hnq hok hsn hse (by have := h1.lt; omega) (by have := h2.lt; omega) hqb)
  have HOK := hide (hok.set ta (lowerA (textN ls ss se)) hta)
  have HO := hide ho
  dsimp only
  clear hs hsb hk hg hq ho hnq hok h1 h2
  go_enter Tryz.func46, Tryz.ntmps46
  go_wp2_with fail
  refine (KM.out _ ((Ex.refl _ _).alloc _)).mono ?_
  rintro x w2 ⟨rfl, hl2, hx2⟩
  have HX2 := hide ((((Ex.refl [] w1).alloc _).drop (by simp)).trans hx2)
  have HL2 := hide hl2
  clear hx2 hl2
  go_wp2_with fail
  go_ret
  exact ⟨rfl, HL2.out, HOK.out, eb_own HX2.out hqb HO.out hle⟩

set_option maxHeartbeats 4000000 in
set_option maxRecDepth 100000 in
theorem set_upper (b1 b2 : Nat) (p : Option Addr) (c : Nat) (ss : List ByteArray) (se : ByteArray) (pp : Option Addr) (ta rp : ByteArray) (mo : Int) (q base : Nat) (ls : List Lab) (v0 : Value) (w : World) (h1 : BK w b1 (.cells #[.slice p ss.length c, .string se, .pointer pp, .string ta, .string rp, .int .u64 mo] 116 (0, 0))) (h2 : BK w b2 (.cells #[.func (.func 79) #[] #[]] 55 (0, 0))) (hg : GL w)
    (hs : SS w (.slice p ss.length c) ss) (hle : base ≤ w.heap.size) (hq : BK w q (.cells #[v0] 98 (0, 0))) (ho : w.ownsRow base 48 2 v0 ls.length (cellsOfL ls)) (hnq : v0.ownBlock ≠ some q) (hok : LOK ls) (hsn : ss.length ≤ 1000) (hse : se.size ≤ 1000) (h1b : b1 < base) (h2b : b2 < base) (hqb : base ≤ q) :
    Calls Tryz.prog 106 #[.pointer (some ⟨q, 0, none⟩), .pointer (some ⟨b1, 0, none⟩), .pointer (some ⟨b2, 0, none⟩)] w fun x w' => x = .returned (.bool true) ∧ LT w' q base (Go.Proofs.YtmeffeigamaipabGreatDoor.setL ls ta (upperA (textN ls ss se))) ∧ Ex (q :: v0.ownBlock.toList) w w' := by
  have HLT : Hid (LT w q base ls) := ⟨hle, v0, hq, ho, hnq⟩
  obtain ⟨hc1, hf1⟩ := h1.all
  obtain ⟨hc2, hf2⟩ := h2.all
  have hl1 := h1.lt
  have hl2 := h2.lt
  have hlq := hq.lt
  have KT := hide (fun (w' : World) (hx : Ex [] w w') => text_any p c ss se pp ta rp mo q base ls w' (hs.ex0 hx) (HLT.out.exN hx rfl) (by have := hok.len; omega) hsn (fun t => hok.srt.for t) (fun t => by have := val_size hok t; omega) (by omega))
  have htb := text_bound hok ss se hsn hse
  obtain ⟨vv, hvv⟩ : ∃ vv, vv = textN ls ss se := ⟨_, rfl⟩
  rw [← hvv] at KT htb ⊢
  have hus : (upperA vv).size ≤ 281474976710656 := by
    have := upper_size vv
    omega
  have KU := hide (fun (w' : World) (hx : Ex [] w w') => upper_any vv w' (by omega))
  obtain ⟨uu, huu⟩ : ∃ uu, upperA vv = uu := ⟨_, rfl⟩
  rw [huu] at KU hus ⊢
  have hc20 : w.cell? ⟨b2, 0, none⟩ = some (.func (.func 79) #[] #[]) := by rw [hc2]; rfl
  have KS := hide (fun (w' : World) (hx : Ex [] w w') => set_any q base ls ta uu v0 w' (by have := hx.size; omega) (hq.ex hx (by simp)) (own_ex ho hx (by simp)) hnq (hok.len) (hok.srt.for ta) hus)
  have hnm : ∀ b, b < base → b ∉ (q :: v0.ownBlock.toList) := fun b hb hm => by
    simp only [List.mem_cons, Option.mem_toList] at hm
    rcases hm with h | h
    · omega
    · have := own_block ho b h; omega
  have HNM := hide hnm
  obtain ⟨n, hn⟩ : ∃ n, n = ss.length := ⟨_, rfl⟩
  rw [← hn] at KT h1 hc1
  unfold meansV at *
  have H1 := hide h1
  have H2 := hide h2
  clear hs h1 h2 hq ho hnq hvv huu hc2 hnm hn hg hok htb hus
  go_enter Tryz.func106, Tryz.ntmps106
  go_wp2_with fail
  go_region_held3 (fun w' => (∀ o, w'.cell? ⟨b1, o, none⟩ = #[Value.slice p n c, .string se, .pointer pp, .string ta, .string rp, .int .u64 mo][o]?) ∧ w'.cell? ⟨b2, 0, none⟩ = some (.func (.func 79) #[] #[]))
    (first | exact q8 | exact q7 | exact q6 | exact ⟨hc1, hc20⟩)
    (first
      | (go_at_call 100; refine (show Calls _ _ _ _ _ from KT.out _ ((Ex.refl _ _).drew)).mono ?_; rintro e w6 ⟨rfl, hx6⟩; have hy6 : Ex [] w w6 := ((Ex.refl [] w).drew).trans hx6; have q6 := And.intro (H1.out.ex hy6 (by simp)).all.1 ((H2.out.ex hy6 (by simp)).all.1 0))
      | (go_at_call 79; refine (show Calls _ _ _ _ _ from KU.out _ hy6).mono ?_; rintro e w7 ⟨rfl, hx7⟩; have hy7 : Ex [] w w7 := hy6.trans hx7; have q7 := And.intro (H1.out.ex hy7 (by simp)).all.1 ((H2.out.ex hy7 (by simp)).all.1 0))
      | (go_at_call 41; refine (show Calls _ _ _ _ _ from KS.out _ hy7).mono ?_; rintro e w8 ⟨rfl, hlt8, hx8⟩; have q8 := And.intro ((H1.out.ex hy7 (by simp)).ex hx8 (HNM.out b1 h1b)).all.1 (((H2.out.ex hy7 (by simp)).ex hx8 (HNM.out b2 h2b)).all.1 0)))
  have HL8 := hide hlt8
  have HX8 : Hid (Ex (q :: v0.ownBlock.toList) w w8) := (hy7.drop (by simp)).trans hx8
  clear q6 q7 q8 hlt8 hx8 hy7 hx7 hy6 hx6 hc1 hc20 hf1 hf2
  go_wp2_with fail
  go_ret
  exact ⟨rfl, HL8.out, HX8.out⟩

set_option maxHeartbeats 2000000 in
set_option maxRecDepth 100000 in
theorem does_upper (lo : Nat) (p : Option Addr) (c : Nat) (ss : List ByteArray) (se : ByteArray) (pp : Option Addr) (ta rp : ByteArray) (mo : Int) (w : World) (b1 b2 : Nat)
    (h1 : BK w b1 (.cells #[.slice p ss.length c, .string se, .pointer pp, .string ta, .string rp, .int .u64 mo] 116 (0, 0))) (h2 : BK w b2 (.cells #[.func (.func 79) #[] #[]] 55 (0, 0))) (hl1 : lo ≤ b1) (hl2 : lo ≤ b2)
    (hs : SS w (.slice p ss.length c) ss) (hsb : ∀ k, (Value.slice p ss.length c).ownBlock = some k → lo ≤ k) (hta : nameB ta = true) (hsn : ss.length ≤ 1000) (hse : se.size ≤ 1000) :
    Does lo w.heap.size w (.func (.func 106) #[] #[.pointer (some ⟨b1, 0, none⟩), .pointer (some ⟨b2, 0, none⟩)]) (fun ls => (Go.Proofs.YtmeffeigamaipabGreatDoor.setL ls ta (upperA (textN ls ss se)), true)) := by
  refine ⟨Nat.le_refl _, ⟨_, _, _, rfl⟩, fun w1 hk hg q base ls v0 hb hle hqb hq ho hnq hok => ?_⟩
  have KM := hide (fun (w' : World) (hx : Ex [] w1 w') => set_upper b1 b2 p c ss se pp ta rp mo q base ls v0 w' ((BK.kb h1 hk hl1 h1.lt).ex hx (by simp)) ((BK.kb h2 hk hl2 h2.lt).ex hx (by simp)) (hg.ex hx) ((SS.kb hs hk hsb).ex0 hx) (Nat.le_trans hle hx.size) (hq.ex hx (by simp)) (own_ex ho hx (by simp)) hnq hok hsn hse (by have := h1.lt; omega) (by have := h2.lt; omega) hqb)
  have HOK := hide (hok.set ta (upperA (textN ls ss se)) hta)
  have HO := hide ho
  dsimp only
  clear hs hsb hk hg hq ho hnq hok h1 h2
  go_enter Tryz.func46, Tryz.ntmps46
  go_wp2_with fail
  refine (KM.out _ ((Ex.refl _ _).alloc _)).mono ?_
  rintro x w2 ⟨rfl, hl2, hx2⟩
  have HX2 := hide ((((Ex.refl [] w1).alloc _).drop (by simp)).trans hx2)
  have HL2 := hide hl2
  clear hx2 hl2
  go_wp2_with fail
  go_ret
  exact ⟨rfl, HL2.out, HOK.out, eb_own HX2.out hqb HO.out hle⟩

set_option maxHeartbeats 4000000 in
set_option maxRecDepth 100000 in
theorem set_remainder (b1 b2 : Nat) (p : Option Addr) (c : Nat) (ss : List ByteArray) (se : ByteArray) (pp : Option Addr) (ta rp : ByteArray) (mo : Int) (hmo : 1 ≤ mo) (q base : Nat) (ls : List Lab) (v0 : Value) (w : World) (h1 : BK w b1 (.cells #[.slice p ss.length c, .string se, .pointer pp, .string ta, .string rp, .int .u64 mo] 116 (0, 0))) (h2 : BK w b2 (.cells #[.func (.func 74) #[.agg #[.slice p ss.length c, .string se, .pointer pp, .string ta, .string rp, .int .u64 mo]] #[]] 55 (0, 0))) (hg : GL w)
    (hs : SS w (.slice p ss.length c) ss) (hle : base ≤ w.heap.size) (hq : BK w q (.cells #[v0] 98 (0, 0))) (ho : w.ownsRow base 48 2 v0 ls.length (cellsOfL ls)) (hnq : v0.ownBlock ≠ some q) (hok : LOK ls) (hsn : ss.length ≤ 1000) (hse : se.size ≤ 1000) (h1b : b1 < base) (h2b : b2 < base) (hqb : base ≤ q) :
    Calls Tryz.prog 106 #[.pointer (some ⟨q, 0, none⟩), .pointer (some ⟨b1, 0, none⟩), .pointer (some ⟨b2, 0, none⟩)] w fun x w' => x = .returned (.bool true) ∧ LT w' q base (Go.Proofs.YtmeffeigamaipabGreatDoor.setL ls ta (remM mo (textN ls ss se))) ∧ Ex (q :: v0.ownBlock.toList) w w' := by
  have HLT : Hid (LT w q base ls) := ⟨hle, v0, hq, ho, hnq⟩
  obtain ⟨hc1, hf1⟩ := h1.all
  obtain ⟨hc2, hf2⟩ := h2.all
  have hl1 := h1.lt
  have hl2 := h2.lt
  have hlq := hq.lt
  have KT := hide (fun (w' : World) (hx : Ex [] w w') => text_any p c ss se pp ta rp mo q base ls w' (hs.ex0 hx) (HLT.out.exN hx rfl) (by have := hok.len; omega) hsn (fun t => hok.srt.for t) (fun t => by have := val_size hok t; omega) (by omega))
  have htb := text_bound hok ss se hsn hse
  obtain ⟨vv, hvv⟩ : ∃ vv, vv = textN ls ss se := ⟨_, rfl⟩
  rw [← hvv] at KT htb ⊢
  have hus : (remM mo vv).size ≤ 281474976710656 := by
    have := rem_size mo hmo vv
    omega
  have KU := hide (fun (w' : World) (hx : Ex [] w w') => remainder_any p ss.length c se pp ta rp mo hmo vv (by omega) w' (hg.ex hx).2)
  obtain ⟨uu, huu⟩ : ∃ uu, remM mo vv = uu := ⟨_, rfl⟩
  rw [huu] at KU hus ⊢
  have hc20 : w.cell? ⟨b2, 0, none⟩ = some (.func (.func 74) #[.agg #[.slice p ss.length c, .string se, .pointer pp, .string ta, .string rp, .int .u64 mo]] #[]) := by rw [hc2]; rfl
  have KS := hide (fun (w' : World) (hx : Ex [] w w') => set_any q base ls ta uu v0 w' (by have := hx.size; omega) (hq.ex hx (by simp)) (own_ex ho hx (by simp)) hnq (hok.len) (hok.srt.for ta) hus)
  have hnm : ∀ b, b < base → b ∉ (q :: v0.ownBlock.toList) := fun b hb hm => by
    simp only [List.mem_cons, Option.mem_toList] at hm
    rcases hm with h | h
    · omega
    · have := own_block ho b h; omega
  have HNM := hide hnm
  obtain ⟨n, hn⟩ : ∃ n, n = ss.length := ⟨_, rfl⟩
  rw [← hn] at KT KU h1 h2 hc1 hc20
  unfold meansV at *
  have H1 := hide h1
  have H2 := hide h2
  clear hs h1 h2 hq ho hnq hvv huu hc2 hnm hn hg hok htb hus
  go_enter Tryz.func106, Tryz.ntmps106
  go_wp2_with fail
  go_region_held3 (fun w' => (∀ o, w'.cell? ⟨b1, o, none⟩ = #[Value.slice p n c, .string se, .pointer pp, .string ta, .string rp, .int .u64 mo][o]?) ∧ w'.cell? ⟨b2, 0, none⟩ = some (.func (.func 74) #[.agg #[.slice p n c, .string se, .pointer pp, .string ta, .string rp, .int .u64 mo]] #[]))
    (first | exact q8 | exact q7 | exact q6 | exact ⟨hc1, hc20⟩)
    (first
      | (go_at_call 100; refine (show Calls _ _ _ _ _ from KT.out _ ((Ex.refl _ _).drew)).mono ?_; rintro e w6 ⟨rfl, hx6⟩; have hy6 : Ex [] w w6 := ((Ex.refl [] w).drew).trans hx6; have q6 := And.intro (H1.out.ex hy6 (by simp)).all.1 ((H2.out.ex hy6 (by simp)).all.1 0))
      | (go_at_call 74; refine (show Calls _ _ _ _ _ from KU.out _ hy6).mono ?_; rintro e w7 ⟨rfl, hx7⟩; have hy7 : Ex [] w w7 := hy6.trans hx7; have q7 := And.intro (H1.out.ex hy7 (by simp)).all.1 ((H2.out.ex hy7 (by simp)).all.1 0))
      | (go_at_call 41; refine (show Calls _ _ _ _ _ from KS.out _ hy7).mono ?_; rintro e w8 ⟨rfl, hlt8, hx8⟩; have q8 := And.intro ((H1.out.ex hy7 (by simp)).ex hx8 (HNM.out b1 h1b)).all.1 (((H2.out.ex hy7 (by simp)).ex hx8 (HNM.out b2 h2b)).all.1 0)))
  have HL8 := hide hlt8
  have HX8 : Hid (Ex (q :: v0.ownBlock.toList) w w8) := (hy7.drop (by simp)).trans hx8
  clear q6 q7 q8 hlt8 hx8 hy7 hx7 hy6 hx6 hc1 hc20 hf1 hf2
  go_wp2_with fail
  go_ret
  exact ⟨rfl, HL8.out, HX8.out⟩

set_option maxHeartbeats 2000000 in
set_option maxRecDepth 100000 in
theorem does_remainder (lo : Nat) (p : Option Addr) (c : Nat) (ss : List ByteArray) (se : ByteArray) (pp : Option Addr) (ta rp : ByteArray) (mo : Int) (hmo : 1 ≤ mo) (w : World) (b1 b2 : Nat)
    (h1 : BK w b1 (.cells #[.slice p ss.length c, .string se, .pointer pp, .string ta, .string rp, .int .u64 mo] 116 (0, 0))) (h2 : BK w b2 (.cells #[.func (.func 74) #[.agg #[.slice p ss.length c, .string se, .pointer pp, .string ta, .string rp, .int .u64 mo]] #[]] 55 (0, 0))) (hl1 : lo ≤ b1) (hl2 : lo ≤ b2)
    (hs : SS w (.slice p ss.length c) ss) (hsb : ∀ k, (Value.slice p ss.length c).ownBlock = some k → lo ≤ k) (hta : nameB ta = true) (hsn : ss.length ≤ 1000) (hse : se.size ≤ 1000) :
    Does lo w.heap.size w (.func (.func 106) #[] #[.pointer (some ⟨b1, 0, none⟩), .pointer (some ⟨b2, 0, none⟩)]) (fun ls => (Go.Proofs.YtmeffeigamaipabGreatDoor.setL ls ta (remM mo (textN ls ss se)), true)) := by
  refine ⟨Nat.le_refl _, ⟨_, _, _, rfl⟩, fun w1 hk hg q base ls v0 hb hle hqb hq ho hnq hok => ?_⟩
  have KM := hide (fun (w' : World) (hx : Ex [] w1 w') => set_remainder b1 b2 p c ss se pp ta rp mo hmo q base ls v0 w' ((BK.kb h1 hk hl1 h1.lt).ex hx (by simp)) ((BK.kb h2 hk hl2 h2.lt).ex hx (by simp)) (hg.ex hx) ((SS.kb hs hk hsb).ex0 hx) (Nat.le_trans hle hx.size) (hq.ex hx (by simp)) (own_ex ho hx (by simp)) hnq hok hsn hse (by have := h1.lt; omega) (by have := h2.lt; omega) hqb)
  have HOK := hide (hok.set ta (remM mo (textN ls ss se)) hta)
  have HO := hide ho
  dsimp only
  clear hs hsb hk hg hq ho hnq hok h1 h2
  go_enter Tryz.func46, Tryz.ntmps46
  go_wp2_with fail
  refine (KM.out _ ((Ex.refl _ _).alloc _)).mono ?_
  rintro x w2 ⟨rfl, hl2, hx2⟩
  have HX2 := hide ((((Ex.refl [] w1).alloc _).drop (by simp)).trans hx2)
  have HL2 := hide hl2
  clear hx2 hl2
  go_wp2_with fail
  go_ret
  exact ⟨rfl, HL2.out, HOK.out, eb_own HX2.out hqb HO.out hle⟩
end Go.Proofs.YtmeffeigamaipabGreatDoor.G
