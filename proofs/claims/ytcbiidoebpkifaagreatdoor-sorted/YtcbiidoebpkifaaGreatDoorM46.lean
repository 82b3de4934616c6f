/- Lowercase, Uppercase, HashMod: what such a rule does. -/
import Derived.Test.YtcbiidoebpkifaaGreatDoorM37
import Derived.Test.YtcbiidoebpkifaaGreatDoorM45
import Derived.Test.YtcbiidoebpkifaaGreatDoorM34
set_option linter.unusedVariables false
set_option linter.unusedSimpArgs false
namespace Go.Proofs.YtcbiidoebpkifaaGreatDoor.G
open Go.RowKit

theorem text_bound {ls : List Lab} (hok : LOK ls) (ss : List ByteArray) (se : ByteArray) (hsn : ss.length ≤ 1000) (hse : se.size ≤ 1000) : (textN ls ss se).size ≤ 1200000 := by
  have h1 := joinB_size (ss.map (valN ls)) se 200 (fun s hs => by
    simp only [List.mem_map] at hs
    obtain ⟨t, _, rfl⟩ := hs
    exact val_size hok t)
  rw [List.length_map] at h1
  have h2 : ss.length * (200 + se.size) ≤ 1000 * 1200 := Nat.mul_le_mul hsn (by omega)
  unfold textN
  omega
theorem lower_size (s : ByteArray) : (lowerA s).size = s.size := by
  show ((s.data.toList.map lowerB).toArray).size = s.data.size
  rw [List.size_toArray, List.length_map, Array.length_toList]
theorem dec_size (u : Nat) (h : u < 18446744073709551616) : (decB u).size ≤ 20 := by
  unfold decB
  show (Lib.decDigits u).toArray.size ≤ 20
  rw [List.size_toArray, Lib.decDigits_length]
  rcases Nat.eq_zero_or_pos u with rfl | h1
  · unfold Lib.nDigits; simp
  · have := Lib.numDigits_eq u h1 h
    split at this <;> omega
theorem rem_size (mo : Int) (hmo : 1 ≤ mo) (s : ByteArray) : (remM mo s).size ≤ 20 := by
  obtain ⟨b1, b2⟩ := hash_bound s
  unfold remM
  have h1 : hashM s % mo ≤ hashM s := by
    obtain ⟨H, hH⟩ : ∃ H : Nat, hashM s = H := ⟨(hashM s).toNat, by omega⟩
    obtain ⟨M, rfl⟩ : ∃ M : Nat, mo = M := ⟨mo.toNat, by omega⟩
    rw [hH, ← Int.natCast_emod]
    have := Nat.mod_le H M
    omega
  have h2 := Int.emod_nonneg (hashM s) (show mo ≠ 0 by omega)
  exact dec_size _ (by omega)

set_option maxHeartbeats 4000000 in
set_option maxRecDepth 100000 in
theorem set_lower (b1 b2 : Nat) (p : Option Addr) (c : Nat) (ss : List ByteArray) (se : ByteArray) (pp : Option Addr) (ta rp : ByteArray) (mo : Int) (q base : Nat) (ls : List Lab) (v0 : Value) (w : World) (h1 : BK w b1 (.cells #[.slice p ss.length c, .string se, .pointer pp, .string ta, .string rp, .int .u64 mo] 189 (0, 0))) (h2 : BK w b2 (.cells #[.func (.func 112) #[] #[]] 145 (0, 0))) (hg : GL w)
    (hs : SS w (.slice p ss.length c) ss) (hle : base ≤ w.heap.size) (hq : BK w q (.cells #[v0] 143 (0, 0))) (ho : w.ownsRow base 42 2 v0 ls.length (cellsOfL ls)) (hnq : v0.ownBlock ≠ some q) (hok : LOK ls) (hsn : ss.length ≤ 1000) (hse : se.size ≤ 1000) (h1b : b1 < base) (h2b : b2 < base) (hqb : base ≤ q) :
    Calls Tryz.prog 135 #[.pointer (some ⟨q, 0, none⟩), .pointer (some ⟨b1, 0, none⟩), .pointer (some ⟨b2, 0, none⟩)] w fun x w' => x = .returned (.bool true) ∧ LT w' q base (Go.Proofs.YtcbiidoebpkifaaGreatDoor.setL ls ta (lowerA (textN ls ss se))) ∧ Ex (q :: v0.ownBlock.toList) w w' := by
  have HLT : Hid (LT w q base ls) := ⟨hle, v0, hq, ho, hnq⟩
  obtain ⟨hc1, hf1⟩ := h1.all
  obtain ⟨hc2, hf2⟩ := h2.all
  have hl1 := h1.lt
  have hl2 := h2.lt
  have hlq := hq.lt
  have KT := hide (fun (w' : World) (hx : Ex [] w w') => text_any p c ss se pp ta rp mo q base ls w' (hs.ex0 hx) (HLT.out.exN hx rfl) (by have := hok.len; omega) hsn (fun t => hok.srt.for t) (fun t => by have := val_size hok t; omega) (by omega))
  have htb := text_bound hok ss se hsn hse
  obtain ⟨vv, hvv⟩ : ∃ vv, vv = textN ls ss se := ⟨_, rfl⟩
  rw [← hvv] at KT htb ⊢
  have hus : (lowerA vv).size ≤ 281474976710656 := by
    have := lower_size vv
    omega
  have KU := hide (fun (w' : World) (hx : Ex [] w w') => lower_any vv w' (by omega))
  obtain ⟨uu, huu⟩ : ∃ uu, lowerA vv = uu := ⟨_, rfl⟩
  rw [huu] at KU hus ⊢
  have hc20 : w.cell? ⟨b2, 0, none⟩ = some (.func (.func 112) #[] #[]) := by rw [hc2]; rfl
  have KS := hide (fun (w' : World) (hx : Ex [] w w') => set_any q base ls ta uu v0 w' (by have := hx.size; omega) (hq.ex hx (by simp)) (own_ex ho hx (by simp)) hnq (hok.len) (hok.srt.for ta) hus)
  have hnm : ∀ b, b < base → b ∉ (q :: v0.ownBlock.toList) := fun b hb hm => by
    simp only [List.mem_cons, Option.mem_toList] at hm
    rcases hm with h | h
    · omega
    · have := own_block ho b h; omega
  have HNM := hide hnm
  obtain ⟨n, hn⟩ : ∃ n, n = ss.length := ⟨_, rfl⟩
  rw [← hn] at KT h1 hc1
  unfold meansV at *
  have H1 := hide h1
  have H2 := hide h2
  clear hs h1 h2 hq ho hnq hvv huu hc2 hnm hn hg hok htb hus
  go_enter Tryz.func135, Tryz.ntmps135
  go_wp2_with fail
  go_region_held3 (fun w' => (∀ o, w'.cell? ⟨b1, o, none⟩ = #[Value.slice p n c, .string se, .pointer pp, .string ta, .string rp, .int .u64 mo][o]?) ∧ w'.cell? ⟨b2, 0, none⟩ = some (.func (.func 112) #[] #[]))
    (first | exact q8 | exact q7 | exact q6 | exact ⟨hc1, hc20⟩)
    (first
      | (go_at_call 130; refine (show Calls _ _ _ _ _ from KT.out _ ((Ex.refl _ _).drew)).mono ?_; rintro e w6 ⟨rfl, hx6⟩; have hy6 : Ex [] w w6 := ((Ex.refl [] w).drew).trans hx6; have q6 := And.intro (H1.out.ex hy6 (by simp)).all.1 ((H2.out.ex hy6 (by simp)).all.1 0))
      | (go_at_call 112; refine (show Calls _ _ _ _ _ from KU.out _ hy6).mono ?_; rintro e w7 ⟨rfl, hx7⟩; have hy7 : Ex [] w w7 := hy6.trans hx7; have q7 := And.intro (H1.out.ex hy7 (by simp)).all.1 ((H2.out.ex hy7 (by simp)).all.1 0))
      | (go_at_call 48; refine (show Calls _ _ _ _ _ from KS.out _ hy7).mono ?_; rintro e w8 ⟨rfl, hlt8, hx8⟩; have q8 := And.intro ((H1.out.ex hy7 (by simp)).ex hx8 (HNM.out b1 h1b)).all.1 (((H2.out.ex hy7 (by simp)).ex hx8 (HNM.out b2 h2b)).all.1 0)))
  have HL8 := hide hlt8
  have HX8 : Hid (Ex (q :: v0.ownBlock.toList) w w8) := (hy7.drop (by simp)).trans hx8
  clear q6 q7 q8 hlt8 hx8 hy7 hx7 hy6 hx6 hc1 hc20 hf1 hf2
  go_wp2_with fail
  go_ret
  exact ⟨rfl, HL8.out, HX8.out⟩

set_option maxHeartbeats 2000000 in
set_option maxRecDepth 100000 in
theorem does_lower (lo : Nat) (p : Option Addr) (c : Nat) (ss : List ByteArray) (se : ByteArray) (pp : Option Addr) (ta rp : ByteArray) (mo : Int) (w : World) (b1 b2 : Nat)
    (h1 : BK w b1 (.cells #[.slice p ss.length c, .string se, .pointer pp, .string ta, .string rp, .int .u64 mo] 189 (0, 0))) (h2 : BK w b2 (.cells #[.func (.func 112) #[] #[]] 145 (0, 0))) (hl1 : lo ≤ b1) (hl2 : lo ≤ b2)
    (hs : SS w (.slice p ss.length c) ss) (hsb : ∀ k, (Value.slice p ss.length c).ownBlock = some k → lo ≤ k) (hta : nameB ta = true) (hsn : ss.length ≤ 1000) (hse : se.size ≤ 1000) :
    Does lo w.heap.size w (.func (.func 135) #[] #[.pointer (some ⟨b1, 0, none⟩), .pointer (some ⟨b2, 0, none⟩)]) (fun ls => (Go.Proofs.YtcbiidoebpkifaaGreatDoor.setL ls ta (lowerA (textN ls ss se)), true)) := by
  refine ⟨Nat.le_refl _, ⟨_, _, _, rfl⟩, fun w1 hk hg q base ls v0 hb hle hqb hq ho hnq hok => ?_⟩
  have KM := hide (fun (w' : World) (hx : Ex [] w1 w') => set_lower b1 b2 p c ss se pp ta rp mo q base ls v0 w' ((BK.kb h1 hk hl1 h1.lt).ex hx (by simp)) ((BK.kb h2 hk hl2 h2.lt).ex hx (by simp)) (hg.ex hx) ((SS.kb hs hk hsb).ex0 hx) (Nat.le_trans hle hx.size) (hq.ex hx (by simp)) (own_ex ho hx (by simp)) hnq hok hsn hse (by have := h1.lt; omega) (by have := h2.lt; omega) hqb)
  have HOK := hide (hok.set ta (lowerA (textN ls ss se)) hta)
  have HO := hide ho
  dsimp only
  clear hs hsb hk hg hq ho hnq hok h1 h2
  go_enter Tryz.func53, Tryz.ntmps53
  go_wp2_with fail
  refine (KM.out _ ((Ex.refl _ _).alloc _)).mono ?_
  rintro x w2 ⟨rfl, hl2, hx2⟩
  have HX2 := hide ((((Ex.refl [] w1).alloc _).drop (by simp)).trans hx2)
  have HL2 := hide hl2
  clear hx2 hl2
  go_wp2_with fail
  go_ret
  exact ⟨rfl, HL2.out, HOK.out, eb_own HX2.out hqb HO.out hle⟩

set_option maxHeartbeats 4000000 in
set_option maxRecDepth 100000 in
theorem set_upper (b1 b2 : Nat) (p : Option Addr) (c : Nat) (ss : List ByteArray) (se : ByteArray) (pp : Option Addr) (ta rp : ByteArray) (mo : Int) (q base : Nat) (ls : List Lab) (v0 : Value) (w : World) (h1 : BK w b1 (.cells #[.slice p ss.length c, .string se, .pointer pp, .string ta, .string rp, .int .u64 mo] 189 (0, 0))) (h2 : BK w b2 (.cells #[.func (.func 113) #[] #[]] 145 (0, 0))) (hg : GL w)
    (hs : SS w (.slice p ss.length c) ss) (hle : base ≤ w.heap.size) (hq : BK w q (.cells #[v0] 143 (0, 0))) (ho : w.ownsRow base 42 2 v0 ls.length (cellsOfL ls)) (hnq : v0.ownBlock ≠ some q) (hok : LOK ls) (hsn : ss.length ≤ 1000) (hse : se.size ≤ 1000) (h1b : b1 < base) (h2b : b2 < base) (hqb : base ≤ q) :
    Calls Tryz.prog 135 #[.pointer (some ⟨q, 0, none⟩), .pointer (some ⟨b1, 0, none⟩), .pointer (some ⟨b2, 0, none⟩)] w fun x w' => x = .returned (.bool true) ∧ LT w' q base (Go.Proofs.YtcbiidoebpkifaaGreatDoor.setL ls ta (upperA (textN ls ss se))) ∧ Ex (q :: v0.ownBlock.toList) w w' := by
  have HLT : Hid (LT w q base ls) := ⟨hle, v0, hq, ho, hnq⟩
  obtain ⟨hc1, hf1⟩ := h1.all
  obtain ⟨hc2, hf2⟩ := h2.all
  have hl1 := h1.lt
  have hl2 := h2.lt
  have hlq := hq.lt
  have KT := hide (fun (w' : World) (hx : Ex [] w w') => text_any p c ss se pp ta rp mo q base ls w' (hs.ex0 hx) (HLT.out.exN hx rfl) (by have := hok.len; omega) hsn (fun t => hok.srt.for t) (fun t => by have := val_size hok t; omega) (by omega))
  have htb := text_bound hok ss se hsn hse
  obtain ⟨vv, hvv⟩ : ∃ vv, vv = textN ls ss se := ⟨_, rfl⟩
  rw [← hvv] at KT htb ⊢
  have hus : (upperA vv).size ≤ 281474976710656 := by
    have := upper_size vv
    omega
  have KU := hide (fun (w' : World) (hx : Ex [] w w') => upper_any vv w' (by omega))
  obtain ⟨uu, huu⟩ : ∃ uu, upperA vv = uu := ⟨_, rfl⟩
  rw [huu] at KU hus ⊢
  have hc20 : w.cell? ⟨b2, 0, none⟩ = some (.func (.func 113) #[] #[]) := by rw [hc2]; rfl
  have KS := hide (fun (w' : World) (hx : Ex [] w w') => set_any q base ls ta uu v0 w' (by have := hx.size; omega) (hq.ex hx (by simp)) (own_ex ho hx (by simp)) hnq (hok.len) (hok.srt.for ta) hus)
  have hnm : ∀ b, b < base → b ∉ (q :: v0.ownBlock.toList) := fun b hb hm => by
    simp only [List.mem_cons, Option.mem_toList] at hm
    rcases hm with h | h
    · omega
    · have := own_block ho b h; omega
  have HNM := hide hnm
  obtain ⟨n, hn⟩ : ∃ n, n = ss.length := ⟨_, rfl⟩
  rw [← hn] at KT h1 hc1
  unfold meansV at *
  have H1 := hide h1
  have H2 := hide h2
  clear hs h1 h2 hq ho hnq hvv huu hc2 hnm hn hg hok htb hus
  go_enter Tryz.func135, Tryz.ntmps135
  go_wp2_with fail
  go_region_held3 (fun w' => (∀ o, w'.cell? ⟨b1, o, none⟩ = #[Value.slice p n c, .string se, .pointer pp, .string ta, .string rp, .int .u64 mo][o]?) ∧ w'.cell? ⟨b2, 0, none⟩ = some (.func (.func 113) #[] #[]))
    (first | exact q8 | exact q7 | exact q6 | exact ⟨hc1, hc20⟩)
    (first
      | (go_at_call 130; refine (show Calls _ _ _ _ _ from KT.out _ ((Ex.refl _ _).drew)).mono ?_; rintro e w6 ⟨rfl, hx6⟩; have hy6 : Ex [] w w6 := ((Ex.refl [] w).drew).trans hx6; have q6 := And.intro (H1.out.ex hy6 (by simp)).all.1 ((H2.out.ex hy6 (by simp)).all.1 0))
      | (go_at_call 113; refine (show Calls _ _ _ _ _ from KU.out _ hy6).mono ?_; rintro e w7 ⟨rfl, hx7⟩; have hy7 : Ex [] w w7 := hy6.trans hx7; have q7 := And.intro (H1.out.ex hy7 (by simp)).all.1 ((H2.out.ex hy7 (by simp)).all.1 0))
      | (go_at_call 48; refine (show Calls _ _ _ _ _ from KS.out _ hy7).mono ?_; rintro e w8 ⟨rfl, hlt8, hx8⟩; have q8 := And.intro ((H1.out.ex hy7 (by simp)).ex hx8 (HNM.out b1 h1b)).all.1 (((H2.out.ex hy7 (by simp)).ex hx8 (HNM.out b2 h2b)).all.1 0)))
  have HL8 := hide hlt8
  have HX8 : Hid (Ex (q :: v0.ownBlock.toList) w w8) := (hy7.drop (by simp)).trans hx8
  clear q6 q7 q8 hlt8 hx8 hy7 hx7 hy6 hx6 hc1 hc20 hf1 hf2
  go_wp2_with fail
  go_ret
  exact ⟨rfl, HL8.out, HX8.out⟩

set_option maxHeartbeats 2000000 in
set_option maxRecDepth 100000 in
theorem does_upper (lo : Nat) (p : Option Addr) (c : Nat) (ss : List ByteArray) (se : ByteArray) (pp : Option Addr) (ta rp : ByteArray) (mo : Int) (w : World) (b1 b2 : Nat)
    (h1 : BK w b1 (.cells #[.slice p ss.length c, .string se, .pointer pp, .string ta, .string rp, .int .u64 mo] 189 (0, 0))) (h2 : BK w b2 (.cells #[.func (.func 113) #[] #[]] 145 (0, 0))) (hl1 : lo ≤ b1) (hl2 : lo ≤ b2)
    (hs : SS w (.slice p ss.length c) ss) (hsb : ∀ k, (Value.slice p ss.length c).ownBlock = some k → lo ≤ k) (hta : nameB ta = true) (hsn : ss.length ≤ 1000) (hse : se.size ≤ 1000) :
    Does lo w.heap.size w (.func (.func 135) #[] #[.pointer (some ⟨b1, 0, none⟩), .pointer (some ⟨b2, 0, none⟩)]) (fun ls => (Go.Proofs.YtcbiidoebpkifaaGreatDoor.setL ls ta (upperA (textN ls ss se)), true)) := by
  refine ⟨Nat.le_refl _, ⟨_, _, _, rfl⟩, fun w1 hk hg q base ls v0 hb hle hqb hq ho hnq hok => ?_⟩
  have KM := hide (fun (w' : World) (hx : Ex [] w1 w') => set_upper b1 b2 p c ss se pp ta rp mo q base ls v0 w' ((BK.kb h1 hk hl1 h1.lt).ex hx (by simp)) ((BK.kb h2 hk hl2 h2.lt).ex hx (by simp)) (hg.ex hx) ((SS.kb hs hk hsb).ex0 hx) (Nat.le_trans hle hx.size) (hq.ex hx (by simp)) (own_ex ho hx (by simp)) hnq hok hsn hse (by have := h1.lt; omega) (by have := h2.lt; omega) hqb)
  have HOK := hide (hok.set ta (upperA (textN ls ss se)) hta)
  have HO := hide ho
  dsimp only
  clear hs hsb hk hg hq ho hnq hok h1 h2
  go_enter Tryz.func53, Tryz.ntmps53
  go_wp2_with fail
  refine (KM.out _ ((Ex.refl _ _).alloc _)).mono ?_
  rintro x w2 ⟨rfl, hl2, hx2⟩
  have HX2 := hide ((((Ex.refl [] w1).alloc _).drop (by simp)).trans hx2)
  have HL2 := hide hl2
  clear hx2 hl2
  go_wp2_with fail
  go_ret
  exact ⟨rfl, HL2.out, HOK.out, eb_own HX2.out hqb HO.out hle⟩

set_option maxHeartbeats 4000000 in
set_option maxRecDepth 100000 in
theorem set_remainder (b1 b2 : Nat) (p : Option Addr) (c : Nat) (ss : List ByteArray) (se : ByteArray) (pp : Option Addr) (ta rp : ByteArray) (mo : Int) (hmo : 1 ≤ mo) (q base : Nat) (ls : List Lab) (v0 : Value) (w : World) (h1 : BK w b1 (.cells #[.slice p ss.length c, .string se, .pointer pp, .string ta, .string rp, .int .u64 mo] 189 (0, 0))) (h2 : BK w b2 (.cells #[.func (.func 108) #[.agg #[.slice p ss.length c, .string se, .pointer pp, .string ta, .string rp, .int .u64 mo]] #[]] 145 (0, 0))) (hg : GL w)
    (hs : SS w (.slice p ss.length c) ss) (hle : base ≤ w.heap.size) (hq : BK w q (.cells #[v0] 143 (0, 0))) (ho : w.ownsRow base 42 2 v0 ls.length (cellsOfL ls)) (hnq : v0.ownBlock ≠ some q) (hok : LOK ls) (hsn : ss.length ≤ 1000) (hse : se.size ≤ 1000) (h1b : b1 < base) (h2b : b2 < base) (hqb : base ≤ q) :
    Calls Tryz.prog 135 #[.pointer (some ⟨q, 0, none⟩), .pointer (some ⟨b1, 0, none⟩), .pointer (some ⟨b2, 0, none⟩)] w fun x w' => x = .returned (.bool true) ∧ LT w' q base (Go.Proofs.YtcbiidoebpkifaaGreatDoor.setL ls ta (remM mo (textN ls ss se))) ∧ Ex (q :: v0.ownBlock.toList) w w' := by
  have HLT : Hid (LT w q base ls) := ⟨hle, v0, hq, ho, hnq⟩
  obtain ⟨hc1, hf1⟩ := h1.all
  obtain ⟨hc2, hf2⟩ := h2.all
  have hl1 := h1.lt
  have hl2 := h2.lt
  have hlq := hq.lt
  have KT := hide (fun (w' : World) (hx : Ex [] w w') => text_any p c ss se pp ta rp mo q base ls w' (hs.ex0 hx) (HLT.out.exN hx rfl) (by have := hok.len; omega) hsn (fun t => hok.srt.for t) (fun t => by have := val_size hok t; omega) (by omega))
  have htb := text_bound hok ss se hsn hse
  obtain ⟨vv, hvv⟩ : ∃ vv, vv = textN ls ss se := ⟨_, rfl⟩
  rw [← hvv] at KT htb ⊢
  have hus : (remM mo vv).size ≤ 281474976710656 := by
    have := rem_size mo hmo vv
    omega
  have KU := hide (fun (w' : World) (hx : Ex [] w w') => remainder_any p ss.length c se pp ta rp mo hmo vv (by omega) w' (hg.ex hx).2)
  obtain ⟨uu, huu⟩ : ∃ uu, remM mo vv = uu := ⟨_, rfl⟩
  rw [huu] at KU hus ⊢
  have hc20 : w.cell? ⟨b2, 0, none⟩ = some (.func (.func 108) #[.agg #[.slice p ss.length c, .string se, .pointer pp, .string ta, .string rp, .int .u64 mo]] #[]) := by rw [hc2]; rfl
  have KS := hide (fun (w' : World) (hx : Ex [] w w') => set_any q base ls ta uu v0 w' (by have := hx.size; omega) (hq.ex hx (by simp)) (own_ex ho hx (by simp)) hnq (hok.len) (hok.srt.for ta) hus)
  have hnm : ∀ b, b < base → b ∉ (q :: v0.ownBlock.toList) := fun b hb hm => by
    simp only [List.mem_cons, Option.mem_toList] at hm
    rcases hm with h | h
    · omega
    · have := own_block ho b h; omega
  have HNM := hide hnm
  obtain ⟨n, hn⟩ : ∃ n, n = ss.length := ⟨_, rfl⟩
  rw [← hn] at KT KU h1 h2 hc1 hc20
  unfold meansV at *
  have H1 := hide h1
  have H2 := hide h2
  clear hs h1 h2 hq ho hnq hvv huu hc2 hnm hn hg hok htb hus
  go_enter Tryz.func135, Tryz.ntmps135
  go_wp2_with fail
  go_region_held3 (fun w' => (∀ o, w'.cell? ⟨b1, o, none⟩ = #[Value.slice p n c, .string se, .pointer pp, .string ta, .string rp, .int .u64 mo][o]?) ∧ w'.cell? ⟨b2, 0, none⟩ = some (.func (.func 108) #[.agg #[.slice p n c, .string se, .pointer pp, .string ta, .string rp, .int .u64 mo]] #[]))
    (first | exact q8 | exact q7 | exact q6 | exact ⟨hc1, hc20⟩)
    (first
      | (go_at_call 130; refine (show Calls _ _ _ _ _ from KT.out _ ((Ex.refl _ _).drew)).mono ?_; rintro e w6 ⟨rfl, hx6⟩; have hy6 : Ex [] w w6 := ((Ex.refl [] w).drew).trans hx6; have q6 := And.intro (H1.out.ex hy6 (by simp)).all.1 ((H2.out.ex hy6 (by simp)).all.1 0))
      | (go_at_call 108; refine (show Calls _ _ _ _ _ from KU.out _ hy6).mono ?_; rintro e w7 ⟨rfl, hx7⟩; have hy7 : Ex [] w w7 := hy6.trans hx7; have q7 := And.intro (H1.out.ex hy7 (by simp)).all.1 ((H2.out.ex hy7 (by simp)).all.1 0))
      | (go_at_call 48; refine (show Calls _ _ _ _ _ from KS.out _ hy7).mono ?_; rintro e w8 ⟨rfl, hlt8, hx8⟩; have q8 := And.intro ((H1.out.ex hy7 (by simp)).ex hx8 (HNM.out b1 h1b)).all.1 (((H2.out.ex hy7 (by simp)).ex hx8 (HNM.out b2 h2b)).all.1 0)))
  have HL8 := hide hlt8
  have HX8 : Hid (Ex (q :: v0.ownBlock.toList) w w8) := (hy7.drop (by simp)).trans hx8
  clear q6 q7 q8 hlt8 hx8 hy7 hx7 hy6 hx6 hc1 hc20 hf1 hf2
  go_wp2_with fail
  go_ret
  exact ⟨rfl, HL8.out, HX8.out⟩

set_option maxHeartbeats 2000000 in
set_option maxRecDepth 100000 in
theorem does_remainder (lo : Nat) (p : Option Addr) (c : Nat) (ss : List ByteArray) (se : ByteArray) (pp : Option Addr) (ta rp : ByteArray) (mo : Int) (hmo : 1 ≤ mo) (w : World) (b1 b2 : Nat)
    (h1 : BK w b1 (.cells #[.slice p ss.length c, .string se, .pointer pp, .string ta, .string rp, .int .u64 mo] 189 (0, 0))) (h2 : BK w b2 (.cells #[.func (.func 108) #[.agg #[.slice p ss.length c, .string se, .pointer pp, .string ta, .string rp, .int .u64 mo]] #[]] 145 (0, 0))) (hl1 : lo ≤ b1) (hl2 : lo ≤ b2)
    (hs : SS w (.slice p ss.length c) ss) (hsb : ∀ k, (Value.slice p ss.length c).ownBlock = some k → lo ≤ k) (hta : nameB ta = true) (hsn : ss.length ≤ 1000) (hse : se.size ≤ 1000) :
    Does lo w.heap.size w (.func (.func 135) #[] #[.pointer (some ⟨b1, 0, none⟩), .pointer (some ⟨b2, 0, none⟩)]) (fun ls => (Go.Proofs.YtcbiidoebpkifaaGreatDoor.setL ls ta (remM mo (textN ls ss se)), true)) := by
  refine ⟨Nat.le_refl _, ⟨_, _, _, rfl⟩, fun w1 hk hg q base ls v0 hb hle hqb hq ho hnq hok => ?_⟩
  have KM := hide (fun (w' : World) (hx : Ex [] w1 w') => set_remainder b1 b2 p c ss se pp ta rp mo hmo q base ls v0 w' ((BK.kb h1 hk hl1 h1.lt).ex hx (by simp)) ((BK.kb h2 hk hl2 h2.lt).ex hx (by simp)) (hg.ex hx) ((SS.kb hs hk hsb).ex0 hx) (Nat.le_trans hle hx.size) (hq.ex hx (by simp)) (own_ex ho hx (by simp)) hnq hok hsn hse (by have := h1.lt; omega) (by have := h2.lt; omega) hqb)
  have HOK := hide (hok.set ta (remM mo (textN ls ss se)) hta)
  have HO := hide ho
  dsimp only
  clear hs hsb hk hg hq ho hnq hok h1 h2
  go_enter Tryz.func53, Tryz.ntmps53
  go_wp2_with fail
  refine (KM.out _ ((Ex.refl _ _).alloc _)).mono ?_
  rintro x w2 ⟨rfl, hl2, hx2⟩
  have HX2 := hide ((((Ex.refl [] w1).alloc _).drop (by simp)).trans hx2)
  have HL2 := hide hl2
  clear hx2 hl2
  go_wp2_with fail
  go_ret
  exact ⟨rfl, HL2.out, HOK.out, eb_own HX2.out hqb HO.out hle⟩
end Go.Proofs.YtcbiidoebpkifaaGreatDoor.G
