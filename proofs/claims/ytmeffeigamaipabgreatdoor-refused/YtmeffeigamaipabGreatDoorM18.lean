/- F8 F9, one behind the other. -/
import Derived.Test.YtmeffeigamaipabGreatDoorM17
set_option linter.unusedVariables false
set_option linter.unusedSimpArgs false
/- Contracts: the text of one source; a rule that raises it. -/
namespace Go.Proofs.YtmeffeigamaipabGreatDoor
open Go.RowKit

theorem upper_size (s : ByteArray) : (upperA s).size = s.size := by
  show ((s.data.toList.map upperB).toArray).size = s.data.size
  rw [List.size_toArray, List.length_map, Array.length_toList]
theorem LT.exN {l : List Nat} {w w' : World} {q base : Nat} {ls : List Lab} (h : LT w q base ls) (hx : Ex l w w') (hl : l = []) : LT w' q base ls := by
  subst hl
  obtain ⟨v, hb, ho, hn⟩ := h.ex
  exact ⟨Nat.le_trans h.le hx.size, v, hb.ex hx (by simp), own_ex ho hx (by simp), hn⟩

set_option maxHeartbeats 2000000 in
set_option maxRecDepth 100000 in
theorem text_one (p : Option Addr) (c : Nat) (a1 se : ByteArray) (pp : Option Addr) (ta rp : ByteArray) (mo : Int) (q base : Nat) (ls : List Lab) (w : World) (hs : SS w (.slice p 1 c) [a1]) (hq : LT w q base ls) (hn : ls.length ≤ 1000) (hsrt : SortedFor ls a1) :
    Calls Tryz.prog 100 #[meansV (.slice p 1 c) se (.pointer pp) ta rp mo, .pointer (some ⟨q, 0, none⟩)] w fun x w' => x = .returned (.string (valN ls a1)) ∧ Ex [] w w' := by
  unfold meansV
  obtain ⟨i0, hi, hz0, hz1, hz2⟩ := info_parts infoStr
  obtain ⟨b, rfl, hb, c0⟩ : ∃ b, p = some ⟨b, 0, none⟩ ∧ b < w.heap.size ∧ w.cell? ⟨b, 0, none⟩ = some (.string a1) := by
    rcases hs with ⟨h1, h2⟩ | ⟨b, c', h1, hb, hc⟩
    · cases h2
    · cases h1; exact ⟨b, rfl, hb, hc 0 a1 rfl⟩
  have HQ := hide hq
  have HS := hide hsrt
  obtain ⟨vv, hvv⟩ : ∃ vv, valN ls a1 = vv := ⟨_, rfl⟩
  have KV := hide (fun w' hq' => value_any q base ls a1 w' hq' hn hsrt)
  rw [hvv] at KV ⊢
  clear hs hq hsrt hvv
  go_enter Tryz.func100, Tryz.ntmps100
  go_wp2_with fail
  refine wp_loop_rounds 2 ?_
  rw [rounds_succ]
  go_wp2_with fail
  refine (KV.out _ (HQ.out.exN ((Ex.refl [] w).alloc _) (by simp))).mono ?_
  rintro x w1 ⟨rfl, hx1⟩
  have hz1' := hx1.size
  simp only [World.size_alloc] at hz1'
  have hB := (BK.new w (Obj.cells #[.slice (some ⟨b, 0, none⟩) 1 c, .string se, .pointer pp, .string ta, .string rp, .int .u64 mo] 116)).ex hx1 (by simp)
  have HB := hide hB
  have HX1 := hide hx1
  clear hx1 hB c0
  go_wp2_with (at_builtin; refine wpList_append_lies _ rfl (.tmp 15) (.tmp 19) 34 rfl w1.heap.size 9 i0 (.string ⟨#[]⟩) 1 16 Tryz.underlying34 hi hz0 hz1 hz2 rfl (by decide) (.slice none 0 0) 0 [] rfl (World.ownsRow_nil _ _ _ _) ⟨w1.heap.size, 0, none⟩ 1 1 [.string vv] rfl rfl (cells_new _ _ _) (by simp [Value.oneCell']) (by decide) (by unfold maxLen; omega) (by omega) (by simp) (w1.heap.size + 1) (by simp) ?_)
  intro gb cap w2 hown2 hgrow hcase hlt2
  have hss2 : SS w2 (.slice (some ⟨gb, 0, none⟩) 1 cap) [vv] := own_ss (ss := [vv]) hown2
  have hx2 : Ex [] w1 w2 := Ex.grown ((Ex.refl _ _).alloc _) hgrow (by simp [Value.ownBlock])
  have hB2 := HB.out.ex hx2 (by simp)
  obtain ⟨hc2, hf2⟩ := hB2.all
  have hl2 := hB2.lt
  have HSS := hide hss2
  have HX2 := hide (HX1.out.trans hx2)
  clear hown2 hgrow hcase hss2 hx2 hB2
  go_wp2_with fail
  rw [rounds_succ]
  go_wp2_with fail
  refine (join_one vv se _ _ HSS.out).mono ?_
  rintro x w3 ⟨rfl, hx3⟩
  have HX3 := hide (HX2.out.trans hx3)
  clear hx3 hc2 hf2
  go_wp2_with fail
  go_ret
  exact ⟨rfl, ((Ex.refl _ _).alloc _).trans HX3.out⟩

set_option maxHeartbeats 2000000 in
set_option maxRecDepth 100000 in
theorem raise_one (b1 b2 : Nat) (p : Option Addr) (c : Nat) (a1 se : ByteArray) (pp : Option Addr) (ta rp : ByteArray) (mo : Int) (q base : Nat) (ls : List Lab) (v0 : Value) (w : World) (h1 : BK w b1 (.cells #[.slice p 1 c, .string se, .pointer pp, .string ta, .string rp, .int .u64 mo] 116 (0, 0))) (h2 : BK w b2 (.cells #[.func (.func 79) #[] #[]] 55 (0, 0)))
    (hs : SS w (.slice p 1 c) [a1]) (hle : base ≤ w.heap.size) (hq : BK w q (.cells #[v0] 98 (0, 0))) (ho : w.ownsRow base 48 2 v0 ls.length (cellsOfL ls)) (hnq : v0.ownBlock ≠ some q) (hn : ls.length ≤ 60) (hsrt : SortedFor ls a1) (hsrt2 : SortedFor ls ta) (hvs : (valN ls a1).size ≤ 200) (h1b : b1 < base) (h2b : b2 < base) (hqb : base ≤ q) :
    Calls Tryz.prog 106 #[.pointer (some ⟨q, 0, none⟩), .pointer (some ⟨b1, 0, none⟩), .pointer (some ⟨b2, 0, none⟩)] w fun x w' => x = .returned (.bool true) ∧ LT w' q base (setL ls ta (upperA (valN ls a1))) ∧ Ex (q :: v0.ownBlock.toList) w w' := by
  have HLT : Hid (LT w q base ls) := ⟨hle, v0, hq, ho, hnq⟩
  obtain ⟨hc1, hf1⟩ := h1.all
  obtain ⟨hc2, hf2⟩ := h2.all
  have hl1 := h1.lt
  have hl2 := h2.lt
  have hlq := hq.lt
  have KT := hide (fun w' hs' hq' => text_one p c a1 se pp ta rp mo q base ls w' hs' hq' (by omega) hsrt)
  unfold meansV at KT
  have HS := hide hs
  have H1 := hide h1
  have H2 := hide h2
  have HQ := hide hq
  have HO := hide ho
  have HNQ := hide hnq
  have HSR := hide hsrt2
  obtain ⟨vv, hvv⟩ : ∃ vv, valN ls a1 = vv := ⟨_, rfl⟩
  rw [hvv] at KT hvs ⊢
  have hus : (upperA vv).size ≤ 281474976710656 := by
    have : (upperA vv).size = vv.size := upper_size vv
    omega
  have KU := hide (fun w' => upper_any vv w' (by omega))
  obtain ⟨uu, huu⟩ : ∃ uu, upperA vv = uu := ⟨_, rfl⟩
  rw [huu] at KU hus ⊢
  have hc20 : w.cell? ⟨b2, 0, none⟩ = some (.func (.func 79) #[] #[]) := by rw [hc2]; rfl
  clear hs h1 h2 hq ho hnq hsrt hsrt2 hvv huu hc2
  go_enter Tryz.func106, Tryz.ntmps106
  go_wp2_with fail
  refine wp_region_J (by kernel_rfl) ?_
  refine wpAny_take (i := 0) (v := ?_) rfl (by kernel_rfl) (by kernel_rfl) (by kernel_rfl) (fun _ _ _ h => h) (Or.inl ⟨by rfl, ?_⟩) ?_
  rotate_left
  · intro w'
    go_simp
    try with_reducible rfl
  simp only [Act.put, List.setIfInBounds_toArray, List.set_cons_zero, List.set_cons_succ, List.getElem_toArray, List.getElem_cons_zero, List.getElem_cons_succ, List.replicate, Array.replicate, List.size_toArray, List.length_cons, List.length_nil]
  refine wpAny_take (i := 1) (v := ?_) rfl (by kernel_rfl) (by kernel_rfl) (by kernel_rfl) (fun _ _ _ h => h) (Or.inl ⟨by rfl, ?_⟩) ?_
  rotate_left
  · intro w'
    go_simp
    try with_reducible rfl
  simp only [Act.put, List.setIfInBounds_toArray, List.set_cons_zero, List.set_cons_succ, List.getElem_toArray, List.getElem_cons_zero, List.getElem_cons_succ, List.replicate, Array.replicate, List.size_toArray, List.length_cons, List.length_nil]
  refine wpAny_take (i := 5) (v := ?_) rfl (by kernel_rfl) (by kernel_rfl) (by kernel_rfl) (fun _ _ _ h => h) (Or.inl ⟨by rfl, ?_⟩) ?_
  rotate_left
  · intro w'
    go_simp
    try with_reducible rfl
  simp only [Act.put, List.setIfInBounds_toArray, List.set_cons_zero, List.set_cons_succ, List.getElem_toArray, List.getElem_cons_zero, List.getElem_cons_succ, List.replicate, Array.replicate, List.size_toArray, List.length_cons, List.length_nil]
  refine wpAny_of_J (S := (fun j w' => j < 9 → (∀ o, w'.cell? ⟨b1, o, none⟩ = #[Value.slice p 1 c, .string se, .pointer pp, .string ta, .string rp, .int .u64 mo][o]?) ∧ w'.cell? ⟨b2, 0, none⟩ = some (.func (.func 79) #[] #[]))) _ _ _ _ ?_
  refine wpAnyJ_take (i := 2) (T := (fun w' => (∀ o, w'.cell? ⟨b1, o, none⟩ = #[Value.slice p 1 c, .string se, .pointer pp, .string ta, .string rp, .int .u64 mo][o]?) ∧ w'.cell? ⟨b2, 0, none⟩ = some (.func (.func 79) #[] #[]))) (v := ?_) (fun j => decide (j < 9)) rfl (by kernel_rfl) (by kernel_rfl) (by kernel_rfl) (by kernel_rfl) (fun j w' hj h => h (by simpa using hj)) (fun w' h _ => h) (fun _ _ _ h => h) ⟨hc1, hc20⟩ (Or.inl ⟨by rfl, ?_⟩) ?_
  rotate_left
  · intro w' hSw
    obtain ⟨hSa, hSb⟩ := hSw
    go_simp
    try with_reducible rfl
  simp only [Act.put, List.setIfInBounds_toArray, List.set_cons_zero, List.set_cons_succ, List.getElem_toArray, List.getElem_cons_zero, List.getElem_cons_succ, List.replicate, Array.replicate, List.size_toArray, List.length_cons, List.length_nil]
  refine wpAnyJ_take (i := 3) (T := (fun w' => (∀ o, w'.cell? ⟨b1, o, none⟩ = #[Value.slice p 1 c, .string se, .pointer pp, .string ta, .string rp, .int .u64 mo][o]?) ∧ w'.cell? ⟨b2, 0, none⟩ = some (.func (.func 79) #[] #[]))) (v := ?_) (fun j => decide (j < 9)) rfl (by kernel_rfl) (by kernel_rfl) (by kernel_rfl) (by kernel_rfl) (fun j w' hj h => h (by simpa using hj)) (fun w' h _ => h) (fun _ _ _ h => h) ⟨hc1, hc20⟩ (Or.inl ⟨by rfl, ?_⟩) ?_
  rotate_left
  · intro w' hSw
    obtain ⟨hSa, hSb⟩ := hSw
    go_simp
    try with_reducible rfl
  simp only [Act.put, List.setIfInBounds_toArray, List.set_cons_zero, List.set_cons_succ, List.getElem_toArray, List.getElem_cons_zero, List.getElem_cons_succ, List.replicate, Array.replicate, List.size_toArray, List.length_cons, List.length_nil]
  refine wpAnyJ_take (i := 4) (T := (fun w' => (∀ o, w'.cell? ⟨b1, o, none⟩ = #[Value.slice p 1 c, .string se, .pointer pp, .string ta, .string rp, .int .u64 mo][o]?) ∧ w'.cell? ⟨b2, 0, none⟩ = some (.func (.func 79) #[] #[]))) (v := ?_) (fun j => decide (j < 9)) rfl (by kernel_rfl) (by kernel_rfl) (by kernel_rfl) (by kernel_rfl) (fun j w' hj h => h (by simpa using hj)) (fun w' h _ => h) (fun _ _ _ h => h) ⟨hc1, hc20⟩ (Or.inl ⟨by rfl, ?_⟩) ?_
  rotate_left
  · intro w' hSw
    obtain ⟨hSa, hSb⟩ := hSw
    go_simp
    try with_reducible rfl
  simp only [Act.put, List.setIfInBounds_toArray, List.set_cons_zero, List.set_cons_succ, List.getElem_toArray, List.getElem_cons_zero, List.getElem_cons_succ, List.replicate, Array.replicate, List.size_toArray, List.length_cons, List.length_nil]
  refine wpAnyJ_one (i := 6) rfl rfl (by kernel_rfl) (fun K hK => ?_)
  go_simp
  refine (KT.out _ (HS.out.ex0 (Ex.refl _ _).drew) (HLT.out.exN ((Ex.refl [] w).drew) (by simp))).mono ?_
  rintro x w6 ⟨rfl, hx6⟩
  have hy6 : Ex [] w w6 := ((Ex.refl [] w).drew).trans hx6
  have q6 : (∀ o, w6.cell? ⟨b1, o, none⟩ = #[Value.slice p 1 c, .string se, .pointer pp, .string ta, .string rp, .int .u64 mo][o]?) ∧ w6.cell? ⟨b2, 0, none⟩ = some (.func (.func 79) #[] #[]) := ⟨(H1.out.ex hy6 (by simp)).all.1, (H2.out.ex hy6 (by simp)).all.1 0⟩
  go_wp2_with fail
  refine hK.out _ _ (fun _ => q6) ?_
  clear hK K
  simp only [Act.put, List.setIfInBounds_toArray, List.set_cons_zero, List.set_cons_succ, List.getElem_toArray, List.getElem_cons_zero, List.getElem_cons_succ]
  refine wpAnyJ_one (i := 7) rfl rfl (by kernel_rfl) (fun K hK => ?_)
  go_simp
  refine (KU.out _).mono ?_
  rintro x w7 ⟨rfl, hx7⟩
  have hy7 : Ex [] w w7 := hy6.trans hx7
  have q7 : (∀ o, w7.cell? ⟨b1, o, none⟩ = #[Value.slice p 1 c, .string se, .pointer pp, .string ta, .string rp, .int .u64 mo][o]?) ∧ w7.cell? ⟨b2, 0, none⟩ = some (.func (.func 79) #[] #[]) := ⟨(H1.out.ex hy7 (by simp)).all.1, (H2.out.ex hy7 (by simp)).all.1 0⟩
  go_wp2_with fail
  refine hK.out _ _ (fun _ => q7) ?_
  clear hK K
  simp only [Act.put, List.setIfInBounds_toArray, List.set_cons_zero, List.set_cons_succ, List.getElem_toArray, List.getElem_cons_zero, List.getElem_cons_succ]
  refine wpAnyJ_one (i := 8) rfl rfl (by kernel_rfl) (fun K hK => ?_)
  go_simp
  refine (set_any q base ls ta uu v0 w7 (by have := hy7.size; omega) (HQ.out.ex hy7 (by simp)) (own_ex HO.out hy7 (by simp)) HNQ.out hn HSR.out hus).mono ?_
  rintro x w8 ⟨rfl, hlt8, hx8⟩
  have HL8 := hide hlt8
  have HX8 : Hid (Ex (q :: v0.ownBlock.toList) w w8) := (hy7.drop (by simp)).trans hx8
  go_wp2_with fail
  have hnm : ∀ b, b < base → b ∉ (q :: v0.ownBlock.toList) := fun b hb hm => by
    simp only [List.mem_cons, Option.mem_toList] at hm
    rcases hm with h | h
    · omega
    · have := own_block HO.out b h; omega
  have q8 : (∀ o, w8.cell? ⟨b1, o, none⟩ = #[Value.slice p 1 c, .string se, .pointer pp, .string ta, .string rp, .int .u64 mo][o]?) ∧ w8.cell? ⟨b2, 0, none⟩ = some (.func (.func 79) #[] #[]) := ⟨((H1.out.ex hy7 (by simp)).ex hx8 (hnm b1 h1b)).all.1, ((H2.out.ex hy7 (by simp)).ex hx8 (hnm b2 h2b)).all.1 0⟩
  refine hK.out _ _ (fun _ => q8) ?_
  clear hK K
  refine wpAnyJ_done (by kernel_rfl) ?_ _
  clear hx6 hx7 hx8 hy6 hy7 q6 q7 q8 hnm hlt8 hc1 hf1 hc20 hf2
  go_wp2_with fail
  go_ret
  exact ⟨rfl, HL8.out, HX8.out⟩
end Go.Proofs.YtmeffeigamaipabGreatDoor

/- Contracts: a rule that raises a text, applied; a series rewritten by it alone. -/
namespace Go.Proofs.YtmeffeigamaipabGreatDoor
open Go.RowKit

/-- A rule's closure that raises the text of one source lies there. -/
structure RU (w : World) (base b1 b2 : Nat) (p : Option Addr) (c : Nat) (a1 se : ByteArray) (pp : Option Addr) (ta rp : ByteArray) (mo : Int) : Prop where
  h1 : BK w b1 (.cells #[.slice p 1 c, .string se, .pointer pp, .string ta, .string rp, .int .u64 mo] 116 (0, 0))
  h2 : BK w b2 (.cells #[.func (.func 79) #[] #[]] 55 (0, 0))
  hs : SS w (.slice p 1 c) [a1]
  l1 : b1 < base
  l2 : b2 < base
def upFn (b1 b2 : Nat) : Value := .func (.func 106) #[] #[.pointer (some ⟨b1, 0, none⟩), .pointer (some ⟨b2, 0, none⟩)]
theorem RU.ex0 {w w' : World} {base b1 b2 : Nat} {p : Option Addr} {c : Nat} {a1 se : ByteArray} {pp : Option Addr} {ta rp : ByteArray} {mo : Int} (h : RU w base b1 b2 p c a1 se pp ta rp mo) (hx : Ex [] w w') : RU w' base b1 b2 p c a1 se pp ta rp mo :=
  ⟨h.h1.ex hx (by simp), h.h2.ex hx (by simp), h.hs.ex0 hx, h.l1, h.l2⟩

set_option maxHeartbeats 1000000 in
set_option maxRecDepth 100000 in
theorem apply_raise (b1 b2 : Nat) (p : Option Addr) (c : Nat) (a1 se : ByteArray) (pp : Option Addr) (ta rp : ByteArray) (mo : Int) (q base base0 : Nat) (ls : List Lab) (v0 : Value) (w : World) (hr : RU w base0 b1 b2 p c a1 se pp ta rp mo) (hbb : base0 ≤ base) (hle : base ≤ w.heap.size) (hq : BK w q (.cells #[v0] 98 (0, 0))) (ho : w.ownsRow base 48 2 v0 ls.length (cellsOfL ls)) (hnq : v0.ownBlock ≠ some q) (hn : ls.length ≤ 60) (hsrt : SortedFor ls a1) (hsrt2 : SortedFor ls ta) (hvs : (valN ls a1).size ≤ 200) (hqb : base ≤ q) :
    Calls Tryz.prog 46 #[.agg #[upFn b1 b2], .pointer (some ⟨q, 0, none⟩)] w fun x w' => x = .returned (.bool true) ∧ LT w' q base (setL ls ta (upperA (valN ls a1))) ∧ Ex (q :: v0.ownBlock.toList) w w' := by
  unfold upFn
  obtain ⟨w0, hw0⟩ : ∃ w0, w0 = w.alloc (Obj.cells #[.func (.func 106) #[] #[.pointer (some ⟨b1, 0, none⟩), .pointer (some ⟨b2, 0, none⟩)]] 81) := ⟨_, rfl⟩
  have hx0 : Ex [] w w0 := by rw [hw0]; exact (Ex.refl _ _).alloc _
  have hr0 := hr.ex0 hx0
  have l1 := hr.l1
  have l2 := hr.l2
  have HK := hide (raise_one b1 b2 p c a1 se pp ta rp mo q base ls v0 w0 hr0.h1 hr0.h2 hr0.hs (Nat.le_trans hle hx0.size) (hq.ex hx0 (by simp)) (own_ex ho hx0 (by simp)) hnq hn hsrt hsrt2 hvs (by omega) (by omega) hqb)
  have HX0 := hide hx0
  have HW0 := hide hw0
  clear hr hr0 hq ho hnq hsrt hsrt2 hvs hx0 hw0
  go_enter Tryz.func46, Tryz.ntmps46
  go_wp2_with fail
  rw [← HW0.out]
  refine HK.out.mono ?_
  rintro x w1 ⟨rfl, hl1, hx1⟩
  have HL1 := hide hl1
  have HX1 := hide hx1
  clear hl1 hx1
  go_wp2_with fail
  go_ret
  exact ⟨rfl, HL1.out, (HX0.out.drop (by simp)).trans HX1.out⟩
end Go.Proofs.YtmeffeigamaipabGreatDoor
