/- LabelDrop and LabelKeep: what such a rule does. -/
import Derived.Test.YtcbiidoebpkifaaGreatDoorM37
set_option linter.unusedVariables false
set_option linter.unusedSimpArgs false
namespace Go.Proofs.YtcbiidoebpkifaaGreatDoor.G
open Go.RowKit

set_option maxHeartbeats 2000000 in
set_option maxRecDepth 100000 in
theorem takeAway_any (q base : Nat) (f : FuncId) (fa fc : Array Value) (ls : List Lab) (p : Lab → Bool) (v0 : Value) (w : World) (hq : BK w q (.cells #[v0] 143 (0, 0))) (hown : w.ownsRow base 42 2 v0 ls.length (cellsOfL ls)) (hnq : v0.ownBlock ≠ some q) (hn : ls.length ≤ 1000) (hbw : base ≤ w.heap.size)
    (hl : Picks v0.ownBlock.toList (w.alloc (Obj.cells #[.func (.func f) fa fc] 81)) w.heap.size ls p) :
    Calls Tryz.prog 138 #[.pointer (some ⟨q, 0, none⟩), .func (.func f) fa fc] w fun e w' => e = .returned (.tuple #[]) ∧ LT w' q base (ls.filter fun l => !p l) ∧ Ex (q :: v0.ownBlock.toList) w w' := by
  have hmf : ∀ (fn : Fn) (first cap : Array Value) (w : World), (Instr.makeFunc fn first cap).run Tryz.prog w = .ok (.func fn first cap) w := fun _ _ _ _ => rfl
  have KD := hide (deletePick w.heap.size base v0 ls p _ (own_ex hown ((Ex.refl [] w).alloc (Obj.cells #[.func (.func f) fa fc] 81)) (by simp)) hn (by simp; omega) hl)
  have hq0 := hq.alloc (Obj.cells #[.func (.func f) fa fc] 81)
  have HQ0 := hide hq0
  have HNQ := hide hnq
  obtain ⟨pa, c, rfl⟩ := own_slice hown
  obtain ⟨hcq, hfq⟩ := hq.all
  have hql := hq.lt
  clear hq hown hnq hl hq0
  go_enter Tryz.func138, Tryz.ntmps138
  go_wp2_with fail
  refine KD.out.mono ?_
  rintro e w1 ⟨v', rfl, hob, hown1, hx1⟩
  obtain ⟨p1, c1, rfl⟩ := own_slice hown1
  have hq1 := HQ0.out.ex hx1 (by simpa using HNQ.out)
  have HQ1 := hide hq1
  have HO1 := hide hown1
  have HX1 := hide hx1
  have HOB := hide hob
  have hz1 := hx1.size
  simp only [World.size_alloc] at hz1
  clear hcq hfq hown1 hx1 hob
  obtain ⟨hcq, hfq⟩ := hq1.all
  have hql1 := hq1.lt
  clear hq1
  go_wp2_with fail
  go_end0
  refine ⟨rfl, ⟨by simp; omega, _, BK.self HQ1.out 0 _, ownsRow_setCell_other HO1.out (by rw [HOB.out]; exact HNQ.out) _, by rw [HOB.out]; exact HNQ.out⟩, ?_⟩
  exact Ex.setCell (((Ex.refl _ _).alloc _).trans (HX1.out.drop (fun x hx _ => List.mem_cons_of_mem _ hx))) (Or.inl (by simp)) _

theorem EB.kb {lo hi : Nat} {w w1 : World} (h : EB hi [] w w1) : KB lo hi w w1 := ⟨h.size, fun b _ h2 => h.block b h2 (by simp)⟩
theorem GL.eb {hi : Nat} {w w1 : World} (h : GL w) (hx : EB hi [] w w1) (hh : 7 < hi) : GL w1 := ⟨tabs_eb h.1 hx (by omega), h.2.block (hx.block _ hh (by simp))⟩

set_option maxHeartbeats 2000000 in
set_option maxRecDepth 100000 in
theorem pick_match (b : Nat) (sv : Value) (hsv : ∃ p n c, sv = .slice p n c) (se : ByteArray) (pq lo : Nat) (ta rp : ByteArray) (mo : Int) (code : List Ins) (ng : Nat) (nm : List (ByteArray × Nat)) (hf : Fit code ng) (l : Lab) (hs : l.1.size ≤ 9223372036854775807) (w : World) (hp : PG w pq lo code ng nm) (hg : GL w)
    (hb : BK w b (.cells #[.func (.func 132) #[meansV sv se (.pointer (some ⟨pq, 0, none⟩)) ta rp mo] #[]] 81 (0, 0))) :
    Calls Tryz.prog 152 #[labV l, .pointer (some ⟨b, 0, none⟩)] w fun e w' => e = .returned (.bool (matchM code l.1).isSome) ∧ Ex [] w w' := by
  have KM := hide (fun (w' : World) (hx : Ex [] w w') => patternMatches_any sv hsv se pq lo ta rp mo code ng nm hf l.1 w' (hp.ex' hx) (hg.ex hx) hs)
  obtain ⟨p, n, c, rfl⟩ := hsv
  obtain ⟨r, hr⟩ : ∃ r, r = (matchM code l.1).isSome := ⟨_, rfl⟩
  rw [← hr] at KM ⊢
  unfold labV
  unfold meansV at *
  obtain ⟨hcb, hfb⟩ := hb.all
  have hbl := hb.lt
  clear hp hg hr hb
  go_enter Tryz.func152, Tryz.ntmps152
  go_wp2_with fail
  refine (KM.out _ ((Ex.refl _ _).alloc _)).mono ?_
  rintro e w2 ⟨rfl, hx2⟩
  have HX2 := hide (((Ex.refl [] w).alloc _).trans hx2)
  clear hx2
  go_wp2_with fail
  go_ret
  exact ⟨rfl, HX2.out⟩

set_option maxHeartbeats 2000000 in
set_option maxRecDepth 100000 in
theorem pick_keep (b b2 : Nat) (sv : Value) (hsv : ∃ p n c, sv = .slice p n c) (se : ByteArray) (pq lo : Nat) (ta rp : ByteArray) (mo : Int) (code : List Ins) (ng : Nat) (nm : List (ByteArray × Nat)) (hf : Fit code ng) (l : Lab) (hs : l.1.size ≤ 9223372036854775807) (w : World) (hp : PG w pq lo code ng nm) (hg : GL w)
    (hb : BK w b (.cells #[.func (.func 139) #[] #[.pointer (some ⟨b2, 0, none⟩)]] 81 (0, 0)))
    (hb2 : BK w b2 (.cells #[sv, .string se, .pointer (some ⟨pq, 0, none⟩), .string ta, .string rp, .int .u64 mo] 189 (0, 0))) :
    Calls Tryz.prog 152 #[labV l, .pointer (some ⟨b, 0, none⟩)] w fun e w' => e = .returned (.bool (!(matchM code l.1).isSome)) ∧ Ex [] w w' := by
  have KM := hide (fun (w' : World) (hx : Ex [] w w') => patternMatches_any sv hsv se pq lo ta rp mo code ng nm hf l.1 w' (hp.ex' hx) (hg.ex hx) hs)
  obtain ⟨p, n, c, rfl⟩ := hsv
  obtain ⟨r, hr⟩ : ∃ r, r = (matchM code l.1).isSome := ⟨_, rfl⟩
  rw [← hr] at KM ⊢
  unfold labV
  unfold meansV at *
  obtain ⟨hcb, hfb⟩ := hb.all
  obtain ⟨hcb2, hfb2⟩ := hb2.all
  have hbl := hb.lt
  have hbl2 := hb2.lt
  clear hp hg hr hb hb2
  go_enter Tryz.func152, Tryz.ntmps152
  go_wp2_with (go_at_call 139; go_in)
  refine (KM.out _ ((Ex.refl _ _).alloc _)).mono ?_
  rintro e w2 ⟨rfl, hx2⟩
  have HX2 := hide (((Ex.refl [] w).alloc _).trans hx2)
  clear hx2
  go_wp2_with fail
  go_ret
  exact ⟨by simp, HX2.out⟩

set_option maxHeartbeats 2000000 in
set_option maxRecDepth 100000 in
theorem does_dropNames (lo : Nat) (p : Option Addr) (n c : Nat) (se : ByteArray) (pq : Nat) (ta rp : ByteArray) (mo : Int) (code : List Ins) (ng : Nat) (nm : List (ByteArray × Nat)) (hf : Fit code ng) (w : World) (hp : PG w pq lo code ng nm) (hlo : 7 < lo) :
    Does lo w.heap.size w (.func (.func 110) #[meansV (.slice p n c) se (.pointer (some ⟨pq, 0, none⟩)) ta rp mo] #[]) (fun ls => (ls.filter fun l => !(matchM code l.1).isSome, true)) := by
  have hmf : ∀ (fn : Fn) (first cap : Array Value) (w : World), (Instr.makeFunc fn first cap).run Tryz.prog w = .ok (.func fn first cap) w := fun _ _ _ _ => rfl
  refine ⟨Nat.le_refl _, ⟨_, _, _, rfl⟩, fun w1 hk hg q base ls v0 hb hle hqb hq ho hnq hok => ?_⟩
  have KT := hide (fun (w' : World) (hx : Ex [] w1 w') (hz : w1.heap.size < w'.heap.size) => takeAway_any q base 132 #[meansV (.slice p n c) se (.pointer (some ⟨pq, 0, none⟩)) ta rp mo] #[] ls (fun l => (matchM code l.1).isSome) v0 w' (hq.ex hx (by simp)) (own_ex ho hx (by simp)) hnq (by have := hok.len; omega) (Nat.le_trans hle hx.size)
    (fun w2 he l hl => by
      have hpl := hp.le
      have hrow : ∀ x, x ∈ v0.ownBlock.toList → base ≤ x ∧ x < w1.heap.size := fun x hxm => ho.lt x (by simpa using hxm)
      have hex : Ex v0.ownBlock.toList w1 w2 := ((hx.drop (by simp)).alloc _).trans (he.drop (fun x hxm _ => hxm))
      have hk2 : KB lo w.heap.size w w2 := hk.trans (KB.ofEx hex (fun x hxm => Or.inr (by have := hrow x hxm; omega)) hk.1)
      have heb : EB base [] w1 w2 := (EB.ofEx hex hle).mono (Nat.le_refl _) (fun x hxm hlt => by have := hrow x hxm; omega)
      have hname := hok.nam l hl
      have hsz : l.1.size ≤ 9223372036854775807 := by
        unfold nameB at hname
        simp at hname
        omega
      exact pick_match _ (.slice p n c) ⟨p, n, c, rfl⟩ se pq lo ta rp mo code ng nm hf l hsz w2 (hp.kb hk2) (GL.eb hg heb (by omega)) ((BK.new _ _).ex he (fun hm => by have := hrow _ hm; omega))))
  have HLO := hide hok
  have HNQ := hide hnq
  have HO := hide ho
  unfold meansV at *
  clear hk hg hq ho hnq hok
  go_enter Tryz.func53, Tryz.ntmps53
  go_wp2_with (go_at_call 110; go_in)
  refine (KT.out _ (((Ex.refl _ _).alloc _).alloc _) (by simp only [World.size_alloc]; omega)).mono ?_
  rintro x w2 ⟨rfl, hl2, hx2⟩
  have HL2 := hide hl2
  have HX2 := hide ((((Ex.refl (q :: v0.ownBlock.toList) w1).alloc _).alloc _).trans hx2)
  clear hl2 hx2
  go_wp2_with fail
  go_ret
  exact ⟨rfl, HL2.out, HLO.out.filter _, eb_own HX2.out hqb HO.out hle⟩

set_option maxHeartbeats 2000000 in
set_option maxRecDepth 100000 in
theorem does_keepNames (lo : Nat) (p : Option Addr) (n c : Nat) (se : ByteArray) (pq : Nat) (ta rp : ByteArray) (mo : Int) (code : List Ins) (ng : Nat) (nm : List (ByteArray × Nat)) (hf : Fit code ng) (w : World) (hp : PG w pq lo code ng nm) (hlo : 7 < lo) :
    Does lo w.heap.size w (.func (.func 111) #[meansV (.slice p n c) se (.pointer (some ⟨pq, 0, none⟩)) ta rp mo] #[]) (fun ls => (ls.filter fun l => (matchM code l.1).isSome, true)) := by
  have hmf : ∀ (fn : Fn) (first cap : Array Value) (w : World), (Instr.makeFunc fn first cap).run Tryz.prog w = .ok (.func fn first cap) w := fun _ _ _ _ => rfl
  refine ⟨Nat.le_refl _, ⟨_, _, _, rfl⟩, fun w1 hk hg q base ls v0 hb hle hqb hq ho hnq hok => ?_⟩
  have KT := hide (fun (w' : World) (hx : Ex [] w1 w') (hz : w1.heap.size < w'.heap.size) (b2 : Nat) (hl2 : w1.heap.size ≤ b2) (hb2 : BK w' b2 (.cells #[.slice p n c, .string se, .pointer (some ⟨pq, 0, none⟩), .string ta, .string rp, .int .u64 mo] 189 (0, 0))) => takeAway_any q base 139 #[] #[.pointer (some ⟨b2, 0, none⟩)] ls (fun l => !(matchM code l.1).isSome) v0 w' (hq.ex hx (by simp)) (own_ex ho hx (by simp)) hnq (by have := hok.len; omega) (Nat.le_trans hle hx.size)
    (fun w2 he l hl => by
      have hpl := hp.le
      have hrow : ∀ x, x ∈ v0.ownBlock.toList → base ≤ x ∧ x < w1.heap.size := fun x hxm => ho.lt x (by simpa using hxm)
      have hex : Ex v0.ownBlock.toList w1 w2 := ((hx.drop (by simp)).alloc _).trans (he.drop (fun x hxm _ => hxm))
      have hk2 : KB lo w.heap.size w w2 := hk.trans (KB.ofEx hex (fun x hxm => Or.inr (by have := hrow x hxm; omega)) hk.1)
      have heb : EB base [] w1 w2 := (EB.ofEx hex hle).mono (Nat.le_refl _) (fun x hxm hlt => by have := hrow x hxm; omega)
      have hname := hok.nam l hl
      have hsz : l.1.size ≤ 9223372036854775807 := by
        unfold nameB at hname
        simp at hname
        omega
      exact pick_keep _ b2 (.slice p n c) ⟨p, n, c, rfl⟩ se pq lo ta rp mo code ng nm hf l hsz w2 (hp.kb hk2) (GL.eb hg heb (by omega)) ((BK.new _ _).ex he (fun hm => by have := hrow _ hm; omega)) ((hb2.alloc _).ex he (fun hm => by have := hrow _ hm; omega))))
  have HLO := hide hok
  have HNQ := hide hnq
  have HO := hide ho
  unfold meansV at *
  clear hk hg hq ho hnq hok
  go_enter Tryz.func53, Tryz.ntmps53
  go_wp2_with (go_at_call 111; go_in)
  refine (KT.out _ (((Ex.refl _ _).alloc _).alloc _) (by simp only [World.size_alloc]; omega) (w1.heap.size + 1) (by omega) (by simpa using BK.new (w1.alloc _) _)).mono ?_
  rintro x w2 ⟨rfl, hl2, hx2⟩
  have HL2 := hide hl2
  have HX2 := hide ((((Ex.refl (q :: v0.ownBlock.toList) w1).alloc _).alloc _).trans hx2)
  clear hl2 hx2
  go_wp2_with fail
  go_ret
  exact ⟨rfl, by simpa using HL2.out, HLO.out.filter _, eb_own HX2.out hqb HO.out hle⟩

end Go.Proofs.YtcbiidoebpkifaaGreatDoor.G
