/- Y5 Y6, one behind the other. -/
import Derived.Test.YtcbiidoebpkifaaGreatDoorM45
import Derived.Test.YtcbiidoebpkifaaGreatDoorM46
import Derived.Test.YtcbiidoebpkifaaGreatDoorM40
import Derived.Deep.DeepCutAuto
set_option linter.unusedVariables false
set_option linter.unusedSimpArgs false
/- Replace: what such a rule does. -/
namespace Go.Proofs.YtcbiidoebpkifaaGreatDoor.G
open Go.RowKit

def replM (code : List Ins) (ng : Nat) (nm : List (ByteArray × Nat)) (ss : List ByteArray) (se ta rp : ByteArray) (ls : List Lab) : List Lab := match matchM code (textN ls ss se) with
  | none => ls
  | some sl => nmdL ls (tplM (groupsM (textN ls ss se) sl ng nm) ta) (tplM (groupsM (textN ls ss se) sl ng nm) rp)
def FoundV (wx : World) (tx : ByteArray) (ng : Nat) (nm : List (ByteArray × Nat)) (m : Option (List Int)) (a : ByteArray) (v : Value) (mp : Option Nat) (ok : Bool) : Prop := match m with
  | none => ok = false
  | some sl => ok = true ∧ a = tx ∧ ∃ mb bb, mp = some mb ∧ wx.ownsRow bb 49 2 v (ng + 1) (spanL (spansM tx.size sl ng)) ∧ BK wx mb (.map (nmE nm) nm.length)
theorem FoundV.ex {w w' : World} {tx : ByteArray} {ng : Nat} {nm : List (ByteArray × Nat)} {m : Option (List Int)} {a : ByteArray} {v : Value} {mp : Option Nat} {ok : Bool} (h : FoundV w tx ng nm m a v mp ok) (l : List Nat) (hx : Ex l w w') (hl : ∀ k ∈ l, w.heap.size ≤ k) : FoundV w' tx ng nm m a v mp ok := by
  have hx0 : Ex [] w w' := hx.drop (fun k hk hlt => by have := hl k hk; omega)
  cases m with
  | none => exact h
  | some sl =>
    obtain ⟨h1, h2, mb, bb, h3, h4, h5⟩ := h
    exact ⟨h1, h2, mb, bb, h3, own_ex h4 hx0 (by simp), h5.ex hx0 (by simp)⟩
theorem FoundV.put {w : World} {tx : ByteArray} {ng : Nat} {nm : List (ByteArray × Nat)} {m : Option (List Int)} {a : ByteArray} {v : Value} {mp : Option Nat} {ok : Bool} (h : FoundV w tx ng nm m a v mp ok) {fb : Nat} {cs : Array Value} (hb : BK w fb (.cells cs 55 (0, 0))) (i : Nat) (u : Value) : FoundV (w.setCell ⟨fb, i, none⟩ u) tx ng nm m a v mp ok := by
  cases m with
  | none => exact h
  | some sl =>
    obtain ⟨h1, h2, mb, bb, h3, h4, h5⟩ := h
    refine ⟨h1, h2, mb, bb, h3, ownsRow_setCell_other h4 (fun e => ?_) _, h5.set (fun e => ?_) _⟩
    · rcases h4.2 with ⟨rfl, _⟩ | ⟨g, cap, cur, rfl, _, hgg, _⟩
      · cases e
      · cases e
        have h6 := hb.symm.trans hgg
        injection h6 with h6
        injection h6 with h7 h8
        exact absurd h8 (by decide)
    · subst e
      have h6 := hb.symm.trans h5
      injection h6 with h6
      cases h6
theorem match_v {q : Nat} {code : List Ins} {ng : Nat} {nm : List (ByteArray × Nat)} {s : ByteArray} {w : World}
    (h : Calls Tryz.prog 18 #[.pointer (some ⟨q, 0, none⟩), .string s] w fun e w' => MatchPost w s ng nm (matchM code s) e w' ∧ Ex [] w w') :
    Calls Tryz.prog 18 #[.pointer (some ⟨q, 0, none⟩), .string s] w fun e w' => ∃ a p3 n3 c3 mp ok, e = .returned (.tuple #[.agg #[.string a, .slice p3 n3 c3, .map mp], .bool ok]) ∧ FoundV w' s ng nm (matchM code s) a (.slice p3 n3 c3) mp ok ∧ Ex [] w w' := by
  refine h.mono ?_
  rintro e w' ⟨hp, hx⟩
  unfold MatchPost at hp
  unfold FoundV
  cases hm : matchM code s with
  | none =>
    rw [hm] at hp
    exact ⟨_, _, _, _, _, _, hp, rfl, hx⟩
  | some sl =>
    rw [hm] at hp
    obtain ⟨v, mb, rfl, ho, hb, _⟩ := hp
    obtain ⟨p3, c3, rfl⟩ := own_slice ho
    exact ⟨_, _, _, _, _, _, rfl, ⟨rfl, rfl, mb, _, rfl, ho, hb⟩, hx⟩
theorem LOK.repl {ls : List Lab} (h : LOK ls) (code : List Ins) (ng : Nat) (nm : List (ByteArray × Nat)) (ss : List ByteArray) (se ta rp : ByteArray) : LOK (replM code ng nm ss se ta rp ls) := by
  unfold replM
  split
  · exact h
  · exact h.nmd _ _

set_option maxHeartbeats 4000000 in
set_option maxRecDepth 100000 in
theorem replace_any (p : Option Addr) (c : Nat) (ss : List ByteArray) (se : ByteArray) (pq lo : Nat) (ta rp : ByteArray) (mo : Int) (code : List Ins) (ng : Nat) (nm : List (ByteArray × Nat)) (hf : Fit2 code ng nm) (q base : Nat) (ls : List Lab) (v0 : Value) (w : World) (hs : SS w (.slice p ss.length c) ss) (hp : PG w pq lo code ng nm) (hg : GL w)
    (hle : base ≤ w.heap.size) (hq : BK w q (.cells #[v0] 143 (0, 0))) (ho : w.ownsRow base 42 2 v0 ls.length (cellsOfL ls)) (hnq : v0.ownBlock ≠ some q) (hok : LOK ls) (hsn : ss.length ≤ 1000) (hse : se.size ≤ 1000) (hta : ta.size ≤ 60) (hrp : rp.size ≤ 60) :
    Calls Tryz.prog 103 #[meansV (.slice p ss.length c) se (.pointer (some ⟨pq, 0, none⟩)) ta rp mo, .pointer (some ⟨q, 0, none⟩)] w fun x w' => x = .returned (.bool true) ∧ LT w' q base (replM code ng nm ss se ta rp ls) ∧ Ex (q :: v0.ownBlock.toList) w w' := by
  have HLT : Hid (LT w q base ls) := ⟨hle, v0, hq, ho, hnq⟩
  have KT := hide (fun (w' : World) (hx : Ex [] w w') => text_any p c ss se (some ⟨pq, 0, none⟩) ta rp mo q base ls w' (hs.ex0 hx) (HLT.out.exN hx rfl) (by have := hok.len; omega) hsn (fun t => hok.srt.for t) (fun t => by have := val_size hok t; omega) (by omega))
  have htb := text_bound hok ss se hsn hse
  unfold replM
  obtain ⟨tx, htx⟩ : ∃ tx, tx = textN ls ss se := ⟨_, rfl⟩
  rw [← htx] at KT htb ⊢
  have KM := hide (fun (w' : World) (hx : Ex [] w w') => match_v (Match_any pq lo code ng nm tx w' (hp.ex' hx) hf.fit.ok hf.fit.tk hf.fit.le hf.fit.pos hf.fit.ng5 (by omega) (hg.ex hx).1))
  have KP := hide (fun (sl : List Int) (hm : matchM code tx = some sl) (v : Value) (mb b : Nat) (W : World) ho hmb t ht w' hx => template_post code ng nm hf tx (by omega) sl hm v mb b W ho hmb t ht w' hx)
  have KS := hide (fun (w' : World) (hx : Ex [] w w') a v ha hv => setNamed_any q base ls a v v0 w' (Nat.le_trans hle hx.size) (hq.ex hx (by simp)) (own_ex ho hx (by simp)) hnq hok ha hv)
  have hsz : ∀ sl t, t.size ≤ 60 → (tplM (groupsM tx sl ng nm) t).size ≤ 72000000 := fun sl t ht => by
    have := tplM_size (groupsM tx sl ng nm) 1200000 (fun n => by have := stand_size tx (spansM tx.size sl ng) nm n; unfold groupsM; omega) (by omega) t ht
    omega
  have HSZ := hide hsz
  have hnm : ∀ b, w.heap.size ≤ b → b ∉ (q :: v0.ownBlock.toList) := fun b hb hm => by
    simp only [List.mem_cons, Option.mem_toList] at hm
    rcases hm with h | h
    · have := hq.lt; omega
    · have := (ho.lt b h).2; omega
  have HNM := hide hnm
  clear hnm
  obtain ⟨n, hn⟩ : ∃ n, n = ss.length := ⟨_, rfl⟩
  rw [← hn] at KT ⊢
  obtain ⟨m, hm⟩ : ∃ m, m = matchM code tx := ⟨_, rfl⟩
  rw [← hm] at KM ⊢
  have HM := hide hm
  unfold meansV at *
  clear hs hp hg hq ho hnq hok htx hn htb hsz hm
  go_enter Tryz.func103, Tryz.ntmps103
  go_wp2_with fail
  generalize hw0 : World.alloc w _ = w0
  have hx0 : Ex [] w w0 := by rw [← hw0]; exact (Ex.refl _ _).alloc _
  have hb0 : BK w0 w.heap.size (.cells #[.slice p n c, .string se, .pointer (some ⟨pq, 0, none⟩), .string ta, .string rp, .int .u64 mo] 189 (0, 0)) := by rw [← hw0]; exact BK.new _ _
  have t1 := hb0.all.1
  have HX0 := hide hx0
  have HB0 := hide hb0
  have hl0 := hb0.lt
  clear hw0 hx0 hb0
  have t1d : ∀ o, w0.drew.cell? ⟨w.heap.size, o, none⟩ = #[Value.slice p n c, .string se, .pointer (some ⟨pq, 0, none⟩), .string ta, .string rp, .int .u64 mo][o]? := HB0.out.drew.all.1
  have qA : ∀ o, (w0.alloc (Obj.cells #[.string ⟨#[]⟩, .slice none 0 0, .map none] 55)).drew.cell? ⟨w.heap.size, o, none⟩ = #[Value.slice p n c, .string se, .pointer (some ⟨pq, 0, none⟩), .string ta, .string rp, .int .u64 mo][o]? := (BK.alloc HB0.out.drew _).all.1
  go_cut [5, 6] (fun s5 s6 wx => ∃ fb a p3 n3 c3 mp ok, s5 = .pointer (some ⟨fb, 0, none⟩) ∧ s6 = .bool ok ∧ w0.heap.size ≤ fb ∧ BK wx fb (.cells #[.string a, .slice p3 n3 c3, .map mp] 55 (0, 0)) ∧ Ex [] w0 wx ∧ FoundV wx tx ng nm m a (.slice p3 n3 c3) mp ok)
  case first =>
    go_region_held3 (fun w' => ∀ o, w'.cell? ⟨w.heap.size, o, none⟩ = #[Value.slice p n c, .string se, .pointer (some ⟨pq, 0, none⟩), .string ta, .string rp, .int .u64 mo][o]?)
      (first | with_reducible exact t1 | with_reducible exact t1d | with_reducible exact qA | with_reducible exact q2 | with_reducible exact q2A | with_reducible exact q3 | with_reducible exact q3A _ | with_reducible exact q3s _ _ _ _ (by omega))
      (first
        | (go_at_call 130; refine (show Calls _ _ _ _ _ from KT.out _ (by first | exact HX0.out.drew | exact HX0.out.drew.alloc _)).mono ?_; rintro e w2 ⟨rfl, hx2⟩; have hy2 : Ex [] w0 w2 := (by first | exact (Ex.refl _ _).drew.trans hx2 | exact ((Ex.refl _ _).drew.alloc _).trans hx2); have hb2 := HB0.out.ex hy2 (by simp); have hz2 := hy2.size; have q2 := hb2.all.1; have q2A : ∀ o, (w2.alloc (Obj.cells #[.string ⟨#[]⟩, .slice none 0 0, .map none] 55)).cell? ⟨w.heap.size, o, none⟩ = #[Value.slice p n c, .string se, .pointer (some ⟨pq, 0, none⟩), .string ta, .string rp, .int .u64 mo][o]? := (hb2.alloc _).all.1; (first | have hZ1 : BK w2 w0.heap.size (.cells #[.string ⟨#[]⟩, .slice none 0 0, .map none] 55 (0, 0)) := (BK.new w0.drew (Obj.cells #[.string ⟨#[]⟩, .slice none 0 0, .map none] 55)).ex hx2 (by simp) | skip))
        | (go_at_call 18; refine (show Calls _ _ _ _ _ from KM.out _ (by first | exact HX0.out.trans hy2 | exact (HX0.out.trans hy2).alloc _)).mono ?_; rintro e w3 ⟨a, p3, n3, c3, mp, ok, rfl, hfv, hx3⟩; have hy3 : Ex [] w0 w3 := (by first | exact hy2.trans hx3 | exact (hy2.alloc _).trans hx3); have hb3 := HB0.out.ex hy3 (by simp); have hz3 := hy3.size; have q3 := hb3.all.1; have q3A : ∀ Z o, (w3.alloc Z).cell? ⟨w.heap.size, o, none⟩ = #[Value.slice p n c, .string se, .pointer (some ⟨pq, 0, none⟩), .string ta, .string rp, .int .u64 mo][o]? := (fun Z => (hb3.alloc Z).all.1); have q3s : ∀ (fb : Nat) (x y z : Value), fb ≠ w.heap.size → ∀ o, (((w3.setCell ⟨fb, 0, none⟩ x).setCell ⟨fb, 1, none⟩ y).setCell ⟨fb, 2, none⟩ z).cell? ⟨w.heap.size, o, none⟩ = #[Value.slice p n c, .string se, .pointer (some ⟨pq, 0, none⟩), .string ta, .string rp, .int .u64 mo][o]? := (fun fb x y z hne => (((hb3.set (p := ⟨fb, 0, none⟩) (Ne.symm hne) x).set (p := ⟨fb, 1, none⟩) (Ne.symm hne) y).set (p := ⟨fb, 2, none⟩) (Ne.symm hne) z).all.1); (first | have hZ2 : BK w3 w0.heap.size (.cells #[.string ⟨#[]⟩, .slice none 0 0, .map none] 55 (0, 0)) := hZ1.ex hx3 (by simp) | have hZ2 : BK w3 w2.heap.size (.cells #[.string ⟨#[]⟩, .slice none 0 0, .map none] 55 (0, 0)) := (BK.new w2 (Obj.cells #[.string ⟨#[]⟩, .slice none 0 0, .map none] 55)).ex hx3 (by simp) | skip); (first | (obtain ⟨hcZ, hfZ⟩ := hZ2.all; have hlZ := hZ2.lt) | skip)))
    all_goals
      have HB3x := hide hb3
      have HX3 := hide hy3
      have HFV := hide hfv
      (first | have HZ2 := hide hZ2 | skip)
      clear hfv hy3 hb3 q3 q3A q3s q2 q2A hb2 hy2
      go_wp2_with fail
      go_meet
    · exact ⟨w3.heap.size, a, p3, n3, c3, mp, ok, rfl, rfl, by omega, BK.new _ _, HX3.out.alloc _, HFV.out.ex [] ((Ex.refl _ _).alloc _) (by simp)⟩
    · have b1 := HZ2.out.self 0 (.string a)
      have b2 := b1.self 1 (.slice p3 n3 c3)
      have b3 := b2.self 2 (.map mp)
      simp only [List.setIfInBounds_toArray, List.set_cons_zero, List.set_cons_succ] at b3
      exact ⟨w2.heap.size, a, p3, n3, c3, mp, ok, rfl, rfl, by omega, b3, ((HX3.out.setCell (.inr (by simp <;> omega)) _).setCell (.inr (by simp <;> omega)) _).setCell (.inr (by simp <;> omega)) _, ((HFV.out.put HZ2.out 0 _).put b1 1 _).put b2 2 _⟩
    · have b1 := HZ2.out.self 0 (.string a)
      have b2 := b1.self 1 (.slice p3 n3 c3)
      have b3 := b2.self 2 (.map mp)
      simp only [List.setIfInBounds_toArray, List.set_cons_zero, List.set_cons_succ] at b3
      exact ⟨w0.heap.size, a, p3, n3, c3, mp, ok, rfl, rfl, by omega, b3, ((HX3.out.setCell (.inr (by simp <;> omega)) _).setCell (.inr (by simp <;> omega)) _).setCell (.inr (by simp <;> omega)) _, ((HFV.out.put HZ2.out 0 _).put b1 1 _).put b2 2 _⟩
  case rest =>
    obtain ⟨fb, a, p3, n3, c3, mp, ok, rfl, rfl, hfb, hbf, hxc, hfv⟩ := hcut
    have HXC := hide (HX0.out.trans hxc)
    have HBF := hide hbf
    have hbm := HB0.out.ex hxc (by simp)
    have HBM := hide hbm
    have hzc := hxc.size
    clear t1 t1d qA hxc
    cases m with
    | none =>
      obtain rfl : ok = false := hfv
      clear hbf hbm
      go_wp2_with fail
      go_ret
      exact ⟨rfl, HLT.out.exN HXC.out rfl, HXC.out.drop (by simp)⟩
    | some sl =>
      obtain ⟨rfl, rfl, mb, bb, rfl, hos, hmb⟩ := hfv
      have K1 := hide (fun w' hx => KP.out sl HM.out.symm (.slice p3 n3 c3) mb bb wc hos hmb ta hta w' hx)
      have K2 := hide (fun w' hx => KP.out sl HM.out.symm (.slice p3 n3 c3) mb bb wc hos hmb rp hrp w' hx)
      obtain ⟨A, hA⟩ : ∃ A, A = tplM (groupsM a sl ng nm) ta := ⟨_, rfl⟩
      obtain ⟨B, hB⟩ : ∃ B, B = tplM (groupsM a sl ng nm) rp := ⟨_, rfl⟩
      have hAs := HSZ.out sl ta hta
      have hBs := HSZ.out sl rp hrp
      rw [← hA] at K1 hAs
      rw [← hB] at K2 hBs
      have HA := hide hA
      have HBB := hide hB
      have KS2 := hide (fun (w' : World) (hx : Ex [] w w') => KS.out w' hx A B (by omega) (by omega))
      have c1 := hbm.all.1
      have c2 := hbf.all.1
      have c1d : ∀ o, wc.drew.cell? ⟨w.heap.size, o, none⟩ = #[Value.slice p n c, .string se, .pointer (some ⟨pq, 0, none⟩), .string ta, .string rp, .int .u64 mo][o]? := HBM.out.drew.all.1
      have c2d : ∀ o, wc.drew.cell? ⟨fb, o, none⟩ = #[Value.string a, .slice p3 n3 c3, .map (some mb)][o]? := HBF.out.drew.all.1
      have hlm := hbm.lt
      have hlf := hbf.lt
      clear hA hB hbf hbm hos hmb
      go_wp2_with fail
      go_region_held3 (fun w' => (∀ o, w'.cell? ⟨w.heap.size, o, none⟩ = #[Value.slice p n c, .string se, .pointer (some ⟨pq, 0, none⟩), .string ta, .string rp, .int .u64 mo][o]?) ∧ (∀ o, w'.cell? ⟨fb, o, none⟩ = #[Value.string a, .slice p3 n3 c3, .map (some mb)][o]?))
        (first | with_reducible exact ⟨c1, c2⟩ | with_reducible exact ⟨c1d, c2d⟩ | with_reducible exact q4 | with_reducible exact q5 | with_reducible exact q6)
        (first
          | (go_at_call_of 19 (Value.string ta); refine (show Calls _ _ _ _ _ from K1.out _ ((Ex.refl _ _).drew)).mono ?_; rintro e w4 ⟨rfl, hx4⟩; have hy4 : Ex [] wc w4 := (Ex.refl _ _).drew.trans hx4; have q4 := And.intro (HBM.out.ex hy4 (by simp)).all.1 (HBF.out.ex hy4 (by simp)).all.1)
          | (go_at_call_of 19 (Value.string rp); refine (show Calls _ _ _ _ _ from K2.out _ hy4).mono ?_; rintro e w5 ⟨rfl, hx5⟩; have hy5 : Ex [] wc w5 := hy4.trans hx5; have q5 := And.intro (HBM.out.ex hy5 (by simp)).all.1 (HBF.out.ex hy5 (by simp)).all.1)
          | (go_at_call 131; refine (show Calls _ _ _ _ _ from KS2.out _ (HXC.out.trans hy5)).mono ?_; rintro e w6 ⟨rfl, hl6, hx6⟩; have q6 := And.intro ((HBM.out.ex hy5 (by simp)).ex hx6 (HNM.out _ (Nat.le_refl _))).all.1 ((HBF.out.ex hy5 (by simp)).ex hx6 (HNM.out _ (by omega))).all.1))
      have HL6 := hide hl6
      have HX6 := hide (((HXC.out.trans hy5).drop (by simp)).trans hx6)
      clear q4 q5 q6 hl6 hx6 hy5 hx5 hy4 hx4 c1 c2 c1d c2d
      go_wp2_with fail
      go_ret
      exact ⟨rfl, by have h := HL6.out; rw [HA.out, HBB.out] at h; exact h, HX6.out⟩
end Go.Proofs.YtcbiidoebpkifaaGreatDoor.G

/- LabelMap: what such a rule does. -/
namespace Go.Proofs.YtcbiidoebpkifaaGreatDoor.G
open Go.RowKit

def mapStep (code : List Ins) (ng : Nat) (nm : List (ByteArray × Nat)) (rp : ByteArray) (acc : List Lab) (l : Lab) : List Lab := match matchM code l.1 with
  | none => acc
  | some sl => nmdL acc (tplM (groupsM l.1 sl ng nm) rp) l.2
def mapLs (code : List Ins) (ng : Nat) (nm : List (ByteArray × Nat)) (rp : ByteArray) (ls : List Lab) : List Lab := ls.foldl (mapStep code ng nm rp) ls
theorem LOK.step {acc : List Lab} (h : LOK acc) (code : List Ins) (ng : Nat) (nm : List (ByteArray × Nat)) (rp : ByteArray) (l : Lab) : LOK (mapStep code ng nm rp acc l) := by
  unfold mapStep
  split
  · exact h
  · exact h.nmd _ _
theorem LOK.map {ls : List Lab} (h : LOK ls) (code : List Ins) (ng : Nat) (nm : List (ByteArray × Nat)) (rp : ByteArray) : LOK (mapLs code ng nm rp ls) := by
  unfold mapLs
  have key : ∀ (xs acc : List Lab), LOK acc → LOK (xs.foldl (mapStep code ng nm rp) acc) := by
    intro xs
    induction xs with
    | nil => exact fun acc h => h
    | cons x xs ih => exact fun acc h => ih _ (h.step _ _ _ _ _)
  exact key ls ls h
theorem cells_pair (ls : List Lab) (j : Nat) (l : Lab) (h : ls[j]? = some l) : (cellsOfL ls)[j * 2]? = some (.string l.1) ∧ (cellsOfL ls)[j * 2 + 1]? = some (.string l.2) := by
  induction ls generalizing j with
  | nil => simp at h
  | cons x ls ih =>
    have e : cellsOfL (x :: ls) = .string x.1 :: .string x.2 :: cellsOfL ls := rfl
    cases j with
    | zero => simp at h; subst h; rw [e]; simp
    | succ j =>
      have h1 := ih j (by simpa using h)
      rw [e, show (j + 1) * 2 = j * 2 + 1 + 1 by omega]
      simpa using h1
theorem step_take (code : List Ins) (ng : Nat) (nm : List (ByteArray × Nat)) (rp : ByteArray) (ls acc : List Lab) (j : Nat) (l : Lab) (h : ls[j]? = some l) : (ls.take (j + 1)).foldl (mapStep code ng nm rp) acc = mapStep code ng nm rp ((ls.take j).foldl (mapStep code ng nm rp) acc) l := by
  rw [List.take_add_one, h, List.foldl_append]
  rfl

set_option maxHeartbeats 8000000 in
set_option maxRecDepth 100000 in
theorem mapNames_any (p : Option Addr) (n c : Nat) (se : ByteArray) (pq : Nat) (ta rp : ByteArray) (mo : Int) (code : List Ins) (ng : Nat) (nm : List (ByteArray × Nat)) (hf : Fit2 code ng nm) (q base : Nat) (ls : List Lab) (v0 : Value) (w : World) (hle : base ≤ w.heap.size) (hqb : base ≤ q) (hq : BK w q (.cells #[v0] 143 (0, 0))) (ho : w.ownsRow base 42 2 v0 ls.length (cellsOfL ls)) (hnq : v0.ownBlock ≠ some q) (hok : LOK ls) (hrp : rp.size ≤ 60)
    (hmt : ∀ (W : World) (s : ByteArray), EB base [] w W → s.size ≤ 60 → Calls Tryz.prog 18 #[.pointer (some ⟨pq, 0, none⟩), .string s] W fun e w' => ∃ a p3 n3 c3 mp ok, e = .returned (.tuple #[.agg #[.string a, .slice p3 n3 c3, .map mp], .bool ok]) ∧ FoundV w' s ng nm (matchM code s) a (.slice p3 n3 c3) mp ok ∧ Ex [] W w') :
    Calls Tryz.prog 109 #[meansV (.slice p n c) se (.pointer (some ⟨pq, 0, none⟩)) ta rp mo, .pointer (some ⟨q, 0, none⟩)] w fun x w' => x = .returned (.bool true) ∧ LT w' q base (mapLs code ng nm rp ls) ∧ EB base [] w w' := by
  have hnm : ∀ b, w.heap.size ≤ b → b ∉ (q :: v0.ownBlock.toList) := fun b hb hm => by
    simp only [List.mem_cons, Option.mem_toList] at hm
    rcases hm with h | h
    · have := hq.lt; omega
    · have := (ho.lt b h).2; omega
  have HNM := hide hnm
  have KL := hide (fun (w' : World) (hx : Ex [] w w') => labList q v0 ls w' (hq.ex hx (by simp)) (own_sl (own_ex ho hx (by simp))) (by have := hok.len; omega))
  have HQ := hide hq
  have HO := hide ho
  have HNQ := hide hnq
  have HOK := hide hok
  have HMT := hide hmt
  have hql := hq.lt
  obtain ⟨m, hm⟩ : ∃ m, m = ls.length := ⟨_, rfl⟩
  have HM := hide hm
  rw [← hm] at KL
  have hm60 : m ≤ 60 := by rw [hm]; exact hok.len
  unfold meansV
  obtain ⟨w0, hw0⟩ : ∃ w0, w0 = w.alloc (Obj.cells #[.slice p n c, .string se, .pointer (some ⟨pq, 0, none⟩), .string ta, .string rp, .int .u64 mo] 189) := ⟨_, rfl⟩
  have hx0 : Ex [] w w0 := by rw [hw0]; exact (Ex.refl _ _).alloc _
  have hb0 : BK w0 w.heap.size (.cells #[.slice p n c, .string se, .pointer (some ⟨pq, 0, none⟩), .string ta, .string rp, .int .u64 mo] 189 (0, 0)) := by rw [hw0]; exact BK.new _ _
  have hs0 : w0.heap.size = w.heap.size + 1 := by rw [hw0]; simp
  have HX0 := hide hx0
  have HB0 := hide hb0
  have HS0 := hide hs0
  have HW0 := hide hw0
  clear hq ho hnq hok hmt hnm hm hx0 hb0 hs0 hw0
  go_enter Tryz.func109, Tryz.ntmps109
  go_wp2_with fail
  rw [← HW0.out]
  refine (KL.out _ HX0.out).mono ?_
  rintro x w1 ⟨v3, rfl, ho3, hx3⟩
  obtain ⟨p3, c3, rfl⟩ := own_slice ho3
  have HX1 := hide (HX0.out.trans hx3)
  have HB1 := hide (HB0.out.ex hx3 (by simp))
  have HO3 := hide ho3
  have hz1 : w.heap.size + 1 ≤ w1.heap.size := by have := hx3.size; have := HS0.out; omega
  clear ho3 hx3
  go_wp2_with fail
  go_loopg [12] m (fun gk i12 wr => ∃ (j : Nat) (acc : List Lab) (vr : Value), j + gk = m ∧ i12 = .int .i64 j ∧ acc = (ls.take j).foldl (mapStep code ng nm rp) ls ∧ LOK acc ∧ BK wr q (.cells #[vr] 143 (0, 0)) ∧ wr.ownsRow base 42 2 vr acc.length (cellsOfL acc) ∧ vr.ownBlock ≠ some q ∧ (∀ k, vr.ownBlock = some k → v0.ownBlock = some k ∨ w1.heap.size ≤ k) ∧ Ex (q :: v0.ownBlock.toList) w1 wr)
  case atStart => exact ⟨0, ls, v0, by omega, rfl, rfl, HOK.out, HQ.out.ex HX1.out (by simp), own_ex HO.out HX1.out (by simp), HNQ.out, fun k hk => .inl hk, Ex.refl _ _⟩
  case round =>
    obtain ⟨j, acc, vr, hj, rfl, hacc, hlok, hbq, hown, hnq, hrow, hx⟩ := hrel
    have HAC := hide hacc
    have HLK := hide hlok
    have HBQ := hide hbq
    have HOW := hide hown
    have HNR := hide hnq
    have HRW := hide hrow
    have HX := hide hx
    have hzr := hx.size
    have heb : EB base [] w wr := ((EB.ofEx HX1.out hle).trans ((EB.ofEx hx (show base ≤ w1.heap.size by omega)).mono (Nat.le_refl _) (fun y hy hlt => by
      simp only [List.mem_cons, Option.mem_toList] at hy
      rcases hy with h | h
      · omega
      · have := own_block HO.out y h; omega)))
    have HEB := hide heb
    clear hacc hlok hbq hown hnq hrow heb
    cases gk with
    | zero =>
      obtain rfl : j = m := by omega
      clear hx
      go_wp2_with fail
      go_ret
      refine ⟨rfl, ⟨by omega, vr, HBQ.out, ?_, HNR.out⟩, HEB.out⟩
      have e : mapLs code ng nm rp ls = acc := by rw [HAC.out, HM.out, List.take_length]; rfl
      rw [e]
      exact HOW.out
    | succ g =>
      have hjl : j < ls.length := by rw [← HM.out]; omega
      have hjm : (j : Int) < (m : Int) := by omega
      obtain ⟨l, hl⟩ : ∃ l, ls[j]? = some l := ⟨_, List.getElem?_eq_getElem hjl⟩
      obtain ⟨gb, cap, hv3, hg1, hg2, _, hcs, _⟩ := own_cells HO3.out (by omega)
      have hne : gb ∉ (q :: v0.ownBlock.toList) := HNM.out gb (by have := HS0.out; omega)
      obtain ⟨e1, e2⟩ : (cellsOfL ls)[j * 2]? = some (.string l.1) ∧ (cellsOfL ls)[j * 2 + 1]? = some (.string l.2) := cells_pair ls j l hl
      have d0 : wr.cell? ⟨gb, j * 2, none⟩ = some (.string l.1) := (hx.cell.1 gb _ hg2 hne).trans ((hcs _ (by omega)).trans e1)
      have d1 : wr.cell? ⟨gb, j * 2 + 1, none⟩ = some (.string l.2) := (hx.cell.1 gb _ hg2 hne).trans ((hcs _ (by omega)).trans e2)
      obtain ⟨rfl⟩ : p3 = some ⟨gb, 0, none⟩ := by injection hv3
      have hlgb : gb < wr.heap.size := by omega
      have hbm := HB1.out.ex hx (HNM.out _ (Nat.le_refl _))
      have HBM := hide hbm
      have t1 := hbm.all.1
      have hlm := hbm.lt
      have hname := HOK.out.nam l (List.mem_of_getElem? hl)
      have hval := (HOK.out.val l (List.mem_of_getElem? hl)).1
      have hsz := name_size hname
      obtain ⟨l1, l2⟩ := l
      dsimp only at d0 d1 hname hval hsz e1 e2
      have hstep : (ls.take (j + 1)).foldl (mapStep code ng nm rp) ls = (match matchM code l1 with
        | none => acc
        | some sl => nmdL acc (tplM (groupsM l1 sl ng nm) rp) l2) := by rw [step_take code ng nm rp ls ls j (l1, l2) hl, ← HAC.out]; rfl
      have HST := hide hstep
      obtain ⟨w2, hw2⟩ : ∃ w2, w2 = wr.alloc (Obj.cells #[.string l1, .string l2] 42) := ⟨_, rfl⟩
      have hx2 : Ex [] wr w2 := by rw [hw2]; exact (Ex.refl _ _).alloc _
      have hbl : BK w2 wr.heap.size (.cells #[.string l1, .string l2] 42 (0, 0)) := by rw [hw2]; exact BK.new _ _
      have hz2 : w2.heap.size = wr.heap.size + 1 := by rw [hw2]; simp
      have KM := hide (HMT.out w2 l1 (HEB.out.trans (EB.ofEx hx2 (by omega))) hsz)
      have HX2 := hide hx2
      have HBL := hide hbl
      have HW2 := hide hw2
      have HZ2 := hide hz2
      clear hstep hx hl e1 e2 hbm hx2 hbl hw2 hz2 hname hcs hne hv3
      go_wp2_with fail
      rw [← HW2.out]
      refine KM.out.mono ?_
      rintro x w4 ⟨a, p4, n4, c4, mp, ok, rfl, hfv, hx4⟩
      obtain ⟨mm, hmm⟩ : ∃ mm, mm = matchM code l1 := ⟨_, rfl⟩
      rw [← hmm] at hfv HST
      have HMM := hide hmm
      have hz4 : wr.heap.size + 1 ≤ w4.heap.size := by have := hx4.size; have := HZ2.out; omega
      have hy4 : Ex [] wr w4 := HX2.out.trans hx4
      have HY4 := hide hy4
      have HBL4 := hide (HBL.out.ex hx4 (by simp))
      clear hmm hx4 hy4 t1 d0 d1
      cases mm with
      | none =>
        obtain rfl : ok = false := hfv
        go_wp2_with fail
        go_roundg g
        case measure => omega
        case rel =>
          have hy5 : Ex [] wr (w4.alloc (Obj.cells #[.string a, .slice p4 n4 c4, .map mp] 55)) := HY4.out.alloc _
          exact ⟨j + 1, acc, vr, by omega, by simp, HST.out.symm, HLK.out, HBQ.out.ex hy5 (by simp), own_ex HOW.out hy5 (by simp), HNR.out, HRW.out, HX.out.trans (hy5.drop (by simp))⟩
      | some sl =>
        obtain ⟨rfl, rfl, mb, bb, rfl, hos, hmb⟩ := hfv
        have K1 := hide (fun w' hx => template_post code ng nm hf a (by omega) sl HMM.out.symm (.slice p4 n4 c4) mb bb w4 hos hmb rp hrp w' hx)
        have hAs := tplM_size (groupsM a sl ng nm) 60 (fun y => by have := stand_size a (spansM a.size sl ng) nm y; unfold groupsM; omega) (by omega) rp hrp
        obtain ⟨A, hA⟩ : ∃ A, A = tplM (groupsM a sl ng nm) rp := ⟨_, rfl⟩
        rw [← hA] at K1 hAs
        have hst : (ls.take (j + 1)).foldl (mapStep code ng nm rp) ls = nmdL acc A l2 := by rw [HST.out, hA]
        have HST2 := hide hst
        have KS := hide (fun (w' : World) (hx : Ex [] wr w') => setNamed_ltn q base acc A l2 vr w' (by have := hx.size; omega) (HBQ.out.ex hx (by simp)) (own_ex HOW.out hx (by simp)) HNR.out HLK.out (by omega) (by omega))
        have hnr : ∀ b, b ∈ (q :: vr.ownBlock.toList) → b ≠ w.heap.size ∧ b < wr.heap.size ∧ (b ∈ (q :: v0.ownBlock.toList) ∨ w1.heap.size ≤ b) := fun b hb => by
          simp only [List.mem_cons, Option.mem_toList] at hb
          rcases hb with rfl | h
          · exact ⟨by omega, by omega, .inl (by simp)⟩
          · have h2 := (HOW.out.lt b h).2
            rcases HRW.out b h with h3 | h3
            · have h4 := (HO.out.lt b h3).2
              exact ⟨by omega, h2, .inl (by simp [h3])⟩
            · exact ⟨by omega, h2, .inr h3⟩
        have HNN := hide hnr
        obtain ⟨w5, hw5⟩ : ∃ w5, w5 = w4.alloc (Obj.cells #[Value.string a, .slice p4 n4 c4, .map (some mb)] 55) := ⟨_, rfl⟩
        have hx5 : Ex [] w4 w5 := by rw [hw5]; exact (Ex.refl _ _).alloc _
        have hbf : BK w5 w4.heap.size (.cells #[Value.string a, .slice p4 n4 c4, .map (some mb)] 55 (0, 0)) := by rw [hw5]; exact BK.new _ _
        have hbm := (HBM.out.ex HY4.out (by simp)).ex hx5 (by simp)
        have hbl := HBL4.out.ex hx5 (by simp)
        have HX5 := hide hx5
        have HBF := hide hbf
        have HBM5 := hide hbm
        have HBL5 := hide hbl
        have HW5 := hide hw5
        have c1d : (∀ o, w5.drew.cell? ⟨w.heap.size, o, none⟩ = #[Value.slice p n c, .string se, .pointer (some ⟨pq, 0, none⟩), .string ta, .string rp, .int .u64 mo][o]?) ∧ (∀ o, w5.drew.cell? ⟨w4.heap.size, o, none⟩ = #[Value.string a, .slice p4 n4 c4, .map (some mb)][o]?) ∧ (∀ o, w5.drew.cell? ⟨wr.heap.size, o, none⟩ = #[Value.string a, .string l2][o]?) := ⟨hbm.drew.all.1, hbf.drew.all.1, hbl.drew.all.1⟩
        have c1 := hbm.all.1
        have c2 := hbf.all.1
        have c3 := hbl.all.1
        have hl1 := hbm.lt
        have hl2 := hbf.lt
        have hl3 := hbl.lt
        clear hA hst hnr hos hmb hx5 hbf hbm hbl hw5
        go_upto_region 6 with fail
        rw [← HW5.out]
        go_region_held3 (fun w' => (∀ o, w'.cell? ⟨w.heap.size, o, none⟩ = #[Value.slice p n c, .string se, .pointer (some ⟨pq, 0, none⟩), .string ta, .string rp, .int .u64 mo][o]?) ∧ (∀ o, w'.cell? ⟨w4.heap.size, o, none⟩ = #[Value.string a, .slice p4 n4 c4, .map (some mb)][o]?) ∧ (∀ o, w'.cell? ⟨wr.heap.size, o, none⟩ = #[Value.string a, .string l2][o]?))
          (first | with_reducible exact ⟨c1, c2, c3⟩ | with_reducible exact c1d | with_reducible exact q6 | with_reducible exact q7)
          (first
            | (go_at_call 19; refine (show Calls _ _ _ _ _ from K1.out _ (HX5.out.drew)).mono ?_; rintro e w6 ⟨rfl, hx6⟩; have hy6 : Ex [] w5 w6 := (Ex.refl _ _).drew.trans hx6; have q6 := And.intro (HBM5.out.ex hy6 (by simp)).all.1 (And.intro (HBF.out.ex hy6 (by simp)).all.1 (HBL5.out.ex hy6 (by simp)).all.1))
            | (go_at_call 131; refine (show Calls _ _ _ _ _ from KS.out _ ((HY4.out.trans HX5.out).trans hy6)).mono ?_; rintro e w7 ⟨rfl, hl7, hx7⟩; have q7 := And.intro ((HBM5.out.ex hy6 (by simp)).ex hx7 (fun hm => (HNN.out _ hm).1 rfl)).all.1 (And.intro ((HBF.out.ex hy6 (by simp)).ex hx7 (fun hm => by have := (HNN.out _ hm).2.1; omega)).all.1 ((HBL5.out.ex hy6 (by simp)).ex hx7 (fun hm => by have := (HNN.out _ hm).2.1; omega)).all.1)))
        have HL7 := hide hl7
        have HX7 := hide hx7
        have HY6 := hide ((HY4.out.trans HX5.out).trans hy6)
        clear q6 q7 hl7 hx7 hy6 hx6 c1 c2 c3 c1d
        go_wp2_with fail
        go_roundg g
        case measure => omega
        case rel =>
          obtain ⟨v7, b7, o7, n7, r7⟩ := HL7.out.ex
          have hz6 := HY6.out.size
          refine ⟨j + 1, nmdL acc A l2, v7, by omega, by simp, HST2.out.symm, HLK.out.nmd _ _, b7, o7, n7, fun k hk => ?_, ?_⟩
          · rcases r7 k hk with h | h
            · exact HRW.out k h
            · right; omega
          · refine ⟨HX7.out.os.trans (HY6.out.os.trans HX.out.os), HX7.out.tape.trans (HY6.out.tape.trans HX.out.tape), HX7.out.output.trans (HY6.out.output.trans HX.out.output), by have := HX7.out.size; omega, fun k hk hkn => ?_⟩
            have hkn2 : k ∉ (q :: vr.ownBlock.toList) := fun hm => by
              rcases (HNN.out k hm).2.2 with h | h
              · exact hkn h
              · omega
            rw [HX7.out.block k (by omega) hkn2, HY6.out.block k (by omega) (by simp)]
            exact HX.out.block k hk hkn
end Go.Proofs.YtcbiidoebpkifaaGreatDoor.G
