/- T4 T5 T6, one behind the other. -/
import Derived.Test.YtcbiidoebpkifaaGreatDoorM35
import Derived.Test.YtcbiidoebpkifaaGreatDoorM32
import Derived.Test.YtcbiidoebpkifaaGreatDoorM34
set_option linter.unusedVariables false
set_option linter.unusedSimpArgs false
/- Keep, Drop, KeepEqual, DropEqual: what such a rule does. -/
namespace Go.Proofs.YtcbiidoebpkifaaGreatDoor.G
open Go.RowKit

def eqB (a b : ByteArray) : Bool := a.toList == b.toList

set_option maxHeartbeats 4000000 in
set_option maxRecDepth 100000 in
theorem equals_any (p : Option Addr) (c : Nat) (ss : List ByteArray) (se : ByteArray) (pp : Option Addr) (ta rp : ByteArray) (mo : Int) (q base : Nat) (ls : List Lab) (w : World) (hs : SS w (.slice p ss.length c) ss) (hq : LT w q base ls) (hok : LOK ls) (hsn : ss.length ≤ 1000) (hse : se.size ≤ 1000) :
    Calls Tryz.prog 106 #[meansV (.slice p ss.length c) se (.pointer pp) ta rp mo, .pointer (some ⟨q, 0, none⟩)] w fun x w' => x = .returned (.bool (eqB (textN ls ss se) (valN ls ta))) ∧ Ex [] w w' := by
  have KT := hide (fun (w' : World) (hx : Ex [] w w') => text_any p c ss se pp ta rp mo q base ls w' (hs.ex0 hx) (hq.exN hx rfl) (by have := hok.len; omega) hsn (fun t => hok.srt.for t) (fun t => by have := val_size hok t; omega) (by omega))
  have KV := hide (fun (w' : World) (hx : Ex [] w w') => value_any q base ls ta w' (hq.exN hx rfl) (by have := hok.len; omega) (hok.srt.for ta))
  obtain ⟨tx, htx⟩ : ∃ tx, tx = textN ls ss se := ⟨_, rfl⟩
  rw [← htx] at KT ⊢
  obtain ⟨vv, hvv⟩ : ∃ vv, vv = valN ls ta := ⟨_, rfl⟩
  rw [← hvv] at KV ⊢
  obtain ⟨n, hn⟩ : ∃ n, n = ss.length := ⟨_, rfl⟩
  rw [← hn] at KT ⊢
  unfold meansV at *
  clear hs hq hok htx hvv hn
  go_enter Tryz.func106, Tryz.ntmps106
  go_wp2_with fail
  generalize hw0 : World.alloc w _ = w0
  have hx0 : Ex [] w w0 := by rw [← hw0]; exact (Ex.refl _ _).alloc _
  have hb0 : BK w0 w.heap.size (.cells #[.slice p n c, .string se, .pointer pp, .string ta, .string rp, .int .u64 mo] 189 (0, 0)) := by rw [← hw0]; exact BK.new _ _
  have t1 := hb0.all.1
  have HX0 := hide hx0
  have HB0 := hide hb0
  have hl0 := hb0.lt
  clear hw0 hx0 hb0
  go_region_held3 (fun w' => ∀ o, w'.cell? ⟨w.heap.size, o, none⟩ = #[Value.slice p n c, .string se, .pointer pp, .string ta, .string rp, .int .u64 mo][o]?)
    (first | exact hb3.all.1 | exact hb2.all.1 | exact t1)
    (first
      | (go_at_call 130; refine (show Calls _ _ _ _ _ from KT.out _ (HX0.out.drew)).mono ?_; rintro e w2 ⟨rfl, hx2⟩; have hb2 := HB0.out.drew.ex hx2 (by simp))
      | (go_at_call 134; refine (show Calls _ _ _ _ _ from KV.out _ ((HX0.out.drew).trans hx2)).mono ?_; rintro e w3 ⟨rfl, hx3⟩; have hb3 := hb2.ex hx3 (by simp)))
  have HX3 := hide ((HX0.out.drew.trans hx2).trans hx3)
  clear hb3 hb2 hx2 hx3 t1
  go_wp2_with fail
  go_ret
  exact ⟨rfl, HX3.out⟩

set_option maxHeartbeats 2000000 in
set_option maxRecDepth 100000 in
theorem does_match (lo : Nat) (p : Option Addr) (c : Nat) (ss : List ByteArray) (se : ByteArray) (pq : Nat) (ta rp : ByteArray) (mo : Int) (code : List Ins) (ng : Nat) (nm : List (ByteArray × Nat)) (hf : Fit code ng) (w : World)
    (hs : SS w (.slice p ss.length c) ss) (hsb : ∀ k, (Value.slice p ss.length c).ownBlock = some k → lo ≤ k) (hp : PG w pq lo code ng nm) (hsn : ss.length ≤ 1000) (hse : se.size ≤ 1000) :
    Does lo w.heap.size w (.func (.func 104) #[meansV (.slice p ss.length c) se (.pointer (some ⟨pq, 0, none⟩)) ta rp mo] #[]) (fun ls => (ls, (matchM code (textN ls ss se)).isSome)) := by
  refine ⟨Nat.le_refl _, ⟨_, _, _, rfl⟩, fun w1 hk hg q base ls v0 hb hle hqb hq ho hnq hok => ?_⟩
  have hlt : LT w1 q base ls := ⟨hle, v0, hq, ho, hnq⟩
  have KM := hide (fun (w' : World) (hx : Ex [] w1 w') => matches_any p c ss se pq lo ta rp mo code ng nm hf q base ls w' ((SS.kb hs hk hsb).ex0 hx) ((hp.kb hk).ex' hx) (hg.ex hx) (hlt.exN hx rfl) hok hsn hse)
  obtain ⟨r, hr⟩ : ∃ r, r = (matchM code (textN ls ss se)).isSome := ⟨_, rfl⟩
  dsimp only
  rw [← hr] at KM ⊢
  obtain ⟨n, hn⟩ : ∃ n, n = ss.length := ⟨_, rfl⟩
  rw [← hn] at KM ⊢
  have HLT := hide hlt
  have HOK := hide hok
  unfold meansV at *
  clear hs hsb hlt hk hg hq ho hnq hok hr hn hp
  go_enter Tryz.func53, Tryz.ntmps53
  go_wp2_with fail
  refine (KM.out _ ((Ex.refl _ _).alloc _)).mono ?_
  rintro x w2 ⟨rfl, hx2⟩
  have HX2 := hide (((Ex.refl [] w1).alloc _).trans hx2)
  clear hx2
  go_wp2_with fail
  go_ret
  exact ⟨rfl, HLT.out.exN HX2.out rfl, HOK.out, EB.ofEx HX2.out hle⟩

set_option maxHeartbeats 2000000 in
set_option maxRecDepth 100000 in
theorem does_notmatch (lo : Nat) (p : Option Addr) (c : Nat) (ss : List ByteArray) (se : ByteArray) (pq : Nat) (ta rp : ByteArray) (mo : Int) (code : List Ins) (ng : Nat) (nm : List (ByteArray × Nat)) (hf : Fit code ng) (w : World) (b : Nat)
    (hb0 : BK w b (.cells #[.func (.func 104) #[meansV (.slice p ss.length c) se (.pointer (some ⟨pq, 0, none⟩)) ta rp mo] #[]] 130 (0, 0))) (hlb : lo ≤ b)
    (hs : SS w (.slice p ss.length c) ss) (hsb : ∀ k, (Value.slice p ss.length c).ownBlock = some k → lo ≤ k) (hp : PG w pq lo code ng nm) (hsn : ss.length ≤ 1000) (hse : se.size ≤ 1000) :
    Does lo w.heap.size w (.func (.func 133) #[] #[.pointer (some ⟨b, 0, none⟩)]) (fun ls => (ls, !(matchM code (textN ls ss se)).isSome)) := by
  refine ⟨Nat.le_refl _, ⟨_, _, _, rfl⟩, fun w1 hk hg q base ls v0 hb hle hqb hq ho hnq hok => ?_⟩
  have hlt : LT w1 q base ls := ⟨hle, v0, hq, ho, hnq⟩
  have hb1 := BK.kb hb0 hk hlb hb0.lt
  have KM := hide (fun (w' : World) (hx : Ex [] w1 w') => matches_any p c ss se pq lo ta rp mo code ng nm hf q base ls w' ((SS.kb hs hk hsb).ex0 hx) ((hp.kb hk).ex' hx) (hg.ex hx) (hlt.exN hx rfl) hok hsn hse)
  obtain ⟨r, hr⟩ : ∃ r, r = (matchM code (textN ls ss se)).isSome := ⟨_, rfl⟩
  dsimp only
  rw [← hr] at KM ⊢
  obtain ⟨n, hn⟩ : ∃ n, n = ss.length := ⟨_, rfl⟩
  rw [← hn] at KM hb1
  have HLT := hide hlt
  have HOK := hide hok
  unfold meansV at *
  obtain ⟨hcb, hfb⟩ := hb1.all
  have hbl := hb1.lt
  clear hs hsb hlt hk hg hq ho hnq hok hr hn hb0 hb1 hp
  go_enter Tryz.func53, Tryz.ntmps53
  go_wp2_with (go_at_call 133; go_in)
  refine (KM.out _ ((Ex.refl _ _).alloc _)).mono ?_
  rintro x w2 ⟨rfl, hx2⟩
  have HX2 := hide (((Ex.refl [] w1).alloc _).trans hx2)
  clear hx2
  go_wp2_with fail
  go_ret
  exact ⟨by simp, HLT.out.exN HX2.out rfl, HOK.out, EB.ofEx HX2.out hle⟩

set_option maxHeartbeats 2000000 in
set_option maxRecDepth 100000 in
theorem does_equal (lo : Nat) (p : Option Addr) (c : Nat) (ss : List ByteArray) (se : ByteArray) (pp : Option Addr) (ta rp : ByteArray) (mo : Int) (w : World)
    (hs : SS w (.slice p ss.length c) ss) (hsb : ∀ k, (Value.slice p ss.length c).ownBlock = some k → lo ≤ k)  (hsn : ss.length ≤ 1000) (hse : se.size ≤ 1000) :
    Does lo w.heap.size w (.func (.func 106) #[meansV (.slice p ss.length c) se (.pointer pp) ta rp mo] #[]) (fun ls => (ls, (eqB (textN ls ss se) (valN ls ta)))) := by
  refine ⟨Nat.le_refl _, ⟨_, _, _, rfl⟩, fun w1 hk hg q base ls v0 hb hle hqb hq ho hnq hok => ?_⟩
  have hlt : LT w1 q base ls := ⟨hle, v0, hq, ho, hnq⟩
  have KM := hide (fun (w' : World) (hx : Ex [] w1 w') => equals_any p c ss se pp ta rp mo q base ls w' ((SS.kb hs hk hsb).ex0 hx) (hlt.exN hx rfl) hok hsn hse)
  obtain ⟨r, hr⟩ : ∃ r, r = (eqB (textN ls ss se) (valN ls ta)) := ⟨_, rfl⟩
  dsimp only
  rw [← hr] at KM ⊢
  obtain ⟨n, hn⟩ : ∃ n, n = ss.length := ⟨_, rfl⟩
  rw [← hn] at KM ⊢
  have HLT := hide hlt
  have HOK := hide hok
  unfold meansV at *
  clear hs hsb hlt hk hg hq ho hnq hok hr hn 
  go_enter Tryz.func53, Tryz.ntmps53
  go_wp2_with fail
  refine (KM.out _ ((Ex.refl _ _).alloc _)).mono ?_
  rintro x w2 ⟨rfl, hx2⟩
  have HX2 := hide (((Ex.refl [] w1).alloc _).trans hx2)
  clear hx2
  go_wp2_with fail
  go_ret
  exact ⟨rfl, HLT.out.exN HX2.out rfl, HOK.out, EB.ofEx HX2.out hle⟩

set_option maxHeartbeats 2000000 in
set_option maxRecDepth 100000 in
theorem does_notequal (lo : Nat) (p : Option Addr) (c : Nat) (ss : List ByteArray) (se : ByteArray) (pp : Option Addr) (ta rp : ByteArray) (mo : Int) (w : World) (b : Nat)
    (hb0 : BK w b (.cells #[.func (.func 106) #[meansV (.slice p ss.length c) se (.pointer pp) ta rp mo] #[]] 130 (0, 0))) (hlb : lo ≤ b)
    (hs : SS w (.slice p ss.length c) ss) (hsb : ∀ k, (Value.slice p ss.length c).ownBlock = some k → lo ≤ k)  (hsn : ss.length ≤ 1000) (hse : se.size ≤ 1000) :
    Does lo w.heap.size w (.func (.func 133) #[] #[.pointer (some ⟨b, 0, none⟩)]) (fun ls => (ls, !(eqB (textN ls ss se) (valN ls ta)))) := by
  refine ⟨Nat.le_refl _, ⟨_, _, _, rfl⟩, fun w1 hk hg q base ls v0 hb hle hqb hq ho hnq hok => ?_⟩
  have hlt : LT w1 q base ls := ⟨hle, v0, hq, ho, hnq⟩
  have hb1 := BK.kb hb0 hk hlb hb0.lt
  have KM := hide (fun (w' : World) (hx : Ex [] w1 w') => equals_any p c ss se pp ta rp mo q base ls w' ((SS.kb hs hk hsb).ex0 hx) (hlt.exN hx rfl) hok hsn hse)
  obtain ⟨r, hr⟩ : ∃ r, r = (eqB (textN ls ss se) (valN ls ta)) := ⟨_, rfl⟩
  dsimp only
  rw [← hr] at KM ⊢
  obtain ⟨n, hn⟩ : ∃ n, n = ss.length := ⟨_, rfl⟩
  rw [← hn] at KM hb1
  have HLT := hide hlt
  have HOK := hide hok
  unfold meansV at *
  obtain ⟨hcb, hfb⟩ := hb1.all
  have hbl := hb1.lt
  clear hs hsb hlt hk hg hq ho hnq hok hr hn hb0 hb1 
  go_enter Tryz.func53, Tryz.ntmps53
  go_wp2_with (go_at_call 133; go_in)
  refine (KM.out _ ((Ex.refl _ _).alloc _)).mono ?_
  rintro x w2 ⟨rfl, hx2⟩
  have HX2 := hide (((Ex.refl [] w1).alloc _).trans hx2)
  clear hx2
  go_wp2_with fail
  go_ret
  exact ⟨by simp, HLT.out.exN HX2.out rfl, HOK.out, EB.ofEx HX2.out hle⟩
end Go.Proofs.YtcbiidoebpkifaaGreatDoor.G

/- Labels taken away: slices.IndexFunc and DeleteFunc, whatever is chosen. -/
namespace Go.Proofs.YtcbiidoebpkifaaGreatDoor.G
open Go.RowKit

theorem run_clear_rest {P : Program} (w : World) (t e ty : TypeId) (z : Value) (ht : P.underlying t = some (.slice e)) (hv : ∀ w, (zeroValue e).run P w = .ok z w)
    (base sz g n m cap k c : Nat) (xs : List Value) (hzl : (Builtin.zeroCells z.cells (k + 1)).toList.length = (k + 1) * sz) (h1 : ∀ v ∈ (Builtin.zeroCells z.cells (k + 1)).toList, v.oneCell' = true) (hm : m + (k + 1) ≤ cap) (hnm : n ≤ m) (hown : w.ownsRow base e sz (.slice (some ⟨g, 0, none⟩) n cap) n xs) :
    ∃ w', (Builtin.clear_ #[t] ty #[.slice (some ⟨g, m * sz, none⟩) (k + 1) c]).run P w = .ok (.tuple #[]) w' ∧ w'.ownsRow base e sz (.slice (some ⟨g, 0, none⟩) n cap) n xs ∧ Ex [g] w w' := by
  rcases hown.2 with ⟨h, _⟩ | ⟨g', cap', cur, h, hbg, hg, hnc, hcm, hcs, htake⟩
  · cases h
  · cases h
    obtain ⟨zs, hzs⟩ : ∃ zs, zs = (Builtin.zeroCells z.cells (k + 1)).toList := ⟨_, rfl⟩
    rw [← hzs] at hzl h1
    have hle : m * sz + zs.length ≤ cur.size := by rw [hcs, hzl, ← Nat.add_mul]; exact Nat.mul_le_mul_right _ hm
    have hnl : n * sz ≤ m * sz := Nat.mul_le_mul_right _ hnm
    have hst := run_storeCells_at P g (m * sz) e zs 0 cur w hg (by simpa using hle) h1
    simp only [Nat.add_zero] at hst
    refine ⟨w.setRow g (cur.toList.take (m * sz) ++ zs ++ cur.toList.drop (m * sz + zs.length)).toArray, by simp [Builtin.clear_, run_underlying ht, hv, ← hzs, hst], ⟨hown.1, .inr ⟨g, cap, _, rfl, hbg, setRow_heap w g cur _ e (0, 0) hg, hnc, hcm, ?_, ?_⟩⟩, (Ex.refl _ _).setRow (.inl (by simp)) _⟩
    · simp only [List.size_toArray, List.length_append, List.length_take, List.length_drop, Array.length_toList]
      omega
    · rw [← htake, List.toList_toArray, List.append_assoc, List.take_append_of_le_length (by simp; omega), List.take_take, Nat.min_eq_left hnl]

theorem own_put {w : World} {base e sz g n cap : Nat} {xs : List Value} (h : w.ownsRow base e sz (.slice (some ⟨g, 0, none⟩) n cap) n xs) (j : Nat) (u : Value) :
    (w.setCell ⟨g, j, none⟩ u).ownsRow base e sz (.slice (some ⟨g, 0, none⟩) n cap) n (xs.set j u) := by
  rcases h.2 with ⟨h', _⟩ | ⟨g', cap', cur, h', hbg, hg, hnc, hcm, hcs, htake⟩
  · cases h'
  · cases h'
    refine ⟨by rw [List.length_set]; exact h.1, .inr ⟨g, cap, cur.setIfInBounds j u, rfl, hbg, BK.self hg j u, hnc, hcm, by simpa using hcs, ?_⟩⟩
    rw [← htake, Array.toList_setIfInBounds, List.take_set]
theorem own_froz {w : World} {base e sz g n cap : Nat} {xs : List Value} (h : w.ownsRow base e sz (.slice (some ⟨g, 0, none⟩) n cap) n xs) (j : Nat) : w.frozen? ⟨g, j, none⟩ = false := by
  rcases h.2 with ⟨h', _⟩ | ⟨g', cap', cur, h', hbg, hg, hnc, hcm, hcs, htake⟩
  · cases h'
  · cases h'
    simp [World.frozen?, hg]
theorem own_caps {w : World} {base e sz g n cap : Nat} {xs : List Value} (h : w.ownsRow base e sz (.slice (some ⟨g, 0, none⟩) n cap) n xs) : n ≤ cap ∧ cap ≤ maxLen := by
  rcases h.2 with ⟨h', _⟩ | ⟨g', cap', cur, h', hbg, hg, hnc, hcm, _⟩
  · cases h'
  · cases h'; exact ⟨hnc, hcm⟩

def labV (l : Lab) : Value := .agg #[.string l.1, .string l.2]
def Picks (os : List Nat) (w : World) (b : Nat) (ls : List Lab) (p : Lab → Bool) : Prop := ∀ w', Ex os w w' → ∀ l ∈ ls, Calls Tryz.prog 152 #[labV l, .pointer (some ⟨b, 0, none⟩)] w' fun e w'' => e = .returned (.bool (p l)) ∧ Ex [] w' w''
def idxP (ls : List Lab) (p : Lab → Bool) : Int := match ls.findIdx? p with | some i => (i : Int) | none => -1

set_option maxHeartbeats 1000000 in
set_option maxRecDepth 100000 in
theorem indexPick (os : List Nat) (b : Nat) (v : Value) (ls : List Lab) (p : Lab → Bool) (w : World) (hv : SL w v ls) (hn : ls.length ≤ 1000) (hl : Picks os w b ls p) :
    Calls Tryz.prog 80 #[v, .func (.func 152) #[] #[.pointer (some ⟨b, 0, none⟩)]] w fun e w' => e = .returned (.int .i64 (idxP ls p)) ∧ Ex [] w w' := by
  have HV := hide hv
  have HL := hide hl
  obtain ⟨pa, c, rfl⟩ := hv.slice
  clear hv hl
  go_enter Tryz.func80, Tryz.ntmps80
  go_wp2_with fail
  go_loopg [8] ls.length (fun gk i wr => ∃ j : Nat, j + gk = ls.length ∧ i = .int .i64 j ∧ (∀ k l, k < j → ls[k]? = some l → p l = false) ∧ Ex [] w wr)
  case atStart => exact ⟨0, by omega, rfl, fun k l h => by omega, Ex.refl _ _⟩
  case round =>
    obtain ⟨j, hj, rfl, hw, hx⟩ := hrel
    have HW := hide hw
    have HX := hide hx
    cases gk with
    | zero =>
      obtain rfl : j = ls.length := by omega
      clear hj hw hx
      go_wp2_with fail
      go_ret
      refine ⟨?_, HX.out⟩
      have hnone : ls.findIdx? p = none := by
        rw [List.findIdx?_eq_none_iff]
        intro l hl
        obtain ⟨k, hk, rfl⟩ := List.getElem_of_mem hl
        exact HW.out k _ hk (List.getElem?_eq_getElem hk)
      simp [idxP, hnone]
    | succ g =>
      have hjl : j < ls.length := by omega
      have hj' : (j : Int) < (ls.length : Int) := by omega
      obtain ⟨l, hl⟩ : ∃ l, ls[j]? = some l := ⟨_, List.getElem?_eq_getElem hjl⟩
      have HLM := hide (List.mem_of_getElem? hl)
      have HLJ := hide hl
      obtain ⟨bb, c', rfl, hb, c0, c1⟩ : ∃ b c', pa = some ⟨b, 0, none⟩ ∧ b < wr.heap.size ∧ wr.cell? ⟨b, j * 2, none⟩ = some (.string l.1) ∧ wr.cell? ⟨b, j * 2 + 1, none⟩ = some (.string l.2) := by
        rcases HV.out with ⟨h1, h2⟩ | ⟨b, c', h1, hb, hc⟩
        · rw [h2] at hjl; simp at hjl
        · cases h1
          obtain ⟨h3, h4⟩ := hc j l hl
          exact ⟨b, 0, rfl, Nat.lt_of_lt_of_le hb hx.size, by rw [hx.cell0.1 b _ hb]; exact h3, by rw [hx.cell0.1 b _ hb]; exact h4⟩
      have KL := hide (HL.out wr (hx.drop (by simp)) l HLM.out)
      unfold labV at KL
      clear hw hx hl
      go_wp2_with fail
      refine KL.out.mono ?_
      rintro e w' ⟨rfl, hx1⟩
      have HX1 := hide hx1
      clear hx1
      cases hW : p l with
      | true =>
        have HB := hide hW
        clear hW
        go_wp2_with fail
        go_ret
        refine ⟨?_, HX.out.trans HX1.out⟩
        have hs : ls.findIdx? p = some j := by
          rw [List.findIdx?_eq_some_iff_getElem]
          refine ⟨hjl, ?_, fun k hk => ?_⟩
          · have := HLJ.out; rw [List.getElem?_eq_getElem hjl] at this; rw [Option.some.inj this]; exact unhide HB
          · simpa using HW.out k _ hk (List.getElem?_eq_getElem (by omega))
        simp [idxP, hs]
      | false =>
        have HB := hide hW
        clear hW
        go_wp2_with fail
        go_roundg g
        case measure => omega
        case rel =>
          refine ⟨j + 1, by omega, by simp, fun k l' hk hl' => ?_, HX.out.trans HX1.out⟩
          by_cases hkj : k = j
          · subst hkj; have := HLJ.out; rw [hl'] at this; cases this; exact unhide HB
          · exact HW.out k l' (by omega) hl'

theorem left_all {ls : List Lab} {p : Lab → Bool} (h : ls.findIdx? p = none) : ls.filter (fun l => !p l) = ls := by
  rw [List.findIdx?_eq_none_iff] at h
  rw [List.filter_eq_self]
  intro l hl
  simp [h l hl]
theorem left_first {ls : List Lab} {p : Lab → Bool} {i : Nat} (h : ls.findIdx? p = some i) : i < ls.length ∧ (ls.take (i + 1)).filter (fun l => !p l) = ls.take i := by
  rw [List.findIdx?_eq_some_iff_getElem] at h
  obtain ⟨hi, hp, hall⟩ := h
  refine ⟨hi, ?_⟩
  rw [List.take_succ_eq_append_getElem hi, List.filter_append, List.filter_eq_self.2 (fun l hl => by
    obtain ⟨k, hk, rfl⟩ := List.getElem_of_mem hl
    have hk' : k < i := by simp at hk; omega
    rw [List.getElem_take]
    have := hall k hk'
    simpa using this)]
  simp [hp]
theorem zeroLabs (k : Nat) : (Builtin.zeroCells (Value.agg #[.string ⟨#[]⟩, .string ⟨#[]⟩]).cells k).toList.length = k * 2 ∧ ∀ v ∈ (Builtin.zeroCells (Value.agg #[.string ⟨#[]⟩, .string ⟨#[]⟩]).cells k).toList, v.oneCell' = true := by
  refine ⟨by simp [Builtin.zeroCells, Value.cells], fun v hv => ?_⟩
  simp only [Builtin.zeroCells, Value.cells, Array.toList_map, List.mem_map, Array.toList_range] at hv
  obtain ⟨i, _, rfl⟩ := hv
  have : i % 2 = 0 ∨ i % 2 = 1 := by omega
  rcases this with h | h <;> simp [h, Value.oneCell']
end Go.Proofs.YtcbiidoebpkifaaGreatDoor.G

/- slices.DeleteFunc at labels, whatever is chosen. -/
namespace Go.Proofs.YtcbiidoebpkifaaGreatDoor.G
open Go.RowKit

theorem put_two (xs : List Value) (k : Nat) (a b : Value) (h : k + 1 < xs.length) : ((xs.set k a).set (k + 1) b).take (k + 2) = xs.take k ++ [a, b] := by
  apply List.ext_getElem?
  intro i
  rw [List.getElem?_take]
  have hl : (xs.take k).length = k := by simp; omega
  rcases Nat.lt_or_ge i k with hi | hi
  · rw [if_pos (by omega), List.getElem?_append_left (by omega), List.getElem?_take, if_pos hi, List.getElem?_set_ne (by omega), List.getElem?_set_ne (by omega)]
  · rw [List.getElem?_append_right (by omega), hl]
    by_cases e : i = k
    · subst e
      rw [if_pos (by omega), List.getElem?_set_ne (by omega), List.getElem?_set_self (by omega)]
      simp
    · by_cases e1 : i = k + 1
      · subst e1
        rw [if_pos (by omega), List.getElem?_set_self (by simp; omega), show k + 1 - k = 1 by omega]
        rfl
      · rw [if_neg (by omega), List.getElem?_eq_none (by simp; omega)]
theorem drop_two (xs : List Value) (k m : Nat) (a b : Value) (h : k + 1 < m) : ((xs.set k a).set (k + 1) b).drop m = xs.drop m := by
  apply List.ext_getElem?
  intro i
  rw [List.getElem?_drop, List.getElem?_drop, List.getElem?_set_ne (by omega), List.getElem?_set_ne (by omega)]
theorem cells_two (ls : List Lab) (l : Lab) : cellsOfL (ls ++ [l]) = cellsOfL ls ++ [.string l.1, .string l.2] := (cells_snoc ls l).symm

set_option maxHeartbeats 4000000 in
set_option maxRecDepth 100000 in
theorem deletePick (b base : Nat) (v : Value) (ls : List Lab) (p : Lab → Bool) (w : World) (hown : w.ownsRow base 42 2 v ls.length (cellsOfL ls)) (hn : ls.length ≤ 1000) (hbw : base ≤ w.heap.size) (hl : Picks v.ownBlock.toList w b ls p) :
    Calls Tryz.prog 151 #[v, .func (.func 152) #[] #[.pointer (some ⟨b, 0, none⟩)]] w fun e w' => ∃ v', e = .returned v' ∧ v'.ownBlock = v.ownBlock ∧
      w'.ownsRow base 42 2 v' (ls.filter fun l => !p l).length (cellsOfL (ls.filter fun l => !p l)) ∧ Ex v.ownBlock.toList w w' := by
  have KI := hide (indexPick _ b v ls p w (sl_own hown rfl) hn hl)
  have HL := hide hl
  have HO := hide hown
  unfold idxP at KI
  cases hfi : ls.findIdx? p with
  | none =>
    rw [hfi] at KI
    dsimp only at KI
    have hall := left_all hfi
    obtain ⟨pa, c, rfl⟩ := own_slice hown
    rw [hall]
    clear hl hown hfi hall
    go_enter Tryz.func151, Tryz.ntmps151
    go_wp2_with fail
    refine KI.out.mono ?_
    rintro e w1 ⟨rfl, hx1⟩
    have HX1 := hide hx1
    clear hx1
    go_wp2_with fail
    go_ret
    exact ⟨_, rfl, rfl, own_ex HO.out HX1.out (by simp), HX1.out.drop (by simp)⟩
  | some i0 =>
    rw [hfi] at KI
    dsimp only at KI
    obtain ⟨hi0, hfirst⟩ := left_first hfi
    obtain ⟨g, cap, rfl, hgb, hgl, hgc, hcell, hfz⟩ := own_cells hown (by omega)
    have hcaps := own_caps hown
    have hcm : cap ≤ 9223372036854775807 := hcaps.2
    obtain ⟨n, hnn⟩ : ∃ n, n = ls.length := ⟨_, rfl⟩
    have HNN := hide hnn
    have HF := hide hfirst
    have hlenxs := hown.1
    have HLX := hide hlenxs
    rw [← hnn] at KI hn hi0 hgc ⊢
    have hi0' : ((i0 : Int) == -1) = false := by rw [beq_eq_false_iff_ne]; omega
    clear hl hown hfi hfirst hcell hfz hcaps hnn hlenxs
    go_enter Tryz.func151, Tryz.ntmps151
    go_wp2_with fail
    refine KI.out.mono ?_
    rintro e w1 ⟨rfl, hx1⟩
    have HX1 := hide hx1
    have hz1 := hx1.size
    clear hx1
    go_wp2_with fail
    go_loopg [5, 6] (n - (i0 + 1)) (fun gk s5 s6 wr => ∃ (i j : Nat) (xs : List Value), j + gk = n ∧ s5 = .int .i64 i ∧ s6 = .int .i64 j ∧ i < j ∧ xs.take (i * 2) = cellsOfL ((ls.take j).filter fun l => !p l) ∧ i = ((ls.take j).filter fun l => !p l).length ∧ xs.drop (j * 2) = cellsOfL (ls.drop j) ∧
      wr.ownsRow base 42 2 (.slice (some ⟨g, 0, none⟩) n cap) n xs ∧ Ex [g] w wr)
    case atStart =>
      refine ⟨i0, i0 + 1, cellsOfL ls, by omega, rfl, by simp, by omega, ?_, ?_, ?_, ?_, HX1.out.drop (by simp)⟩
      · rw [HF.out, take_cells]
      · rw [HF.out, List.length_take, ← HNN.out]; omega
      · rw [drop_cells]
      · have h1 := own_ex HO.out HX1.out (by simp)
        rw [← HNN.out] at h1
        exact h1
    case round =>
      obtain ⟨i, j, xs, hj, rfl, rfl, hij, htk, hil, hdr, hown, hx⟩ := hrel
      have HTK := hide htk
      have HIL := hide hil
      have HDR := hide hdr
      have HOW := hide hown
      have HX := hide hx
      have hzr := hx.size
      have hxl := hown.1
      cases gk with
      | zero =>
        obtain rfl : j = n := by omega
        obtain ⟨k, hk⟩ : ∃ k, j - i = k + 1 := ⟨j - i - 1, by omega⟩
        obtain ⟨hz1', hz2'⟩ := zeroLabs (k + 1)
        obtain ⟨w2, hr2, ho2, hx2⟩ := run_clear_rest (P := Tryz.prog) wr 32 42 0 _ Tryz.underlying32 zeroLab base 2 g i i cap k (cap - i) _ hz1' hz2' (by omega) (Nat.le_refl _) (own_less hown (show i ≤ j by omega))
        rw [← hk] at hr2
        have h3 : (i : Int) ≤ (j : Int) := by omega
        have h4 : i ≤ j := by omega
        have h5 : ¬ cap = i := by omega
        have h6 : (i : Int) ≤ (cap : Int) := by omega
        have HO2 := hide ho2
        have HX2 := hide hx2
        have HHK := hide hk
        clear htk hil hdr hown hx hj ho2 hx2 hz1' hz2' hk hxl
        go_wp2_with (at_builtin; refine wpList_clear_run _ rfl _ 32 rfl _ rfl hr2 ?_)
        go_ret
        have hfa : (ls.take j).filter (fun l => !p l) = ls.filter (fun l => !p l) := by rw [List.take_of_length_le (by rw [← HNN.out]; exact Nat.le_refl _)]
        refine ⟨.slice (some ⟨g, 0, none⟩) i cap, by simp, rfl, ?_, ?_⟩
        · rw [← hfa, ← HIL.out, ← HTK.out]
          exact HO2.out
        · exact HX.out.trans HX2.out
      | succ gg =>
        have hjl : j < ls.length := by rw [← HNN.out]; omega
        have hjn : (j : Int) < (n : Int) := by omega
        have hin : (i : Int) < (n : Int) := by omega
        obtain ⟨l, hl⟩ : ∃ l, ls[j]? = some l := ⟨_, List.getElem?_eq_getElem hjl⟩
        have hdl : ls.drop j = l :: ls.drop (j + 1) := by
          rw [List.drop_eq_getElem_cons hjl]
          rw [List.getElem?_eq_getElem hjl] at hl
          rw [Option.some.inj hl]
        have htl : ls.take (j + 1) = ls.take j ++ [l] := by
          rw [List.take_succ_eq_append_getElem hjl]
          rw [List.getElem?_eq_getElem hjl] at hl
          rw [Option.some.inj hl]
        have x0 : xs[j * 2]? = some (.string l.1) := by
          have h1 : (xs.drop (j * 2))[0]? = some (.string l.1) := by rw [hdr, hdl]; rfl
          rw [List.getElem?_drop] at h1
          simpa using h1
        have x1 : xs[j * 2 + 1]? = some (.string l.2) := by
          have h1 : (xs.drop (j * 2))[1]? = some (.string l.2) := by rw [hdr, hdl]; rfl
          rw [List.getElem?_drop] at h1
          exact h1
        have hdr2 : xs.drop ((j + 1) * 2) = cellsOfL (ls.drop (j + 1)) := by
          have h1 := congrArg (List.drop 2) hdr
          rw [List.drop_drop, hdl] at h1
          rw [show (j + 1) * 2 = j * 2 + 2 by omega]
          exact h1
        have k0 := own_cell hown x0
        have k1 := own_cell hown x1
        have hgr : g < wr.heap.size := by omega
        have HLM := hide (List.mem_of_getElem? hl)
        obtain ⟨w0, hw0⟩ : ∃ w0, w0 = wr.alloc (Obj.cells #[.string l.1, .string l.2] 42) := ⟨_, rfl⟩
        have hx0 : Ex [] wr w0 := by rw [hw0]; exact (Ex.refl _ _).alloc _
        have hb0 : BK w0 wr.heap.size (.cells #[.string l.1, .string l.2] 42 (0, 0)) := by rw [hw0]; exact BK.new _ _
        have heb : Ex [g] w w0 := hx.trans (hx0.drop (by simp))
        have KL := hide (HL.out w0 heb l HLM.out)
        unfold labV at KL
        have HX0 := hide hx0
        have HB0 := hide hb0
        have HW0 := hide hw0
        have HTL := hide htl
        have HD2 := hide hdr2
        clear htk hil hdr hown hx hl hdl htl x0 x1 hdr2 hx0 hb0 hw0 heb
        go_wp2_with fail
        rw [← HW0.out]
        refine KL.out.mono ?_
        rintro e w2 ⟨rfl, hx2⟩
        have hb2 := HB0.out.ex hx2 (by simp)
        have ho2 := own_ex HOW.out (HX0.out.trans hx2) (by simp)
        have HX2 := hide (HX0.out.trans hx2)
        have HO2 := hide ho2
        have hl2 := hb2.lt
        have hg2 : g < w2.heap.size := by have := (HX0.out.trans hx2).size; omega
        cases hp : p l with
        | true =>
          have HP := hide hp
          clear hp hx2 hb2 ho2 k0 k1
          go_wp2_with fail
          go_roundg gg
          case measure => omega
          case rel =>
            refine ⟨i, j + 1, xs, by omega, rfl, by simp, by omega, ?_, ?_, HD2.out, HO2.out, HX.out.trans (HX2.out.drop (by simp))⟩
            · rw [HTL.out, List.filter_append, HTK.out]; simp [unhide HP]
            · rw [HTL.out, List.filter_append]; simp [unhide HP]; exact HIL.out
        | false =>
          have HP := hide hp
          obtain ⟨u0, y0⟩ : ∃ u0, xs[i * 2]? = some u0 := ⟨_, List.getElem?_eq_getElem (by rw [hxl]; omega)⟩
          obtain ⟨u1, y1⟩ : ∃ u1, xs[i * 2 + 1]? = some u1 := ⟨_, List.getElem?_eq_getElem (by rw [hxl]; omega)⟩
          have z0 := own_cell ho2 y0
          have z1 := own_cell ho2 y1
          have f0 := own_froz ho2 (i * 2)
          have f1 := own_froz ho2 (i * 2 + 1)
          obtain ⟨hc2, hf2⟩ := hb2.all
          clear hp hx2 hb2 ho2 k0 k1 y0 y1
          go_wp2_with fail
          go_roundg gg
          case measure => omega
          case rel =>
            refine ⟨i + 1, j + 1, (xs.set (i * 2) (.string l.1)).set (i * 2 + 1) (.string l.2), by omega, by simp, by simp, by omega, ?_, ?_, ?_, ?_, ?_⟩
            · rw [show (i + 1) * 2 = i * 2 + 2 by omega, put_two _ _ _ _ (by rw [hxl]; omega), HTL.out, List.filter_append, HTK.out]
              simp [unhide HP, cells_two]
            · rw [HTL.out, List.filter_append, List.length_append, ← HIL.out]; simp [unhide HP]
            · rw [drop_two _ _ _ _ _ (by omega)]; exact HD2.out
            · exact own_put (own_put HO2.out _ _) _ _
            · refine Ex.setCell (Ex.setCell (HX.out.trans (HX2.out.drop (by simp))) (Or.inl (by simp)) _) (Or.inl (by simp)) _
end Go.Proofs.YtcbiidoebpkifaaGreatDoor.G
