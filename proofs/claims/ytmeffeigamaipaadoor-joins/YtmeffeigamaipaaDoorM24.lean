/- V6 G15, one behind the other. -/
import Derived.Test.YtmeffeigamaipaaDoorM23
import Derived.Test.YtmeffeigamaipaaDoorM17
import Derived.Recover
set_option linter.unusedVariables false
set_option linter.unusedSimpArgs false
/- The ways behind each instruction that takes a rune. -/
namespace Go.Proofs.YtmeffeigamaipaaDoor.G
open Go.RowKit

def TakeOK (code : List Ins) : Prop := ∀ k i, code[k]? = some i → i.op = 0 → k + 1 < code.length

structure BHG (w : World) (B lo : Nat) (code : List Ins) (j : Nat) : Prop where
  lt : B < lo
  ex : ∃ ca : Array Value, BK w B (.cells ca 67 (0, 0)) ∧ ca.size = code.length ∧ ∀ i x, i < j → code[i]? = some x → x.op = 0 → ∃ v, ca[i]? = some v ∧ w.ownsRow lo 110 2 v (waysM code (i + 1, 1)).length (waysL (waysM code (i + 1, 1)))
theorem BHG.ex' {w w' : World} {B lo j : Nat} {code : List Ins} (h : BHG w B lo code j) (hx : Ex [] w w') : BHG w' B lo code j := by
  obtain ⟨ca, h1, h2, h3⟩ := h.ex
  refine ⟨h.lt, ca, h1.ex hx (by simp), h2, fun i x hi hc h0 => ?_⟩
  obtain ⟨v, hv, ho⟩ := h3 i x hi hc h0
  exact ⟨v, hv, own_ex ho hx (by simp)⟩
theorem BHG.next {w : World} {B lo j : Nat} {code : List Ins} {v : Value} (h : BHG w B lo code j) (hj : j < code.length) (ho : w.ownsRow lo 110 2 v (waysM code (j + 1, 1)).length (waysL (waysM code (j + 1, 1)))) : BHG (w.setCell ⟨B, j, none⟩ v) B lo code (j + 1) := by
  obtain ⟨ca, h1, h2, h3⟩ := h.ex
  refine ⟨h.lt, ca.setIfInBounds j v, BK.self h1 j v, by simpa using h2, fun i x hi hc h0 => ?_⟩
  by_cases hij : i = j
  · subst hij
    exact ⟨v, by simp [Array.getElem?_setIfInBounds, h2, hj], own_set ho h.lt _⟩
  · obtain ⟨u, hu, hou⟩ := h3 i x (by omega) hc h0
    exact ⟨u, by rw [Array.getElem?_setIfInBounds_ne (by omega)]; exact hu, own_set hou h.lt _⟩
theorem BHG.skip {w : World} {B lo j : Nat} {code : List Ins} {x : Ins} (h : BHG w B lo code j) (hc : code[j]? = some x) (h0 : ¬ x.op = 0) : BHG w B lo code (j + 1) := by
  obtain ⟨ca, h1, h2, h3⟩ := h.ex
  refine ⟨h.lt, ca, h1, h2, fun i y hi hy hy0 => ?_⟩
  by_cases hij : i = j
  · subst hij
    rw [hc] at hy
    cases hy
    exact absurd hy0 h0
  · exact h3 i y (by omega) hy hy0

set_option maxHeartbeats 1000000 in
set_option maxRecDepth 100000 in
theorem waysBehind_any (code : List Ins) (hcode : code.length ≤ 100000) (hok : CodeOK code) (htk : TakeOK code) (cg cc : Nat) (w : World) (hcg : cg < w.heap.size) (hcap : code.length ≤ cc) (hr : w.rangeAt cg 0 (codeL code)) :
    Calls Tryd.prog 21 #[.slice (some ⟨cg, 0, none⟩) code.length cc] w fun e w' => e = .returned (.slice (some ⟨w.heap.size, 0, none⟩) code.length code.length) ∧ BHG w' w.heap.size (w.heap.size + 1) code code.length ∧ Ex [] w w' := by
  obtain ⟨i0, hi, hz0, hz1, hz2⟩ := info_parts Rx.info78
  have HR := hide hr
  clear hr
  obtain ⟨n, hn⟩ : ∃ n, n = code.length := ⟨_, rfl⟩
  have HNN := hide hn
  rw [← hn] at hcap hcode ⊢
  clear hn
  go_enter Tryd.func21, Tryd.ntmps21
  go_wp2_with (at_make; refine wpList_make_full _ rfl _ _ 71 rfl w.heap.size 67 i0 (.slice none 0 0) 1 Tryd.underlying71 hi hz0 hz1 .i64 .i64 _ _ n rfl rfl (by simp) (by simp) (by rw [hz2]; omega) (by unfold maxLen; omega) (Nat.le_refl _) ?_)
  intro w1 hown1 hg1
  have hx1 : Ex [] w w1 := (Ex.refl _ _).grown hg1 (by simp)
  have hbh : BHG w1 w.heap.size (w.heap.size + 1) code 0 := by
    rcases hown1.2 with ⟨hv, _⟩ | ⟨g', cap', cur, hv, hb', hgg, h1, h2, h3, h4⟩
    · cases hv
    · cases hv
      exact ⟨by omega, cur, hgg, by rw [← HNN.out]; omega, fun i x hi => by omega⟩
  have hl1 : w.heap.size < w1.heap.size := by obtain ⟨ca, hb, _⟩ := hbh.ex; exact hb.lt
  have HX1 := hide hx1
  have HBH := hide hbh
  clear hx1 hbh hown1 hg1
  go_wp2_with fail
  go_loopg [11] n (fun gk i wr => ∃ j : Nat, j + gk = n ∧ i = .int .i64 j ∧ BHG wr w.heap.size (w.heap.size + 1) code j ∧ Ex [] w wr ∧ w.heap.size < wr.heap.size)
  case atStart => exact ⟨0, by omega, rfl, HBH.out, HX1.out, hl1⟩
  case round =>
    obtain ⟨j, hj, rfl, hbh, hx, hlr⟩ := hrel
    have HX := hide hx
    have HB := hide hbh
    cases gk with
    | zero =>
      obtain rfl : j = n := by omega
      clear hx hj hbh
      go_wp2_with fail
      go_ret
      exact ⟨rfl, by have := HB.out; exact this, HX.out⟩
    | succ g =>
      have hj' : ((j : Int) < (n : Int)) := by omega
      have hjn : j < code.length := by rw [← HNN.out]; omega
      obtain ⟨i, hi'⟩ : ∃ i, code[j]? = some i := ⟨code[j], by simp [hjn]⟩
      have hcg' : cg < wr.heap.size := by omega
      have hrr := range_same HR.out (hx.block cg hcg (by simp))
      have hcc : ∀ o, o < 7 → wr.cell? ⟨cg, j * 7 + o, none⟩ = i.cells[o]? := by
        intro o ho
        have h1 := codeL_at code j o i hi' ho
        obtain ⟨v, hv⟩ : ∃ v, i.cells[o]? = some v := ⟨_, List.getElem?_eq_getElem (by simpa [Ins.cells] using ho)⟩
        rw [hv] at h1 ⊢
        have := hrr _ _ h1
        simpa using this
      have HRR := hide hrr
      have HI := hide hi'
      obtain ⟨op, a, c, hh, t0, t1, us⟩ := i
      have k0 := hcc 0 (by omega); have k1 := hcc 1 (by omega); have k2 := hcc 2 (by omega); have k3 := hcc 3 (by omega); have k4 := hcc 4 (by omega)
      have k5 := hcc 5 (by omega); have k6 := hcc 6 (by omega)
      simp only [Ins.cells, List.getElem?_cons_zero, List.getElem?_cons_succ, Nat.add_zero] at k0 k1 k2 k3 k4 k5 k6
      clear hcc hx hbh hi' hrr
      by_cases h0 : op = 0
      · subst h0
        have hnx : j + 1 < code.length := htk j _ HI.out rfl
        have KEY := hide (fun (w' : World) (hx : Ex [] wr w') => waysFrom_any code (by rw [← HNN.out]; exact hcode) hok cg cc (j + 1, 1) w' (Nat.lt_of_lt_of_le hcg' hx.size) (by rw [← HNN.out]; exact hcap) (range_same HRR.out (hx.block cg hcg' (by simp))) hnx (by simp only; omega))
        rw [← HNN.out] at KEY
        have E := hide (show Value.agg #[.int .i64 ((j : Int) + 1), .int .i64 1] = staV (j + 1, 1) by simp [staV])
        go_wp2_with fail
        rw [E.out]
        refine (KEY.out _ ((Ex.refl _ _).alloc _)).mono ?_
        rintro e w2 ⟨p2, c2, rfl, ho2, hx2⟩
        have hx3 : Ex [] wr w2 := ((Ex.refl _ _).alloc _).trans hx2
        have hB2 := HB.out.ex' hx3
        obtain ⟨ca, hbk, hcs, _⟩ := hB2.ex
        obtain ⟨hcB, hfB⟩ := hbk.all
        have kj : w2.cell? ⟨w.heap.size, j, none⟩ = some (ca[j]'(by omega)) := by rw [hcB, Array.getElem?_eq_getElem (by omega)]
        have kf := hfB j
        have HO2 := hide (own_lower ho2 (show w.heap.size + 1 ≤ _ by simp; omega))
        have HX3 := hide hx3
        have HB2 := hide hB2
        obtain ⟨nw, hnw⟩ : ∃ nw, nw = (waysM code (j + 1, 1)).length := ⟨_, rfl⟩
        rw [← hnw]
        have HNW := hide hnw
        clear k0 k1 k2 k3 k4 k5 k6 hcB hfB hx2 hx3 hB2 ho2 hbk hnw
        go_wp2_with fail
        go_roundg g
        case measure => omega
        case rel =>
          refine ⟨j + 1, by omega, by simp, ?_, ?_, ?_⟩
          · have := HB2.out.next hjn HO2.out
            rw [HNW.out]
            exact this
          · exact (HX.out.trans HX3.out).setCell (Or.inr (by simp)) _
          · have := HX3.out.size; simp; omega
      · have h0b : (op == 0) = false := by simpa using h0
        go_wp2_with fail
        go_roundg g
        case measure => omega
        case rel =>
          exact ⟨j + 1, by omega, by simp, (HB.out.ex' ((Ex.refl [] _).alloc _)).skip HI.out h0, HX.out.alloc _, by simp; omega⟩
end Go.Proofs.YtmeffeigamaipaaDoor.G

/- The pattern reader's face: what it makes of a text, or where it gives up. -/
namespace Go.Proofs.YtmeffeigamaipaaDoor.G
open Go.RowKit

theorem prefix3 (t : ByteArray) (a b c : UInt8) : Lib.hasPrefix t.data.toList [a, b, c] = decide (byteAt t 0 = some a ∧ byteAt t 1 = some b ∧ byteAt t 2 = some c) := by
  obtain ⟨⟨l⟩⟩ := t
  unfold Lib.hasPrefix byteAt
  rw [Bool.eq_iff_iff, decide_eq_true_iff]
  cases l with
  | nil => simp
  | cons x l =>
    cases l with
    | nil => simp
    | cons y l =>
      cases l with
      | nil => simp
      | cons z l =>
        simp only [List.isPrefixOf_cons_cons, List.isPrefixOf_nil_left, Bool.and_true, Bool.and_eq_true, beq_iff_eq, List.getElem?_toArray, List.getElem?_cons_zero, List.getElem?_cons_succ, Option.some.injEq]
        constructor
        · rintro ⟨h1, h2, h3⟩; exact ⟨h1.symm, h2.symm, h3.symm⟩
        · rintro ⟨h1, h2, h3⟩; exact ⟨h1.symm, h2.symm, h3.symm⟩

theorem RG.at3 {w : World} {r mb : Nat} {t : ByteArray} {x : EV} {s : RS} (h : RG w r mb t x s) (h3 : 3 ≤ t.size) : RG (w.setCell ⟨r, 1, none⟩ (.int .i64 3)) r mb t x { s with k := 3 } :=
  h.own (s' := { s with k := 3 }) rfl _ rfl h3 (by
    have h1 := h.rd
    unfold RD at h1 ⊢
    simp [World.setCell, Array.getElem?_modify, h1])
theorem RG.fold {w : World} {r mb : Nat} {t : ByteArray} {x : EV} {s : RS} (h : RG w r mb t x s) : RG (w.setCell ⟨r, 3, none⟩ (.bool true)) r mb t x { s with f := true } :=
  h.own (s' := { s with f := true }) rfl _ rfl h.hk (by
    have h1 := h.rd
    unfold RD at h1 ⊢
    simp [World.setCell, Array.getElem?_modify, h1])

set_option maxHeartbeats 400000 in
theorem gFold {w : World} {r mb : Nat} {t : ByteArray} {x : EV} (h : RG w r mb t x startS) :
    Calls Tryd.prog 30 #[.pointer (some ⟨r, 0, none⟩)] w fun e w' => Post [r] r mb t x w (fun _ v _ => v = .tuple #[]) (foldM t) e w' := by
  have hpre := prefix3 t 40 63 105
  have h0 := h.rd.c0
  have hlt := h.lt
  have hf1 := h.fz 1
  have hc1 := h.rd.c1
  have H := hide h
  clear h
  by_cases hp : byteAt t 0 = some 40 ∧ byteAt t 1 = some 63 ∧ byteAt t 2 = some 105
  · rw [decide_eq_true hp] at hpre
    have h3 : 3 ≤ t.size := (byteAt_some hp.2.2).1
    have HF : Hid (foldM t = (mustM t { startS with k := 3 } 41).bind fun _ s => .ok () { s with f := true }) := by show foldM t = _; unfold foldM; rw [if_pos hp]
    clear hp
    go_enter Tryd.func30, Tryd.ntmps30
    go_wp2_with (go_at_call 40; refine (Tryd.strings_HasPrefix _ _ _).mono ?_; rintro e w' ⟨rfl, rfl⟩)
    refine (gMust (H.out.at3 h3) 41 41 rfl).mono ?_
    rintro e w1 hp
    rcases hp.split with ⟨_, s1, v, hm, rfl, rfl, hg1, hx1⟩ | ⟨s9, hm, rfl, hg, hx⟩
    rotate_left
    · exact body_panic rfl (Post.mkBad (by rw [HF.out, hm]; rfl) hg (((Ex.refl _ _).setCell (Or.inl (by simp)) _).trans hx))
    have HM : Hid (foldM t = .ok () { s1 with f := true }) := by show foldM t = _; rw [HF.out, hm]; rfl
    have hf3 := hg1.fz 3
    have hc3 := hg1.rd.c3
    have hl1 := hg1.lt
    have G1 := hide hg1
    have X1 := hide hx1
    clear hp hm hg1 hx1 h0 hf1 hc1
    go_wp2_with fail
    go_end0
    exact Post.mkOk HM.out rfl G1.out.fold ((((Ex.refl _ _).setCell (Or.inl (by simp)) _).trans X1.out).setCell (Or.inl (by simp)) _)
  · rw [decide_eq_false hp] at hpre
    have HF : Hid (foldM t = .ok () startS) := by show foldM t = _; unfold foldM; rw [if_neg hp]
    clear hp
    go_enter Tryd.func30, Tryd.ntmps30
    go_wp2_with (go_at_call 40; refine (Tryd.strings_HasPrefix _ _ _).mono ?_; rintro e w' ⟨rfl, rfl⟩)
    go_end0
    exact Post.mkOk HF.out rfl H.out (Ex.refl _ _)

theorem catch_idle (p q : Addr) (w : World) :
    CallsD Tryd.prog 29 #[.pointer (some p), .pointer (some q)] .returning w fun e u' w' => e = .returned (.tuple #[]) ∧ u' = .returning ∧ w' = w := by
  refine callsD_of_wpS Tryd.func29 rfl fun c₀ cs hu => ?_
  apply wpS_seq
  apply wpS_region
  simp [wpOpsS, go_sem, recoverD, hu, Tryd.ntmps29, Exit.thenS]
  refine wpS_cond (t := false) (by simp [Act.eval, Array.replicate]) ?_
  simp only [Bool.false_eq_true, if_false]
  refine wpS_of_wp (wp_skip ?_)
  cases c₀
  simp_all [bodyPostS, results, Tryd.results29]


set_option maxRecDepth 100000 in
theorem catch_panic {wb ob : Nat} {u : TypeId} {pv : Value} {older : List PanicEntry} {w : World} {cs : Array Value} {b : Value} (hA : BK w wb (.cells cs 59 (0, 0))) (hs : cs.size = 9) (hB : BK w ob (.cells #[b] 4 (0, 0))) (hne : wb ≠ ob) :
    CallsD Tryd.prog 29 #[.pointer (some ⟨wb, 0, none⟩), .pointer (some ⟨ob, 0, none⟩)] (.panicking ({ v := .iface u pv, recovered := false } :: older)) w fun e u' w' =>
      e = .returned (.tuple #[]) ∧ u' = .panicking ({ v := .iface u pv, recovered := true } :: older) ∧ BK w' wb (.cells #[.int .i64 0, .slice none 0 0, .int .u64 0, .int .u64 0, .bool false, .int .i64 0, .int .i64 0, .int .i64 0, .bool false] 59 (0, 0)) ∧ BK w' ob (.cells #[.bool false] 4 (0, 0)) ∧ Ex [wb, ob] w w' := by
  have HSZ : (Tryd.prog.info? 59).map (·.size) = some (#[.int .i64 0, .slice none 0 0, .int .u64 0, .int .u64 0, .bool false, .int .i64 0, .int .i64 0, .int .i64 0, .bool false] : Array Value).size := partSize
  have HAL : (#[.int .i64 0, .slice none 0 0, .int .u64 0, .int .u64 0, .bool false, .int .i64 0, .int .i64 0, .int .i64 0, .bool false] : Array Value).all (·.oneCell') = true := by simp [Value.oneCell']
  refine callsD_of_wpS Tryd.func29 rfl fun c₀ cs hu => ?_
  apply wpS_seq
  apply wpS_region
  simp [wpOpsS, go_sem, recoverD, hu, Tryd.ntmps29, Exit.thenS]
  refine wpS_cond (t := true) (by simp [Act.eval, Array.replicate]) ?_
  simp only [if_true]
  refine wpS_of_wp ?_
  have HA := hide hA
  have HB := hide hB
  have hB2 : BK (w.setRow wb #[.int .i64 0, .slice none 0 0, .int .u64 0, .int .u64 0, .bool false, .int .i64 0, .int .i64 0, .int .i64 0, .bool false]) ob (.cells #[b] 4 (0, 0)) := by unfold BK; rw [setRow_other _ _ _ _ (Ne.symm hne)]; exact hB
  have hA2 : BK (w.setRow wb #[.int .i64 0, .slice none 0 0, .int .u64 0, .int .u64 0, .bool false, .int .i64 0, .int .i64 0, .int .i64 0, .bool false]) wb (.cells #[.int .i64 0, .slice none 0 0, .int .u64 0, .int .u64 0, .bool false, .int .i64 0, .int .i64 0, .int .i64 0, .bool false] 59 (0, 0)) := setRow_heap _ _ _ _ _ _ hA
  have hx2 : Ex [wb, ob] w (w.setRow wb #[.int .i64 0, .slice none 0 0, .int .u64 0, .int .u64 0, .bool false, .int .i64 0, .int .i64 0, .int .i64 0, .bool false]) := (Ex.refl _ _).setRow (Or.inl (by simp)) _
  obtain ⟨hcB, hfB⟩ := hB2.all
  have hBl := hB2.lt
  have HB2 := hide hB2
  have HA2 := hide hA2
  have HX2 := hide hx2
  clear hA hB hB2 hA2 hx2
  go_wp2_with (refine wpList_store_row rfl 59 _ _ rfl wb #[.int .i64 0, .slice none 0 0, .int .u64 0, .int .u64 0, .bool false, .int .i64 0, .int .i64 0, .int .i64 0, .bool false] rfl rfl 59 _ HA.out HSZ (by exact hs) HAL ?_)
  have hA3 := HA2.out.set (p := ⟨ob, 0, none⟩) hne (.bool false)
  have hB3 := HB2.out.self 0 (.bool false)
  have hx3 := HX2.out.setCell (p := ⟨ob, 0, none⟩) (Or.inl (by simp)) (.bool false)
  simp only [List.setIfInBounds_toArray, List.set_cons_zero] at hB3
  simp [bodyPostS, results, Tryd.results29]
  exact ⟨hA3, hB3, hx3⟩
end Go.Proofs.YtmeffeigamaipaaDoor.G
