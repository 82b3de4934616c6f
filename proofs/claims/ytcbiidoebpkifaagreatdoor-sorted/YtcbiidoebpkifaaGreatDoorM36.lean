/- T9 T12 F14 T13 T13b T14, one behind the other. -/
import Derived.Test.YtcbiidoebpkifaaGreatDoorM35
import Derived.Test.YtcbiidoebpkifaaGreatDoorM11
import Derived.Deep.RegionHeld3
set_option linter.unusedVariables false
set_option linter.unusedSimpArgs false
/- Load: rules that are right, one behind the other. -/
namespace Go.Proofs.YtcbiidoebpkifaaGreatDoor.G
open Go.RowKit

structure AR where
  act : Int
  p : Option Addr
  n : Nat
  c : Nat
  se : ByteArray
  re : ByteArray
  ta : ByteArray
  rp : ByteArray
  mo : Int
def AR.cells (r : AR) : List Value := [.int .i64 r.act, .slice r.p r.n r.c, .string r.se, .string r.re, .string r.ta, .string r.rp, .int .u64 r.mo]
def AR.val (r : AR) : Value := ruleV r.act (.slice r.p r.n r.c) r.se r.re r.ta r.rp r.mo
def AL (w : World) (v : Value) (rs : List AR) : Prop :=
  ∃ p c, v = .slice p rs.length c ∧ ∀ i r, rs[i]? = some r → ∃ b off, p = some ⟨b, off, none⟩ ∧ b < w.heap.size ∧ ∀ o, o < 7 → w.cell? ⟨b, off + i * 7 + o, none⟩ = r.cells[o]?
theorem AL.slice {w : World} {v : Value} {rs : List AR} (h : AL w v rs) : ∃ p c, v = .slice p rs.length c := by
  obtain ⟨p, c, h, _⟩ := h
  exact ⟨p, c, h⟩
theorem AL.ex0 {w w' : World} {v : Value} {rs : List AR} (h : AL w v rs) (hx : Ex [] w w') : AL w' v rs := by
  obtain ⟨p, c, hv, h⟩ := h
  refine ⟨p, c, hv, fun i r hi => ?_⟩
  obtain ⟨b, off, h1, hb, hc⟩ := h i r hi
  exact ⟨b, off, h1, Nat.lt_of_lt_of_le hb hx.size, fun o ho => (hx.cell0.1 b _ hb).trans (hc o ho)⟩

def Makes (w : World) (r : AR) (F : List Lab → List Lab × Bool) : Prop := ∀ W, Ex [] w W → Calls Tryz.prog 44 #[r.val] W fun x w' => (∃ f a b, x = .returned (.tuple #[.agg #[.func f a b], .int .i64 0, .int .i64 0]) ∧ Does W.heap.size w'.heap.size w' (.func f a b) F) ∧ Ex [] W w'

set_option maxHeartbeats 4000000 in
set_option maxRecDepth 100000 in
theorem load_list (R R' : List Value → List Lab → Bool → Prop) (e m mb base room : Nat) (rv : Value) (ts : List (List Value)) (tv : Value) (es : Array MapEntry) (clk : Nat) (v : Value) (rs : List AR) (Fs : List (List Lab → List Lab × Bool)) (w : World) (he : EN R w e m mb base room rv ts tv es clk)
    (hv : AL w v rs) (hn : rs.length ≤ 12) (hlen : Fs.length = rs.length) (hmk : ∀ (i : Nat) r F, rs[i]? = some r → Fs[i]? = some F → Makes w r F) :
    Calls Tryz.prog 21 #[.pointer (some ⟨e, 0, none⟩), v] w fun x w' => x = .returned (.tuple #[.int .i64 0, .int .i64 0, .int .i64 0]) ∧ (∃ rv', EN R' w' e m mb w'.heap.size room rv' [] (.slice none 0 0) #[] clk ∧ Rules w.heap.size w'.heap.size w' rv' Fs) ∧ Ex [e, m, mb] w w' := by
  have HE := hide he
  have HV := hide hv
  have HMK := hide hmk
  have HLEN := hide hlen
  obtain ⟨i0, hi, hz0, hz1, hz2⟩ := info_parts infoRule
  obtain ⟨p, c, rfl⟩ := hv.slice
  obtain ⟨n, hnn⟩ : ∃ n, n = rs.length := ⟨_, rfl⟩
  have HNN := hide hnn
  rw [← hnn] at hn ⊢
  have hn12 : ¬ ((n : Int) > 12) := by omega
  clear he hv hmk hlen hnn
  go_enter Tryz.func21, Tryz.ntmps21
  go_wp2_with fail
  go_loopg [7, 18] n (fun gk s7 i18 wr => ∃ (j : Nat) (fvs : List Value), j + gk = n ∧ i18 = .int .i64 j ∧ wr.ownsRow w.heap.size 132 1 s7 j fvs ∧
    (∀ i F, i < j → Fs[i]? = some F → ∃ fv l h, fvs[i]? = some fv ∧ w.heap.size ≤ l ∧ h ≤ wr.heap.size ∧ Does l h wr fv F ∧ ∀ k, s7.ownBlock = some k → k < l ∨ h ≤ k) ∧ Ex [] w wr)
  case atStart => exact ⟨0, [], by omega, rfl, World.ownsRow_nil _ _ _ _, fun i F h => by omega, Ex.refl _ _⟩
  case round =>
    obtain ⟨j, fvs, hj, rfl, hown, hall, hx⟩ := hrel
    have HOWN := hide hown
    have HALL := hide hall
    have HX := hide hx
    have hwz := hx.size
    obtain ⟨p7, c7, rfl⟩ := own_slice hown
    cases gk with
    | zero =>
      obtain rfl : j = n := by omega
      have he2 := HE.out.blk.ex hx (by simp)
      have hm2 := HE.out.mem.ex hx (by simp)
      have HE2 := hide he2
      have HM2 := hide hm2
      obtain ⟨hce, hfe⟩ := he2.all
      have hel2 := he2.lt
      clear hown hall hx hj he2 hm2
      go_wp2_with fail
      have hb3 := HE2.out.self 0 (.slice p7 j c7)
      simp only [List.setIfInBounds_toArray, List.set_cons_zero] at hb3
      have hm3 : MM R (wr.setCell ⟨e, 0, none⟩ (.slice p7 j c7)) m mb base room ts tv es clk := HM2.out.ex (o := [e]) ((Ex.refl _ _).setCell (.inl (by simp)) _) (by simp [HE.out.lt, HE.out.nem, HE.out.nemb])
      have hx3 : Ex [e] wr (wr.setCell ⟨e, 0, none⟩ (.slice p7 j c7)) := (Ex.refl _ _).setCell (.inl (by simp)) _
      refine (forget_any R m mb base room ts tv es clk _ hm3).mono ?_
      rintro x w4 ⟨rfl, hm4, hx4⟩
      have hb4 := hb3.ex hx4 (by simp [HE.out.nem, HE.out.nemb])
      have HB4 := hide hb4
      have HM4 := hide hm4
      have HX24 : Hid (Ex [e, m, mb] wr w4) := (hx3.drop (by simp)).trans (hx4.drop (fun y hy _ => by simp at hy ⊢; omega))
      clear hb3 hm3 hb4 hm4 hx3 hx4 hce hfe
      go_wp2_with fail
      go_ret3
      have hel := HE.out.lt
      have hbs := HE.out.mem.le
      have hml := HE.out.mem.mlt
      have hmbl := HE.out.mem.mblt
      have hz4 := HX24.out.size
      refine ⟨rfl, ⟨_, ⟨HB4.out, HM4.out.bare, HB4.out.lt, HE.out.nem, HE.out.nemb⟩, ?_⟩, (HX.out.drop (by simp)).trans HX24.out⟩
      have hlF : Fs.length = j := by rw [HLEN.out, ← HNN.out]
      rcases Nat.eq_zero_or_pos j with h0 | h0
      · rcases HOWN.out.2 with ⟨hv, _⟩ | ⟨g, cap, cur, hv, hb, hgg, hnc, hcm, hcs, htake⟩
        · exact .inl ⟨hv, List.length_eq_zero_iff.1 (by omega)⟩
        · refine .inr ⟨g, cap, by rw [hlF]; exact hv, hb, ?_, Nat.le_refl _, fun i F hi => ?_⟩
          · have := BK.lt hgg; omega
          · have := (List.getElem?_eq_some_iff.1 hi).1; omega
      · obtain ⟨g, c', hv', hgb, hgl, hgc, hcell, _⟩ := own_cells HOWN.out h0
        refine .inr ⟨g, c', by rw [hlF]; exact hv', hgb, by omega, Nat.le_refl _, fun i F hi => ?_⟩
        have hij : i < j := by have := (List.getElem?_eq_some_iff.1 hi).1; omega
        obtain ⟨fv, l, h, h1, h2, h3, h4, _⟩ := HALL.out i F hij hi
        refine ⟨fv, l, h, ?_, h2, by omega, h4.kb (KB.ofEx HX24.out (fun x hx => Or.inl (by simp at hx; omega)) h3)⟩
        rw [HX24.out.cell.1 g i hgl (by simp; omega), hcell i (by omega)]
        exact h1
    | succ g =>
      have hjl : j < rs.length := by rw [← HNN.out]; omega
      have hjn : (j : Int) < (n : Int) := by omega
      obtain ⟨r, hr⟩ : ∃ r, rs[j]? = some r := ⟨_, List.getElem?_eq_getElem hjl⟩
      obtain ⟨F, hF⟩ : ∃ F, Fs[j]? = some F := ⟨_, List.getElem?_eq_getElem (by rw [HLEN.out]; exact hjl)⟩
      obtain ⟨rb, off, hprb, hrbl, hrc⟩ : ∃ rb off, p = some ⟨rb, off, none⟩ ∧ rb < wr.heap.size ∧ ∀ o, o < 7 → wr.cell? ⟨rb, off + j * 7 + o, none⟩ = r.cells[o]? := by
        obtain ⟨p', c', h1, h2⟩ := HV.out
        injection h1 with e1 e2 e3
        obtain ⟨b, off, h3, hb, hc⟩ := h2 j r hr
        exact ⟨b, off, e1.trans h3, by omega, fun o ho => (hx.cell0.1 b _ hb).trans (hc o ho)⟩
      subst hprb
      obtain ⟨w0, hw0⟩ : ∃ w0, w0 = wr.alloc (Obj.cells r.cells.toArray 65) := ⟨_, rfl⟩
      have hx0 : Ex [] wr w0 := by rw [hw0]; exact (Ex.refl _ _).alloc _
      have KM := hide (HMK.out j r F hr hF w0 (hx.trans hx0))
      have HF := hide hF
      have HX0 := hide hx0
      have HW0 := hide hw0
      obtain ⟨act, rp0, rn, rc, se, re, ta, rp, mo⟩ := r
      unfold AR.val ruleV at KM
      unfold AR.cells at hrc HW0
      dsimp only at KM hrc HW0
      have c0 : wr.cell? ⟨rb, off + j * 7, none⟩ = some (.int .i64 act) := hrc 0 (by omega)
      have c1 : wr.cell? ⟨rb, off + j * 7 + 1, none⟩ = some (.slice rp0 rn rc) := hrc 1 (by omega)
      have c2 : wr.cell? ⟨rb, off + j * 7 + 2, none⟩ = some (.string se) := hrc 2 (by omega)
      have c3 : wr.cell? ⟨rb, off + j * 7 + 3, none⟩ = some (.string re) := hrc 3 (by omega)
      have c4 : wr.cell? ⟨rb, off + j * 7 + 4, none⟩ = some (.string ta) := hrc 4 (by omega)
      have c5 : wr.cell? ⟨rb, off + j * 7 + 5, none⟩ = some (.string rp) := hrc 5 (by omega)
      have c6 : wr.cell? ⟨rb, off + j * 7 + 6, none⟩ = some (.int .u64 mo) := hrc 6 (by omega)
      clear hown hall hx hr hF hrc hx0 hw0
      go_wp2_with fail
      rw [← HW0.out]
      refine KM.out.mono ?_
      rintro x w1 ⟨⟨f, fa, fb, rfl, hD⟩, hx1⟩
      have hst := store_func f fa fb (BK.new w1 (Obj.cells #[.nilFunc] 132))
      have hx01 : Ex [] wr w1 := HX0.out.trans hx1
      have hzA := hx01.size
      have hzB := HX0.out.size
      have HD := hide hD
      have HX01 := hide hx01
      have hown1 := own_ex HOWN.out hx01 (by simp)
      have HO1 := hide hown1
      clear hD hx1 hx01 hown1 c0 c1 c2 c3 c4 c5 c6
      go_wp2_with (at_builtin; refine wpList_append_lies _ rfl (.tmp 34) (.tmp 36) 69 rfl w.heap.size 132 i0 (.agg #[.nilFunc]) 1 8 Tryz.underlying69 hi hz0 hz1 hz2 rfl (by decide) (.slice p7 j c7) j fvs rfl ((HO1.out.alloc _).alloc _) ⟨w1.heap.size + 1, 0, none⟩ 1 1 [.func f fa fb] rfl rfl (by have h9 := cells_new (w1.alloc (Obj.cells #[.func f fa fb] 132)) #[.func f fa fb] 132; simp only [World.size_alloc] at h9; exact h9) (by simp [Value.oneCell']) (by decide) (by unfold maxLen; omega) (by omega) (by simp; omega) _ rfl ?_)
      intro gb cap w2 hown2 hgrow hcase hlt2
      have hrow : ∀ k, (Value.slice p7 j c7).ownBlock = some k → w.heap.size ≤ k ∧ k < wr.heap.size := fun k hk => HOWN.out.lt k hk
      have hx12 : Ex (Value.slice p7 j c7).ownBlock.toList w1 w2 := Ex.grown ((((Ex.refl _ _).alloc _).alloc _)) hgrow (fun k hk => Or.inl (by simpa using hk))
      have hx02 : Ex [] w w2 := (((HX.out.trans HX01.out).drop (by simp)).trans hx12).drop (fun x hx hlt => by have := hrow x (by simpa using hx); omega)
      have hzC := hx12.size
      have HO2 := hide hown2
      have HX12 := hide hx12
      have HX02 := hide hx02
      have hgb : (Value.slice (some ⟨gb, 0, none⟩) (j + 1) cap).ownBlock = (Value.slice p7 j c7).ownBlock ∨ w1.heap.size ≤ gb := by
        rcases hcase with h | h
        · left; rw [h]; rfl
        · right; rw [h]; first | omega | (simp; omega) | simp
      have HGB := hide hgb
      clear hown2 hgrow hcase hx12 hx02 hst hgb
      go_wp2_with fail
      go_roundg g
      case measure => omega
      case rel =>
        refine ⟨j + 1, fvs ++ [.func f fa fb], by omega, by simp, HO2.out, fun i F' hi hFi => ?_, HX02.out⟩
        have hfl : fvs.length = j := by have := HOWN.out.1; omega
        have hnew : ∀ k, (Value.slice (some ⟨gb, 0, none⟩) (j + 1) cap).ownBlock = some k → (Value.slice p7 j c7).ownBlock = some k ∨ w1.heap.size ≤ k := fun k hk => by
          rcases HGB.out with h | h
          · left; rw [← h]; exact hk
          · right; cases hk; exact h
        rcases Nat.lt_or_ge i j with hij | hij
        · obtain ⟨fv, l, h, h1, h2, h3, h4, h5⟩ := HALL.out i F' hij hFi
          refine ⟨fv, l, h, by rw [List.getElem?_append_left (by omega)]; exact h1, h2, by omega, ?_, fun k hk => ?_⟩
          · exact (h4.kb (KB.ofEx HX01.out (by simp) h3)).kb (KB.ofEx HX12.out (fun x hx => h5 x (by simpa using hx)) (by omega))
          · rcases hnew k hk with h6 | h6
            · exact h5 k h6
            · exact Or.inr (by omega)
        · have : i = j := by omega
          subst this
          rw [HF.out] at hFi
          cases hFi
          refine ⟨.func f fa fb, w0.heap.size, w1.heap.size, by rw [List.getElem?_append_right (by omega), hfl]; simp, by omega, by omega, ?_, fun k hk => ?_⟩
          · exact HD.out.kb (KB.ofEx HX12.out (fun x hx => Or.inl (by have := hrow x (by simpa using hx); omega)) (Nat.le_refl _))
          · rcases hnew k hk with h6 | h6
            · exact Or.inl (by have := hrow k h6; omega)
            · exact Or.inr h6
end Go.Proofs.YtcbiidoebpkifaaGreatDoor.G

/- Relabel, whatever the rules do: what is asked for is rewritten. -/
namespace Go.Proofs.YtcbiidoebpkifaaGreatDoor.G
open Go.RowKit

def accL (ls : List Lab) (j : Nat) : List Lab := (ls.take j).foldl (fun a l => Go.Proofs.YtcbiidoebpkifaaGreatDoor.setL a l.1 l.2) []
def bareL (ls : List Lab) : List Lab := ls.foldl (fun a l => Go.Proofs.YtcbiidoebpkifaaGreatDoor.setL a l.1 l.2) []
theorem accL_all (ls : List Lab) : accL ls ls.length = bareL ls := by unfold accL bareL; rw [List.take_length]
theorem accL_succ (ls : List Lab) (j : Nat) (l : Lab) (h : ls[j]? = some l) : accL ls (j + 1) = Go.Proofs.YtcbiidoebpkifaaGreatDoor.setL (accL ls j) l.1 l.2 := by
  unfold accL
  rw [List.take_add_one, h]
  simp
theorem set_len1 (ls : List Lab) (t v : ByteArray) : (Go.Proofs.YtcbiidoebpkifaaGreatDoor.setL ls t v).length ≤ ls.length + 1 := by
  have h1 := off_len ls t
  have h2 := off_pos (ls := ls) t
  unfold Go.Proofs.YtcbiidoebpkifaaGreatDoor.setL
  split
  · omega
  · simp; omega
theorem accL_ok (ls : List Lab) (hn : ls.length ≤ 20) (hw : ls.any wrongB = false) : ∀ j, j ≤ ls.length → LOK (accL ls j) ∧ (accL ls j).length ≤ j
  | 0, _ => ⟨LOK.nil, Nat.le_refl _⟩
  | j + 1, hj => by
    obtain ⟨l, hl⟩ : ∃ l, ls[j]? = some l := ⟨_, List.getElem?_eq_getElem (by omega)⟩
    have ih := accL_ok ls hn hw j (by omega)
    rw [accL_succ ls j l hl]
    have h1 : wrongB l = false := by
      rw [Bool.eq_false_iff]
      intro h
      rw [List.any_eq_false] at hw
      exact hw l (List.mem_of_getElem? hl) h
    unfold wrongB at h1
    simp only [Bool.or_eq_false_iff, Bool.not_eq_eq_eq_not, Bool.not_false] at h1
    exact ⟨ih.1.set l.1 l.2 h1.1, by have := set_len1 (accL ls j) l.1 l.2; omega⟩
theorem name_size {s : ByteArray} (h : nameB s = true) : s.size ≤ 60 := by
  unfold nameB at h
  simp at h
  omega
theorem steps_set (ls : List Lab) (hn : ls.length ≤ 20) (hw : ls.any wrongB = false) : Steps ls (accL ls) := by
  refine ⟨rfl, fun j l hl W q base hq => ?_⟩
  have hj : j < ls.length := (List.getElem?_eq_some_iff.1 hl).1
  have hok := accL_ok ls hn hw j (by omega)
  obtain ⟨v, hb, ho⟩ := hq.ex
  have hlt := hq.lt
  have hr : ∀ x, v.ownBlock = some x → base ≤ x := fun x hx => own_block ho x hx
  have hvl : l.2.size ≤ 281474976710656 := by
    have h1 : wrongB l = false := by
      rw [Bool.eq_false_iff]
      intro h
      rw [List.any_eq_false] at hw
      exact hw l (List.mem_of_getElem? hl) h
    unfold wrongB at h1
    simp at h1
    omega
  refine (set_any q base (accL ls j) l.1 l.2 v W hq.le hb ho (fun h => by have := hr q h; omega) hok.1.len (hok.1.srt.for _) hvl).mono ?_
  rintro e w' ⟨rfl, hl', hx⟩
  refine ⟨rfl, ?_, ?_⟩
  · rw [accL_succ ls j l hl]
    obtain ⟨v', h1, h2, _⟩ := hl'.ex
    exact ⟨hlt, hl'.le, v', h1, h2⟩
  · exact (EB.ofEx hx hq.le).mono (Nat.le_refl _) (fun x hx hlt => by
      simp only [List.mem_cons, Option.mem_toList] at hx
      rcases hx with h | h
      · simp [h]
      · have := hr x h; omega)
theorem bareL_ok (ls : List Lab) (hn : ls.length ≤ 20) (hw : ls.any wrongB = false) : LOK (bareL ls) ∧ (bareL ls).length ≤ 20 := by
  have h := accL_ok ls hn hw ls.length (Nat.le_refl _)
  rw [accL_all] at h
  exact ⟨h.1, by omega⟩
theorem read_set (v : Value) (ls : List Lab) (w : World) (hv : SL w v ls) (hn : ls.length ≤ 20) (hw : ls.any wrongB = false) :
    Calls Tryz.prog 24 #[v] w fun e w' => e = .returned (.tuple #[serV (bareL ls), .int .i64 0]) ∧ Ex [] w w' := by
  have h := read_any v ls (accL ls) w hv hn hw (steps_set ls hn hw) (by rw [accL_all]; exact (bareL_ok ls hn hw).2)
  rw [accL_all] at h
  exact h

theorem cells_inj : ∀ (a b : List Lab), a.length = b.length → cellsOfL a = cellsOfL b → a = b
  | [], [], _, _ => rfl
  | [], _ :: _, h, _ => by simp at h
  | _ :: _, [], h, _ => by simp at h
  | x :: a, y :: b, h, e => by
    have e1 : cellsOfL (x :: a) = .string x.1 :: .string x.2 :: cellsOfL a := rfl
    have e2 : cellsOfL (y :: b) = .string y.1 :: .string y.2 :: cellsOfL b := rfl
    rw [e1, e2] at e
    simp only [List.cons.injEq, Value.string.injEq] at e
    rw [cells_inj a b (by simpa using h) e.2.2, Prod.ext e.1 e.2.1]
theorem cells_len (a : List Lab) : (cellsOfL a).length = a.length * 2 := flat_len a
theorem ser_inj {a b : List Lab} (ha : a.length ≤ 20) (hb : b.length ≤ 20) (h : serC a = serC b) : a = b := by
  have h1 := ser_count ha
  have h2 := ser_count hb
  rw [h, h2] at h1
  have h3 : a.length = b.length := by
    injection h1 with h4
    injection h4 with _ h5
    omega
  refine cells_inj a b h3 ?_
  have h4 : (serC a).take (a.length * 2) = cellsOfL a := by
    unfold serC
    rw [List.append_assoc, List.take_append_of_le_length (by rw [cells_len]; exact Nat.le_refl _), List.take_of_length_le (by rw [cells_len]; exact Nat.le_refl _)]
  have h5 : (serC b).take (b.length * 2) = cellsOfL b := by
    unfold serC
    rw [List.append_assoc, List.take_append_of_le_length (by rw [cells_len]; exact Nat.le_refl _), List.take_of_length_le (by rw [cells_len]; exact Nat.le_refl _)]
  rw [← h4, ← h5, h, h3]

def RF (Fs : List (List Lab → List Lab × Bool)) : List Value → List Lab → Bool → Prop := fun S ls b => ∃ l0 : List Lab, S = serC l0 ∧ l0.length ≤ 20 ∧ ls = (runF Fs l0).1 ∧ b = (runF Fs l0).2
structure EG (w : World) (e m mb base room lo : Nat) (Fs : List (List Lab → List Lab × Bool)) (ts : List (List Value)) : Prop where
  ex : ∃ rv tv es clk, EN (RF Fs) w e m mb base room rv ts tv es clk ∧ Rules lo base w rv Fs
  le : base ≤ w.heap.size
  elo : e < lo
  mlo : m < lo
  mblo : mb < lo
  fl : Fs.length ≤ 1000
theorem works_any {Fs : List (List Lab → List Lab × Bool)} {w : World} {e lo hi : Nat} {rv mp : Value} {ls : List Lab} (he : BK w e (.cells #[rv, mp] 71 (0, 0))) (hr : Rules lo hi w rv Fs) (hh : hi ≤ w.heap.size) (hg : GL w) (hfn : Fs.length ≤ 1000) (hn : ls.length ≤ 20) (hok : LOK ls) :
    Works (RF Fs) w (serC ls) (.pointer (some ⟨e, 0, none⟩)) := fun W hW => by
  refine (rewrite_any e rv mp lo hi Fs ls W (he.ex hW (by simp)) (hr.kb (KB.ofEx hW (by simp) hh)) (Nat.le_trans hh hW.size) (hg.ex hW) hfn hn hok).mono ?_
  rintro x w' ⟨v, rfl, hl, ho, hx⟩
  exact ⟨v, _, _, rfl, ⟨ls, rfl, hn, rfl, rfl⟩, hl, ho, hx⟩
theorem relabel_eg (e m mb base room lo : Nat) (Fs : List (List Lab → List Lab × Bool)) (ts : List (List Value)) (v : Value) (ls : List Lab) (w : World) (he : EG w e m mb base room lo Fs ts) (hg : GL w) (hv : SL w v ls) (hn : ls.length ≤ 20) (hw : ls.any wrongB = false) :
    Calls Tryz.prog 13 #[.pointer (some ⟨e, 0, none⟩), v] w fun x w' => ∃ v', x = .returned (.tuple #[v', .bool (runF Fs (bareL ls)).2, .int .i64 0]) ∧ (runF Fs (bareL ls)).1.length ≤ 60 ∧
      w'.ownsRow w.heap.size 42 2 v' (runF Fs (bareL ls)).1.length (cellsOfL (runF Fs (bareL ls)).1) ∧ (∃ ts', After room ts (serC (bareL ls)) ts' ∧ EG w' e m mb base room lo Fs ts') ∧ EB base [m, mb] w w' := by
  obtain ⟨rv, tv, es, clk, hen, hru⟩ := he.ex
  obtain ⟨hok, hl20⟩ := bareL_ok ls hn hw
  have hS : SerOk (serC (bareL ls)) := serOk hl20 (fun l hl => by
    have h1 := name_size (hok.nam l hl)
    have h2 := (hok.val l hl).1
    unfold maxLen
    omega)
  refine (relabel_any (RF Fs) e m mb base room rv ts tv es clk (serC (bareL ls)) v w hen hS (read_set v ls w hv hn hw) (works_any hen.blk hru he.le hg he.fl hl20 hok)).mono ?_
  rintro x w' ⟨v', ls', b, rfl, ⟨l0, hl0, hl0n, rfl, rfl⟩, h60, ho, ⟨ts', tv', es', clk', haf, hen'⟩, hx⟩
  have e0 := ser_inj hl20 hl0n hl0
  subst e0
  refine ⟨v', rfl, h60, ho, ⟨ts', haf, ⟨rv, tv', es', clk', hen', ?_⟩, Nat.le_trans he.le hx.size, he.elo, he.mlo, he.mblo, he.fl⟩, hx⟩
  exact hru.kb ⟨hx.size, fun b h1 h2 => hx.block b h2 (by have := he.mlo; have := he.mblo; simp; omega)⟩
end Go.Proofs.YtcbiidoebpkifaaGreatDoor.G

/- Contracts: two lists of labels held against each other; an engine with a rule. -/
namespace Go.Proofs.YtcbiidoebpkifaaGreatDoor
open Go.RowKit

theorem same_nonempty {v : Value} {w : World} {ls : List Lab} (h : SL w v ls) (j : Nat) (l : Lab) (hl : ls[j]? = some l) : ∃ b c, v = .slice (some ⟨b, 0, none⟩) ls.length c ∧ b < w.heap.size ∧ w.cell? ⟨b, j * 2, none⟩ = some (.string l.1) ∧ w.cell? ⟨b, j * 2 + 1, none⟩ = some (.string l.2) := by
  rcases h with ⟨h1, h2⟩ | ⟨b, c', h1, hb, hc⟩
  · rw [h2] at hl; simp at hl
  · exact ⟨b, c', h1, hb, (hc j l hl).1, (hc j l hl).2⟩

end Go.Proofs.YtcbiidoebpkifaaGreatDoor

/- The statements' own small functions: pick, name, short, labels, get. -/
namespace Go.Proofs.YtcbiidoebpkifaaGreatDoor.G
open Go.RowKit

def pickI (c n : Int) : Int := if c < 0 then (-(c + 1)) % n else c % n
theorem pickI_rng (c n : Int) (hn : 0 < n) : 0 ≤ pickI c n ∧ pickI c n < n := by
  unfold pickI
  split
  · exact ⟨Int.emod_nonneg _ (by omega), Int.emod_lt_of_pos _ hn⟩
  · exact ⟨Int.emod_nonneg _ (by omega), Int.emod_lt_of_pos _ hn⟩
set_option maxHeartbeats 1000000 in
theorem pick_val (c n : Int) (w : World) (hn : 0 < n) (hn2 : n < 4611686018427387904) (hc : -9223372036854775808 ≤ c ∧ c ≤ 9223372036854775807) :
    Calls Tryz.prog 5 #[.int .i64 c, .int .i64 n] w fun x w' => x = .returned (.int .i64 (pickI c n)) ∧ w' = w := by
  unfold pickI
  by_cases h0 : c < 0
  · rw [if_pos h0]
    go_enter Tryz.func5, Tryz.ntmps5
    go_wp2_with fail
    go_ret
    have hv : -(c + 1).tmod n = (-(c + 1)) % n := by rw [← Int.neg_tmod, Int.tmod_eq_emod_of_nonneg (by omega)]
    refine ⟨?_, rfl⟩
    rw [← hv]; rfl
  · rw [if_neg h0]
    go_enter Tryz.func5, Tryz.ntmps5
    go_wp2_with fail
    go_ret
    exact ⟨rfl, rfl⟩

set_option maxHeartbeats 4000000 in
set_option maxRecDepth 100000 in
theorem name_any (n : Int) (w : World) (hc : -9223372036854775808 ≤ n ∧ n ≤ 9223372036854775807) :
    Calls Tryz.prog 20 #[.int .i64 n] w fun x w' => ∃ s, x = .returned (.string s) ∧ nameB s = true ∧ Ex [] w w' := by
  go_enter Tryz.func20, Tryz.ntmps20
  go_wp2_with fail
  refine (pick_val n 10 _ (by omega) (by omega) hc).mono ?_
  rintro x w1 ⟨rfl, rfl⟩
  obtain ⟨k, hk⟩ : ∃ k, k = pickI n 10 := ⟨_, rfl⟩
  have hr := pickI_rng n 10 (by omega)
  rw [← hk] at hr ⊢
  have hk10 : k = 0 ∨ k = 1 ∨ k = 2 ∨ k = 3 ∨ k = 4 ∨ k = 5 ∨ k = 6 ∨ k = 7 ∨ k = 8 ∨ k = 9 := by omega
  clear hk hr
  rcases hk10 with rfl | rfl | rfl | rfl | rfl | rfl | rfl | rfl | rfl | rfl
  all_goals
    go_wp2_with fail
    go_ret
    exact ⟨_, rfl, by kernel_rfl, (Ex.refl _ _).alloc _⟩

set_option maxHeartbeats 1000000 in
theorem short_any (s : ByteArray) (n : Nat) (w : World) (hs : s.size ≤ 9223372036854775807) (hn : n ≤ 1000) :
    Calls Tryz.prog 6 #[.string s, .int .i64 n] w fun x w' => ∃ s', x = .returned (.string s') ∧ s'.size ≤ n ∧ w' = w := by
  by_cases h : (n : Int) < (s.size : Int)
  · have h1 : (n : Int) ≤ (s.size : Int) := by omega
    go_enter Tryz.func6, Tryz.ntmps6
    go_wp2_with fail
    go_ret
    refine ⟨s.extract 0 n, by simp, ?_, rfl⟩
    rw [ByteArray.size_extract]; omega
  · go_enter Tryz.func6, Tryz.ntmps6
    go_wp2_with fail
    go_ret
    exact ⟨s, rfl, by omega, rfl⟩
end Go.Proofs.YtcbiidoebpkifaaGreatDoor.G

/- Slices that are handed in: they may begin anywhere in their block. -/
namespace Go.Proofs.YtcbiidoebpkifaaGreatDoor.G
open Go.RowKit

def SSo (w : World) (p : Option Addr) (ss : List ByteArray) : Prop := ∀ (j : Nat) (s : ByteArray), ss[j]? = some s → ∃ b o, p = some ⟨b, o, none⟩ ∧ b < w.heap.size ∧ w.cell? ⟨b, o + j, none⟩ = some (.string s)
def SLo (w : World) (p : Option Addr) (ls : List Lab) : Prop := ∀ (j : Nat) (l : Lab), ls[j]? = some l → ∃ b o, p = some ⟨b, o, none⟩ ∧ b < w.heap.size ∧ w.cell? ⟨b, o + j * 2, none⟩ = some (.string l.1) ∧ w.cell? ⟨b, o + j * 2 + 1, none⟩ = some (.string l.2)
theorem SSo.ex {w w' : World} {p : Option Addr} {ss : List ByteArray} {o : List Nat} (h : SSo w p ss) (hx : Ex o w w') (hn : ∀ y ∈ o, w.heap.size ≤ y) : SSo w' p ss := fun j s hs => by
  obtain ⟨b, off, h1, h2, h3⟩ := h j s hs
  exact ⟨b, off, h1, Nat.lt_of_lt_of_le h2 hx.size, (hx.cell.1 b _ h2 (fun hb => by have := hn b hb; omega)).trans h3⟩
theorem SLo.ex {w w' : World} {p : Option Addr} {ls : List Lab} (h : SLo w p ls) (hx : Ex [] w w') : SLo w' p ls := fun j l hl => by
  obtain ⟨b, off, h1, h2, h3, h4⟩ := h j l hl
  exact ⟨b, off, h1, Nat.lt_of_lt_of_le h2 hx.size, (hx.cell0.1 b _ h2).trans h3, (hx.cell0.1 b _ h2).trans h4⟩
end Go.Proofs.YtcbiidoebpkifaaGreatDoor.G

/- The statements' own labels: names of some, values that are short. -/
namespace Go.Proofs.YtcbiidoebpkifaaGreatDoor.G
open Go.RowKit

def LabsOK (ls : List Lab) : Prop := ls.length ≤ 8 ∧ ls.any wrongB = false
set_option maxHeartbeats 4000000 in
set_option maxRecDepth 100000 in
theorem labels_any (p : Option Addr) (c : Nat) (rl : List Lab) (w : World) (hv : SLo w p rl) (hn : rl.length ≤ 9223372036854775807) (hz : ∀ l ∈ rl, l.1.size ≤ 9223372036854775807 ∧ l.2.size ≤ 9223372036854775807) :
    Calls Tryz.prog 9 #[.slice p rl.length c] w fun x w' => ∃ v' ls, x = .returned v' ∧ LabsOK ls ∧ w'.ownsRow w.heap.size 42 2 v' ls.length (cellsOfL ls) ∧ Ex [] w w' := by
  obtain ⟨t0, hti, hzz0, hzz1, hzz2⟩ := info_parts infoLab
  have HV := hide hv
  have HZ := hide hz
  obtain ⟨n, hnn⟩ : ∃ n, n = rl.length := ⟨_, rfl⟩
  have HNN := hide hnn
  rw [← hnn] at hn ⊢
  clear hv hz hnn
  go_enter Tryz.func9, Tryz.ntmps9
  go_wp2_with fail
  go_loopg [3, 4] (min n 8) (fun gk s3 i4 wr => ∃ (j : Nat) (ls : List Lab), j + gk = min n 8 ∧ i4 = .int .i64 j ∧ ls.length = j ∧ ls.any wrongB = false ∧ wr.ownsRow w.heap.size 42 2 s3 ls.length (cellsOfL ls) ∧ Ex [] w wr)
  case atStart => exact ⟨0, [], by omega, rfl, rfl, rfl, World.ownsRow_nil _ _ _ _, Ex.refl _ _⟩
  case round =>
    obtain ⟨j, ls, hj, rfl, hlj, hlw, hown, hx⟩ := hrel
    have HO := hide hown
    have HX := hide hx
    have HLW := hide hlw
    have hwz := hx.size
    rw [hlj] at hown
    obtain ⟨p3, c3, rfl⟩ := own_slice hown
    have HLJ := hide hlj
    cases gk with
    | zero =>
      clear hown hx hlw
      by_cases h8 : j < n
      · have h1 : (j : Int) < (n : Int) := by omega
        have h2 : ¬ ((j : Int) < 8) := by omega
        clear hlj
        go_wp2_with fail
        go_ret
        exact ⟨_, rfl, ls, ⟨by have := HLJ.out; omega, HLW.out⟩, HO.out, HX.out⟩
      · have h1 : ¬ ((j : Int) < (n : Int)) := by omega
        clear hlj
        go_wp2_with fail
        go_ret
        exact ⟨_, rfl, ls, ⟨by have := HLJ.out; omega, HLW.out⟩, HO.out, HX.out⟩
    | succ g =>
      have h1 : (j : Int) < (n : Int) := by omega
      have h2 : (j : Int) < 8 := by omega
      have hjl : j < rl.length := by rw [← HNN.out]; omega
      obtain ⟨l, hl⟩ : ∃ l, rl[j]? = some l := ⟨_, List.getElem?_eq_getElem hjl⟩
      obtain ⟨b, off, hpb, hbw, hb, c0, c1⟩ : ∃ b off, p = some ⟨b, off, none⟩ ∧ b < w.heap.size ∧ b < wr.heap.size ∧ wr.cell? ⟨b, off + j * 2, none⟩ = some (.string l.1) ∧ wr.cell? ⟨b, off + j * 2 + 1, none⟩ = some (.string l.2) := by
        obtain ⟨b, off, e1, hb, h3, h4⟩ := HV.out j l hl
        exact ⟨b, off, e1, hb, Nat.lt_of_lt_of_le hb hx.size, by rw [hx.cell0.1 b _ hb]; exact h3, by rw [hx.cell0.1 b _ hb]; exact h4⟩
      subst hpb
      have hlz := HZ.out l (List.mem_of_getElem? hl)
      obtain ⟨l1, l2⟩ := l
      dsimp only at c0 c1 hlz
      have KN := hide (fun (w' : World) => name_any (l1.size : Int) w' ⟨by omega, by omega⟩)
      have KS := hide (fun (w' : World) => short_any l2 40 w' hlz.2 (by omega))
      have HO' := hide hown
      obtain ⟨xs, hxs⟩ : ∃ xs, xs = cellsOfL ls := ⟨_, rfl⟩
      have HXS := hide hxs
      rw [← hxs] at HO'
      clear hown hx hlw hl hlj hxs
      go_wp2_with fail
      go_region_held3 (fun w' => w'.cell? ⟨b, off + j * 2, none⟩ = some (.string l1) ∧ w'.cell? ⟨b, off + j * 2 + 1, none⟩ = some (.string l2))
        (first | exact ⟨r0, r1⟩ | exact ⟨e0 _, e1 _⟩ | exact ⟨d0, d1⟩ | exact ⟨c0, c1⟩)
        (first
          | (go_at_call 20; refine (KN.out _).mono ?_; rintro e w1 ⟨s1, rfl, hs1, hx1⟩; have d0 := (hx1.cell0.1 b (off + j * 2) (show b < wr.heap.size from hb)).trans c0; have d1 := (hx1.cell0.1 b (off + j * 2 + 1) (show b < wr.heap.size from hb)).trans c1; have hzA : wr.heap.size ≤ w1.heap.size := hx1.size; have HN : Hid (∀ (s2 : ByteArray) (i : Nat) (u : Value), [Value.string s1, .string s2][i]? = some u → (w1.alloc (Obj.cells #[.string s1, .string s2] 42)).cell? ((⟨w1.heap.size, 0, none⟩ : Addr).add i) = some u) := (fun s2 => cells_new _ _ _))
          | (go_at_call 6; refine (KS.out _).mono ?_; rintro e w2 ⟨s2, rfl, hs2, rfl⟩; have hb2 : b < w2.heap.size := (by omega); have e0 : ∀ o, (w2.alloc o).cell? ⟨b, off + j * 2, none⟩ = some (.string l1) := (fun o => (((Ex.refl [] w2).alloc o).cell0.1 b (off + j * 2) hb2).trans d0); have e1 : ∀ o, (w2.alloc o).cell? ⟨b, off + j * 2 + 1, none⟩ = some (.string l2) := (fun o => (((Ex.refl [] w2).alloc o).cell0.1 b (off + j * 2 + 1) hb2).trans d1))
          | (refine step_append_lies _ rfl (.tmp 15) (.tmp 30) 32 rfl w.heap.size 42 t0 _ 2 32 Tryz.underlying32 hti hzz0 hzz1 hzz2 rfl (by decide) (.slice p3 j c3) j xs (by simp [Act.eval, Act.put]) ((own_ex (World.ownsRow.drew HO'.out) hx1 (by simp)).alloc _) ⟨w2.heap.size, 0, none⟩ 1 1 [.string s1, .string s2] (by simp [Act.eval, Act.put]) rfl (HN.out s2) (by simp [Value.oneCell']) (by decide) (by unfold maxLen; omega) (by omega) (by simp; omega) _ rfl ?_; intro g0 cap w5 hown5 hgrow hat hlt5; have hgr : Ex (Value.slice p3 j c3).ownBlock.toList w2 w5 := Ex.grown ((Ex.refl _ _).alloc _) hgrow (fun k hk => Or.inl (by simpa using hk)); have hrow : ∀ k, (Value.slice p3 j c3).ownBlock = some k → w.heap.size ≤ k := (fun k hk => own_block HO'.out k hk); have r0 := (hgr.cell.1 b (off + j * 2) hb2 (fun hm => by have := hrow b (by simpa using hm); omega)).trans d0; have r1 := (hgr.cell.1 b (off + j * 2 + 1) hb2 (fun hm => by have := hrow b (by simpa using hm); omega)).trans d1))
      have HO5 := hide hown5
      have HX5 := hide (((HX.out.drew.trans hx1).drop (by simp)).trans hgr)
      have HS1 := hide hs1
      have HS2 := hide hs2
      have HROW := hide hrow
      clear hown5 hgrow hat hgr hx1 hs1 hs2 hrow r0 r1 e0 e1 d0 d1 c0 c1
      go_wp2_with fail
      go_roundg g
      case measure => omega
      case rel =>
        refine ⟨j + 1, ls ++ [(s1, s2)], by omega, by simp, by simp [HLJ.out], ?_, ?_, HX5.out.drop (fun x hx hlt => by have := HROW.out x (by simpa using hx); omega)⟩
        · rw [List.any_append, HLW.out]
          have h9 := HS2.out
          simp [wrongB, HS1.out]
          omega
        · have h9 := HO5.out
          rw [HXS.out, cells_snoc ls (s1, s2)] at h9
          rw [List.length_append, HLJ.out]
          exact h9
end Go.Proofs.YtcbiidoebpkifaaGreatDoor.G
