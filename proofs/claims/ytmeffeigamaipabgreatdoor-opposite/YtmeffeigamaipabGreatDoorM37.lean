/- T9 T12 T4, one behind the other. -/
import Derived.Test.YtmeffeigamaipabGreatDoorM36
set_option linter.unusedVariables false
set_option linter.unusedSimpArgs false
/- Load: rules that are right, one behind the other. -/
namespace Go.Proofs.YtmeffeigamaipabGreatDoor.G
open Go.RowKit

/-- A rule as it lies in a list. -/
structure AR where
  act : Int
  p : Option Addr
  n : Nat
  c : Nat
  se : ByteArray
  re : ByteArray
  ta : ByteArray
  rp : ByteArray
  mo : Int
def AR.cells (r : AR) : List Value := [.int .i64 r.act, .slice r.p r.n r.c, .string r.se, .string r.re, .string r.ta, .string r.rp, .int .u64 r.mo]
def AR.val (r : AR) : Value := ruleV r.act (.slice r.p r.n r.c) r.se r.re r.ta r.rp r.mo
/-- A list of rules lies there. -/
def AL (w : World) (v : Value) (rs : List AR) : Prop :=
  (v = .slice none 0 0 ∧ rs = []) ∨ ∃ b c, v = .slice (some ⟨b, 0, none⟩) rs.length c ∧ b < w.heap.size ∧ ∀ i r, rs[i]? = some r → ∀ o, o < 7 → w.cell? ⟨b, i * 7 + o, none⟩ = r.cells[o]?
theorem AL.slice {w : World} {v : Value} {rs : List AR} (h : AL w v rs) : ∃ p c, v = .slice p rs.length c := by
  rcases h with ⟨rfl, rfl⟩ | ⟨b, c, rfl, _⟩
  · exact ⟨none, 0, rfl⟩
  · exact ⟨_, _, rfl⟩
theorem AL.ex0 {w w' : World} {v : Value} {rs : List AR} (h : AL w v rs) (hx : Ex [] w w') : AL w' v rs := by
  rcases h with h | ⟨b, c, rfl, hb, hc⟩
  · exact .inl h
  · exact .inr ⟨b, c, rfl, Nat.lt_of_lt_of_le hb hx.size, fun i r hi o ho => (hx.cell0.1 b _ hb).trans (hc i r hi o ho)⟩

/-- What Make makes of a rule, at whatever world behind w. -/
def Makes (w : World) (r : AR) (F : List Lab → List Lab × Bool) : Prop := ∀ W, Ex [] w W → Calls Tryz.prog 34 #[r.val] W fun x w' => (∃ f a b, x = .returned (.tuple #[.agg #[.func f a b], .int .i64 0, .int .i64 0]) ∧ Does W.heap.size w'.heap.size w' (.func f a b) F) ∧ Ex [] W w'

set_option maxHeartbeats 4000000 in
set_option maxRecDepth 100000 in
theorem load_list (R R' : List Value → List Lab → Bool → Prop) (e m mb base room : Nat) (rv : Value) (ts : List (List Value)) (tv : Value) (es : Array MapEntry) (clk : Nat) (v : Value) (rs : List AR) (Fs : List (List Lab → List Lab × Bool)) (w : World) (he : EN R w e m mb base room rv ts tv es clk)
    (hv : AL w v rs) (hn : rs.length ≤ 12) (hlen : Fs.length = rs.length) (hmk : ∀ (i : Nat) r F, rs[i]? = some r → Fs[i]? = some F → Makes w r F) :
    Calls Tryz.prog 15 #[.pointer (some ⟨e, 0, none⟩), v] w fun x w' => x = .returned (.tuple #[.int .i64 0, .int .i64 0, .int .i64 0]) ∧ (∃ rv', EN R' w' e m mb w'.heap.size room rv' [] (.slice none 0 0) #[] clk ∧ Rules w.heap.size w'.heap.size w' rv' Fs) ∧ Ex [e, m, mb] w w' := by
  have HE := hide he
  have HV := hide hv
  have HMK := hide hmk
  have HLEN := hide hlen
  obtain ⟨i0, hi, hz0, hz1, hz2⟩ := info_parts infoRule
  obtain ⟨p, c, rfl⟩ := hv.slice
  obtain ⟨n, hnn⟩ : ∃ n, n = rs.length := ⟨_, rfl⟩
  have HNN := hide hnn
  rw [← hnn] at hn ⊢
  have hn12 : ¬ ((n : Int) > 12) := by omega
  clear he hv hmk hlen hnn
  go_enter Tryz.func15, Tryz.ntmps15
  go_wp2_with fail
  go_loopg [7, 18] n (fun gk s7 i18 wr => ∃ (j : Nat) (fvs : List Value), j + gk = n ∧ i18 = .int .i64 j ∧ wr.ownsRow w.heap.size 81 1 s7 j fvs ∧
    (∀ i F, i < j → Fs[i]? = some F → ∃ fv l h, fvs[i]? = some fv ∧ w.heap.size ≤ l ∧ h ≤ wr.heap.size ∧ Does l h wr fv F ∧ ∀ k, s7.ownBlock = some k → k < l ∨ h ≤ k) ∧ Ex [] w wr)
  case atStart => exact ⟨0, [], by omega, rfl, World.ownsRow_nil _ _ _ _, fun i F h => by omega, Ex.refl _ _⟩
  case round =>
    obtain ⟨j, fvs, hj, rfl, hown, hall, hx⟩ := hrel
    have HOWN := hide hown
    have HALL := hide hall
    have HX := hide hx
    have hwz := hx.size
    obtain ⟨p7, c7, rfl⟩ := own_slice hown
    cases gk with
    | zero =>
      obtain rfl : j = n := by omega
      have he2 := HE.out.blk.ex hx (by simp)
      have hm2 := HE.out.mem.ex hx (by simp)
      have HE2 := hide he2
      have HM2 := hide hm2
      obtain ⟨hce, hfe⟩ := he2.all
      have hel2 := he2.lt
      clear hown hall hx hj he2 hm2
      go_wp2_with fail
      have hb3 := HE2.out.self 0 (.slice p7 j c7)
      simp only [List.setIfInBounds_toArray, List.set_cons_zero] at hb3
      have hm3 : MM R (wr.setCell ⟨e, 0, none⟩ (.slice p7 j c7)) m mb base room ts tv es clk := HM2.out.ex (o := [e]) ((Ex.refl _ _).setCell (.inl (by simp)) _) (by simp [HE.out.lt, HE.out.nem, HE.out.nemb])
      have hx3 : Ex [e] wr (wr.setCell ⟨e, 0, none⟩ (.slice p7 j c7)) := (Ex.refl _ _).setCell (.inl (by simp)) _
      refine (forget_any R m mb base room ts tv es clk _ hm3).mono ?_
      rintro x w4 ⟨rfl, hm4, hx4⟩
      have hb4 := hb3.ex hx4 (by simp [HE.out.nem, HE.out.nemb])
      have HB4 := hide hb4
      have HM4 := hide hm4
      have HX24 : Hid (Ex [e, m, mb] wr w4) := (hx3.drop (by simp)).trans (hx4.drop (fun y hy _ => by simp at hy ⊢; omega))
      clear hb3 hm3 hb4 hm4 hx3 hx4 hce hfe
      go_wp2_with fail
      go_ret3
      have hel := HE.out.lt
      have hbs := HE.out.mem.le
      have hml := HE.out.mem.mlt
      have hmbl := HE.out.mem.mblt
      have hz4 := HX24.out.size
      refine ⟨rfl, ⟨_, ⟨HB4.out, HM4.out.bare, HB4.out.lt, HE.out.nem, HE.out.nemb⟩, ?_⟩, (HX.out.drop (by simp)).trans HX24.out⟩
      have hlF : Fs.length = j := by rw [HLEN.out, ← HNN.out]
      rcases Nat.eq_zero_or_pos j with h0 | h0
      · rcases HOWN.out.2 with ⟨hv, _⟩ | ⟨g, cap, cur, hv, hb, hgg, hnc, hcm, hcs, htake⟩
        · exact .inl ⟨hv, List.length_eq_zero_iff.1 (by omega)⟩
        · refine .inr ⟨g, cap, by rw [hlF]; exact hv, hb, ?_, Nat.le_refl _, fun i F hi => ?_⟩
          · have := BK.lt hgg; omega
          · have := (List.getElem?_eq_some_iff.1 hi).1; omega
      · obtain ⟨g, c', hv', hgb, hgl, hgc, hcell, _⟩ := own_cells HOWN.out h0
        refine .inr ⟨g, c', by rw [hlF]; exact hv', hgb, by omega, Nat.le_refl _, fun i F hi => ?_⟩
        have hij : i < j := by have := (List.getElem?_eq_some_iff.1 hi).1; omega
        obtain ⟨fv, l, h, h1, h2, h3, h4, _⟩ := HALL.out i F hij hi
        refine ⟨fv, l, h, ?_, h2, by omega, h4.kb (KB.ofEx HX24.out (fun x hx => Or.inl (by simp at hx; omega)) h3)⟩
        rw [HX24.out.cell.1 g i hgl (by simp; omega), hcell i (by omega)]
        exact h1
    | succ g =>
      have hjl : j < rs.length := by rw [← HNN.out]; omega
      have hjn : (j : Int) < (n : Int) := by omega
      obtain ⟨r, hr⟩ : ∃ r, rs[j]? = some r := ⟨_, List.getElem?_eq_getElem hjl⟩
      obtain ⟨F, hF⟩ : ∃ F, Fs[j]? = some F := ⟨_, List.getElem?_eq_getElem (by rw [HLEN.out]; exact hjl)⟩
      obtain ⟨rb, hprb, hrbl, hrc⟩ : ∃ rb, p = some ⟨rb, 0, none⟩ ∧ rb < wr.heap.size ∧ ∀ o, o < 7 → wr.cell? ⟨rb, j * 7 + o, none⟩ = r.cells[o]? := by
        rcases HV.out with ⟨_, h2⟩ | ⟨b, c', h1, hb, hc⟩
        · rw [h2] at hjl; simp at hjl
        · injection h1 with e1 e2 e3
          exact ⟨b, e1, by omega, fun o ho => (hx.cell0.1 b _ hb).trans (hc j r hr o ho)⟩
      subst hprb
      obtain ⟨w0, hw0⟩ : ∃ w0, w0 = wr.alloc (Obj.cells r.cells.toArray 37) := ⟨_, rfl⟩
      have hx0 : Ex [] wr w0 := by rw [hw0]; exact (Ex.refl _ _).alloc _
      have KM := hide (HMK.out j r F hr hF w0 (hx.trans hx0))
      have HF := hide hF
      have HX0 := hide hx0
      have HW0 := hide hw0
      obtain ⟨act, rp0, rn, rc, se, re, ta, rp, mo⟩ := r
      unfold AR.val ruleV at KM
      unfold AR.cells at hrc HW0
      dsimp only at KM hrc HW0
      have c0 : wr.cell? ⟨rb, j * 7, none⟩ = some (.int .i64 act) := hrc 0 (by omega)
      have c1 : wr.cell? ⟨rb, j * 7 + 1, none⟩ = some (.slice rp0 rn rc) := hrc 1 (by omega)
      have c2 : wr.cell? ⟨rb, j * 7 + 2, none⟩ = some (.string se) := hrc 2 (by omega)
      have c3 : wr.cell? ⟨rb, j * 7 + 3, none⟩ = some (.string re) := hrc 3 (by omega)
      have c4 : wr.cell? ⟨rb, j * 7 + 4, none⟩ = some (.string ta) := hrc 4 (by omega)
      have c5 : wr.cell? ⟨rb, j * 7 + 5, none⟩ = some (.string rp) := hrc 5 (by omega)
      have c6 : wr.cell? ⟨rb, j * 7 + 6, none⟩ = some (.int .u64 mo) := hrc 6 (by omega)
      clear hown hall hx hr hF hrc hx0 hw0
      go_wp2_with fail
      rw [← HW0.out]
      refine KM.out.mono ?_
      rintro x w1 ⟨⟨f, fa, fb, rfl, hD⟩, hx1⟩
      have hst := store_func f fa fb (BK.new w1 (Obj.cells #[.nilFunc] 81))
      have hx01 : Ex [] wr w1 := HX0.out.trans hx1
      have hzA := hx01.size
      have hzB := HX0.out.size
      have HD := hide hD
      have HX01 := hide hx01
      have hown1 := own_ex HOWN.out hx01 (by simp)
      have HO1 := hide hown1
      clear hD hx1 hx01 hown1 c0 c1 c2 c3 c4 c5 c6
      go_wp2_with (at_builtin; refine wpList_append_lies _ rfl (.tmp 34) (.tmp 36) 67 rfl w.heap.size 81 i0 (.agg #[.nilFunc]) 1 8 Tryz.underlying67 hi hz0 hz1 hz2 rfl (by decide) (.slice p7 j c7) j fvs rfl ((HO1.out.alloc _).alloc _) ⟨w1.heap.size + 1, 0, none⟩ 1 1 [.func f fa fb] rfl rfl (by have h9 := cells_new (w1.alloc (Obj.cells #[.func f fa fb] 81)) #[.func f fa fb] 81; simp only [World.size_alloc] at h9; exact h9) (by simp [Value.oneCell']) (by decide) (by unfold maxLen; omega) (by omega) (by simp; omega) _ rfl ?_)
      intro gb cap w2 hown2 hgrow hcase hlt2
      have hrow : ∀ k, (Value.slice p7 j c7).ownBlock = some k → w.heap.size ≤ k ∧ k < wr.heap.size := fun k hk => HOWN.out.lt k hk
      have hx12 : Ex (Value.slice p7 j c7).ownBlock.toList w1 w2 := Ex.grown ((((Ex.refl _ _).alloc _).alloc _)) hgrow (fun k hk => Or.inl (by simpa using hk))
      have hx02 : Ex [] w w2 := (((HX.out.trans HX01.out).drop (by simp)).trans hx12).drop (fun x hx hlt => by have := hrow x (by simpa using hx); omega)
      have hzC := hx12.size
      have HO2 := hide hown2
      have HX12 := hide hx12
      have HX02 := hide hx02
      have hgb : (Value.slice (some ⟨gb, 0, none⟩) (j + 1) cap).ownBlock = (Value.slice p7 j c7).ownBlock ∨ w1.heap.size ≤ gb := by
        rcases hcase with h | h
        · left; rw [h]; rfl
        · right; rw [h]; first | omega | (simp; omega) | simp
      have HGB := hide hgb
      clear hown2 hgrow hcase hx12 hx02 hst hgb
      go_wp2_with fail
      go_roundg g
      case measure => omega
      case rel =>
        refine ⟨j + 1, fvs ++ [.func f fa fb], by omega, by simp, HO2.out, fun i F' hi hFi => ?_, HX02.out⟩
        have hfl : fvs.length = j := by have := HOWN.out.1; omega
        have hnew : ∀ k, (Value.slice (some ⟨gb, 0, none⟩) (j + 1) cap).ownBlock = some k → (Value.slice p7 j c7).ownBlock = some k ∨ w1.heap.size ≤ k := fun k hk => by
          rcases HGB.out with h | h
          · left; rw [← h]; exact hk
          · right; cases hk; exact h
        rcases Nat.lt_or_ge i j with hij | hij
        · obtain ⟨fv, l, h, h1, h2, h3, h4, h5⟩ := HALL.out i F' hij hFi
          refine ⟨fv, l, h, by rw [List.getElem?_append_left (by omega)]; exact h1, h2, by omega, ?_, fun k hk => ?_⟩
          · exact (h4.kb (KB.ofEx HX01.out (by simp) h3)).kb (KB.ofEx HX12.out (fun x hx => h5 x (by simpa using hx)) (by omega))
          · rcases hnew k hk with h6 | h6
            · exact h5 k h6
            · exact Or.inr (by omega)
        · have : i = j := by omega
          subst this
          rw [HF.out] at hFi
          cases hFi
          refine ⟨.func f fa fb, w0.heap.size, w1.heap.size, by rw [List.getElem?_append_right (by omega), hfl]; simp, by omega, by omega, ?_, fun k hk => ?_⟩
          · exact HD.out.kb (KB.ofEx HX12.out (fun x hx => Or.inl (by have := hrow x (by simpa using hx); omega)) (Nat.le_refl _))
          · rcases hnew k hk with h6 | h6
            · exact Or.inl (by have := hrow k h6; omega)
            · exact Or.inr h6
end Go.Proofs.YtmeffeigamaipabGreatDoor.G

/- Relabel, whatever the rules do: what is asked for is rewritten. -/
namespace Go.Proofs.YtmeffeigamaipabGreatDoor.G
open Go.RowKit

/-- The labels of a list: of those of one name the last, none empty, sorted. -/
def accL (ls : List Lab) (j : Nat) : List Lab := (ls.take j).foldl (fun a l => Go.Proofs.YtmeffeigamaipabGreatDoor.setL a l.1 l.2) []
def bareL (ls : List Lab) : List Lab := ls.foldl (fun a l => Go.Proofs.YtmeffeigamaipabGreatDoor.setL a l.1 l.2) []
theorem accL_all (ls : List Lab) : accL ls ls.length = bareL ls := by unfold accL bareL; rw [List.take_length]
theorem accL_succ (ls : List Lab) (j : Nat) (l : Lab) (h : ls[j]? = some l) : accL ls (j + 1) = Go.Proofs.YtmeffeigamaipabGreatDoor.setL (accL ls j) l.1 l.2 := by
  unfold accL
  rw [List.take_add_one, h]
  simp
theorem set_len1 (ls : List Lab) (t v : ByteArray) : (Go.Proofs.YtmeffeigamaipabGreatDoor.setL ls t v).length ≤ ls.length + 1 := by
  have h1 := off_len ls t
  have h2 := off_pos (ls := ls) t
  unfold Go.Proofs.YtmeffeigamaipabGreatDoor.setL
  split
  · omega
  · simp; omega
theorem accL_ok (ls : List Lab) (hn : ls.length ≤ 20) (hw : ls.any wrongB = false) : ∀ j, j ≤ ls.length → LOK (accL ls j) ∧ (accL ls j).length ≤ j
  | 0, _ => ⟨LOK.nil, Nat.le_refl _⟩
  | j + 1, hj => by
    obtain ⟨l, hl⟩ : ∃ l, ls[j]? = some l := ⟨_, List.getElem?_eq_getElem (by omega)⟩
    have ih := accL_ok ls hn hw j (by omega)
    rw [accL_succ ls j l hl]
    have h1 : wrongB l = false := by
      rw [Bool.eq_false_iff]
      intro h
      rw [List.any_eq_false] at hw
      exact hw l (List.mem_of_getElem? hl) h
    unfold wrongB at h1
    simp only [Bool.or_eq_false_iff, Bool.not_eq_eq_eq_not, Bool.not_false] at h1
    exact ⟨ih.1.set l.1 l.2 h1.1, by have := set_len1 (accL ls j) l.1 l.2; omega⟩
theorem name_size {s : ByteArray} (h : nameB s = true) : s.size ≤ 60 := by
  unfold nameB at h
  simp at h
  omega
theorem steps_set (ls : List Lab) (hn : ls.length ≤ 20) (hw : ls.any wrongB = false) : Steps ls (accL ls) := by
  refine ⟨rfl, fun j l hl W q base hq => ?_⟩
  have hj : j < ls.length := (List.getElem?_eq_some_iff.1 hl).1
  have hok := accL_ok ls hn hw j (by omega)
  obtain ⟨v, hb, ho⟩ := hq.ex
  have hlt := hq.lt
  have hr : ∀ x, v.ownBlock = some x → base ≤ x := fun x hx => own_block ho x hx
  have hvl : l.2.size ≤ 281474976710656 := by
    have h1 : wrongB l = false := by
      rw [Bool.eq_false_iff]
      intro h
      rw [List.any_eq_false] at hw
      exact hw l (List.mem_of_getElem? hl) h
    unfold wrongB at h1
    simp at h1
    omega
  refine (set_any q base (accL ls j) l.1 l.2 v W hq.le hb ho (fun h => by have := hr q h; omega) hok.1.len (hok.1.srt.for _) hvl).mono ?_
  rintro e w' ⟨rfl, hl', hx⟩
  refine ⟨rfl, ?_, ?_⟩
  · rw [accL_succ ls j l hl]
    obtain ⟨v', h1, h2, _⟩ := hl'.ex
    exact ⟨hlt, hl'.le, v', h1, h2⟩
  · exact (EB.ofEx hx hq.le).mono (Nat.le_refl _) (fun x hx hlt => by
      simp only [List.mem_cons, Option.mem_toList] at hx
      rcases hx with h | h
      · simp [h]
      · have := hr x h; omega)
theorem bareL_ok (ls : List Lab) (hn : ls.length ≤ 20) (hw : ls.any wrongB = false) : LOK (bareL ls) ∧ (bareL ls).length ≤ 20 := by
  have h := accL_ok ls hn hw ls.length (Nat.le_refl _)
  rw [accL_all] at h
  exact ⟨h.1, by omega⟩
theorem read_set (v : Value) (ls : List Lab) (w : World) (hv : SL w v ls) (hn : ls.length ≤ 20) (hw : ls.any wrongB = false) :
    Calls Tryz.prog 31 #[v] w fun e w' => e = .returned (.tuple #[serV (bareL ls), .int .i64 0]) ∧ Ex [] w w' := by
  have h := read_any v ls (accL ls) w hv hn hw (steps_set ls hn hw) (by rw [accL_all]; exact (bareL_ok ls hn hw).2)
  rw [accL_all] at h
  exact h

theorem cells_inj : ∀ (a b : List Lab), a.length = b.length → cellsOfL a = cellsOfL b → a = b
  | [], [], _, _ => rfl
  | [], _ :: _, h, _ => by simp at h
  | _ :: _, [], h, _ => by simp at h
  | x :: a, y :: b, h, e => by
    have e1 : cellsOfL (x :: a) = .string x.1 :: .string x.2 :: cellsOfL a := rfl
    have e2 : cellsOfL (y :: b) = .string y.1 :: .string y.2 :: cellsOfL b := rfl
    rw [e1, e2] at e
    simp only [List.cons.injEq, Value.string.injEq] at e
    rw [cells_inj a b (by simpa using h) e.2.2, Prod.ext e.1 e.2.1]
theorem cells_len (a : List Lab) : (cellsOfL a).length = a.length * 2 := flat_len a
theorem ser_inj {a b : List Lab} (ha : a.length ≤ 20) (hb : b.length ≤ 20) (h : serC a = serC b) : a = b := by
  have h1 := ser_count ha
  have h2 := ser_count hb
  rw [h, h2] at h1
  have h3 : a.length = b.length := by
    injection h1 with h4
    injection h4 with _ h5
    omega
  refine cells_inj a b h3 ?_
  have h4 : (serC a).take (a.length * 2) = cellsOfL a := by
    unfold serC
    rw [List.append_assoc, List.take_append_of_le_length (by rw [cells_len]; exact Nat.le_refl _), List.take_of_length_le (by rw [cells_len]; exact Nat.le_refl _)]
  have h5 : (serC b).take (b.length * 2) = cellsOfL b := by
    unfold serC
    rw [List.append_assoc, List.take_append_of_le_length (by rw [cells_len]; exact Nat.le_refl _), List.take_of_length_le (by rw [cells_len]; exact Nat.le_refl _)]
  rw [← h4, ← h5, h, h3]

/-- What is remembered: what the rules do. -/
def RF (Fs : List (List Lab → List Lab × Bool)) : List Value → List Lab → Bool → Prop := fun S ls b => ∃ l0 : List Lab, S = serC l0 ∧ l0.length ≤ 20 ∧ ls = (runF Fs l0).1 ∧ b = (runF Fs l0).2
/-- An engine with rules. -/
structure EG (w : World) (e m mb base room lo : Nat) (Fs : List (List Lab → List Lab × Bool)) (ts : List (List Value)) : Prop where
  ex : ∃ rv tv es clk, EN (RF Fs) w e m mb base room rv ts tv es clk ∧ Rules lo base w rv Fs
  le : base ≤ w.heap.size
  elo : e < lo
  mlo : m < lo
  mblo : mb < lo
  fl : Fs.length ≤ 1000
theorem works_any {Fs : List (List Lab → List Lab × Bool)} {w : World} {e lo hi : Nat} {rv mp : Value} {ls : List Lab} (he : BK w e (.cells #[rv, mp] 69 (0, 0))) (hr : Rules lo hi w rv Fs) (hh : hi ≤ w.heap.size) (hg : GL w) (hfn : Fs.length ≤ 1000) (hn : ls.length ≤ 20) (hok : LOK ls) :
    Works (RF Fs) w (serC ls) (.pointer (some ⟨e, 0, none⟩)) := fun W hW => by
  refine (rewrite_any e rv mp lo hi Fs ls W (he.ex hW (by simp)) (hr.kb (KB.ofEx hW (by simp) hh)) (Nat.le_trans hh hW.size) (hg.ex hW) hfn hn hok).mono ?_
  rintro x w' ⟨v, rfl, hl, ho, hx⟩
  exact ⟨v, _, _, rfl, ⟨ls, rfl, hn, rfl, rfl⟩, hl, ho, hx⟩
theorem relabel_eg (e m mb base room lo : Nat) (Fs : List (List Lab → List Lab × Bool)) (ts : List (List Value)) (v : Value) (ls : List Lab) (w : World) (he : EG w e m mb base room lo Fs ts) (hg : GL w) (hv : SL w v ls) (hn : ls.length ≤ 20) (hw : ls.any wrongB = false) :
    Calls Tryz.prog 12 #[.pointer (some ⟨e, 0, none⟩), v] w fun x w' => ∃ v', x = .returned (.tuple #[v', .bool (runF Fs (bareL ls)).2, .int .i64 0]) ∧ (runF Fs (bareL ls)).1.length ≤ 60 ∧
      w'.ownsRow w.heap.size 48 2 v' (runF Fs (bareL ls)).1.length (cellsOfL (runF Fs (bareL ls)).1) ∧ (∃ ts', After room ts (serC (bareL ls)) ts' ∧ EG w' e m mb base room lo Fs ts') ∧ EB base [m, mb] w w' := by
  obtain ⟨rv, tv, es, clk, hen, hru⟩ := he.ex
  obtain ⟨hok, hl20⟩ := bareL_ok ls hn hw
  have hS : SerOk (serC (bareL ls)) := serOk hl20 (fun l hl => by
    have h1 := name_size (hok.nam l hl)
    have h2 := (hok.val l hl).1
    unfold maxLen
    omega)
  refine (relabel_any (RF Fs) e m mb base room rv ts tv es clk (serC (bareL ls)) v w hen hS (read_set v ls w hv hn hw) (works_any hen.blk hru he.le hg he.fl hl20 hok)).mono ?_
  rintro x w' ⟨v', ls', b, rfl, ⟨l0, hl0, hl0n, rfl, rfl⟩, h60, ho, ⟨ts', tv', es', clk', haf, hen'⟩, hx⟩
  have e0 := ser_inj hl20 hl0n hl0
  subst e0
  refine ⟨v', rfl, h60, ho, ⟨ts', haf, ⟨rv, tv', es', clk', hen', ?_⟩, Nat.le_trans he.le hx.size, he.elo, he.mlo, he.mblo, he.fl⟩, hx⟩
  exact hru.kb ⟨hx.size, fun b h1 h2 => hx.block b h2 (by have := he.mlo; have := he.mblo; simp; omega)⟩
end Go.Proofs.YtmeffeigamaipabGreatDoor.G

/- Keep, Drop, KeepEqual, DropEqual: what such a rule does. -/
namespace Go.Proofs.YtmeffeigamaipabGreatDoor.G
open Go.RowKit

def eqB (a b : ByteArray) : Bool := a.toList == b.toList

set_option maxHeartbeats 4000000 in
set_option maxRecDepth 100000 in
theorem equals_any (p : Option Addr) (c : Nat) (ss : List ByteArray) (se : ByteArray) (pp : Option Addr) (ta rp : ByteArray) (mo : Int) (q base : Nat) (ls : List Lab) (w : World) (hs : SS w (.slice p ss.length c) ss) (hq : LT w q base ls) (hok : LOK ls) (hsn : ss.length ≤ 1000) (hse : se.size ≤ 1000) :
    Calls Tryz.prog 72 #[meansV (.slice p ss.length c) se (.pointer pp) ta rp mo, .pointer (some ⟨q, 0, none⟩)] w fun x w' => x = .returned (.bool (eqB (textN ls ss se) (valN ls ta))) ∧ Ex [] w w' := by
  have KT := hide (fun (w' : World) (hx : Ex [] w w') => text_any p c ss se pp ta rp mo q base ls w' (hs.ex0 hx) (hq.exN hx rfl) (by have := hok.len; omega) hsn (fun t => hok.srt.for t) (fun t => by have := val_size hok t; omega) (by omega))
  have KV := hide (fun (w' : World) (hx : Ex [] w w') => value_any q base ls ta w' (hq.exN hx rfl) (by have := hok.len; omega) (hok.srt.for ta))
  obtain ⟨tx, htx⟩ : ∃ tx, tx = textN ls ss se := ⟨_, rfl⟩
  rw [← htx] at KT ⊢
  obtain ⟨vv, hvv⟩ : ∃ vv, vv = valN ls ta := ⟨_, rfl⟩
  rw [← hvv] at KV ⊢
  obtain ⟨n, hn⟩ : ∃ n, n = ss.length := ⟨_, rfl⟩
  rw [← hn] at KT ⊢
  unfold meansV at *
  clear hs hq hok htx hvv hn
  go_enter Tryz.func72, Tryz.ntmps72
  go_wp2_with fail
  generalize hw0 : World.alloc w _ = w0
  have hx0 : Ex [] w w0 := by rw [← hw0]; exact (Ex.refl _ _).alloc _
  have hb0 : BK w0 w.heap.size (.cells #[.slice p n c, .string se, .pointer pp, .string ta, .string rp, .int .u64 mo] 116 (0, 0)) := by rw [← hw0]; exact BK.new _ _
  have t1 := hb0.all.1
  have HX0 := hide hx0
  have HB0 := hide hb0
  have hl0 := hb0.lt
  clear hw0 hx0 hb0
  go_region_held3 (fun w' => ∀ o, w'.cell? ⟨w.heap.size, o, none⟩ = #[Value.slice p n c, .string se, .pointer pp, .string ta, .string rp, .int .u64 mo][o]?)
    (first | exact hb3.all.1 | exact hb2.all.1 | exact t1)
    (first
      | (go_at_call 100; refine (show Calls _ _ _ _ _ from KT.out _ (HX0.out.drew)).mono ?_; rintro e w2 ⟨rfl, hx2⟩; have hb2 := HB0.out.drew.ex hx2 (by simp))
      | (go_at_call 105; refine (show Calls _ _ _ _ _ from KV.out _ ((HX0.out.drew).trans hx2)).mono ?_; rintro e w3 ⟨rfl, hx3⟩; have hb3 := hb2.ex hx3 (by simp)))
  have HX3 := hide ((HX0.out.drew.trans hx2).trans hx3)
  clear hb3 hb2 hx2 hx3 t1
  go_wp2_with fail
  go_ret
  exact ⟨rfl, HX3.out⟩

set_option maxHeartbeats 2000000 in
set_option maxRecDepth 100000 in
theorem does_match (lo : Nat) (p : Option Addr) (c : Nat) (ss : List ByteArray) (se : ByteArray) (pq : Nat) (ta rp : ByteArray) (mo : Int) (code : List Ins) (ng : Nat) (nm : List (ByteArray × Nat)) (hf : Fit code ng) (w : World)
    (hs : SS w (.slice p ss.length c) ss) (hsb : ∀ k, (Value.slice p ss.length c).ownBlock = some k → lo ≤ k) (hp : PG w pq lo code ng nm) (hsn : ss.length ≤ 1000) (hse : se.size ≤ 1000) :
    Does lo w.heap.size w (.func (.func 70) #[meansV (.slice p ss.length c) se (.pointer (some ⟨pq, 0, none⟩)) ta rp mo] #[]) (fun ls => (ls, (matchM code (textN ls ss se)).isSome)) := by
  refine ⟨Nat.le_refl _, ⟨_, _, _, rfl⟩, fun w1 hk hg q base ls v0 hb hle hqb hq ho hnq hok => ?_⟩
  have hlt : LT w1 q base ls := ⟨hle, v0, hq, ho, hnq⟩
  have KM := hide (fun (w' : World) (hx : Ex [] w1 w') => matches_any p c ss se pq lo ta rp mo code ng nm hf q base ls w' ((SS.kb hs hk hsb).ex0 hx) ((hp.kb hk).ex' hx) (hg.ex hx) (hlt.exN hx rfl) hok hsn hse)
  obtain ⟨r, hr⟩ : ∃ r, r = (matchM code (textN ls ss se)).isSome := ⟨_, rfl⟩
  dsimp only
  rw [← hr] at KM ⊢
  obtain ⟨n, hn⟩ : ∃ n, n = ss.length := ⟨_, rfl⟩
  rw [← hn] at KM ⊢
  have HLT := hide hlt
  have HOK := hide hok
  unfold meansV at *
  clear hs hsb hlt hk hg hq ho hnq hok hr hn hp
  go_enter Tryz.func46, Tryz.ntmps46
  go_wp2_with fail
  refine (KM.out _ ((Ex.refl _ _).alloc _)).mono ?_
  rintro x w2 ⟨rfl, hx2⟩
  have HX2 := hide (((Ex.refl [] w1).alloc _).trans hx2)
  clear hx2
  go_wp2_with fail
  go_ret
  exact ⟨rfl, HLT.out.exN HX2.out rfl, HOK.out, HX2.out.drop (by simp)⟩

set_option maxHeartbeats 2000000 in
set_option maxRecDepth 100000 in
theorem does_notmatch (lo : Nat) (p : Option Addr) (c : Nat) (ss : List ByteArray) (se : ByteArray) (pq : Nat) (ta rp : ByteArray) (mo : Int) (code : List Ins) (ng : Nat) (nm : List (ByteArray × Nat)) (hf : Fit code ng) (w : World) (b : Nat)
    (hb0 : BK w b (.cells #[.func (.func 70) #[meansV (.slice p ss.length c) se (.pointer (some ⟨pq, 0, none⟩)) ta rp mo] #[]] 79 (0, 0))) (hlb : lo ≤ b)
    (hs : SS w (.slice p ss.length c) ss) (hsb : ∀ k, (Value.slice p ss.length c).ownBlock = some k → lo ≤ k) (hp : PG w pq lo code ng nm) (hsn : ss.length ≤ 1000) (hse : se.size ≤ 1000) :
    Does lo w.heap.size w (.func (.func 104) #[] #[.pointer (some ⟨b, 0, none⟩)]) (fun ls => (ls, !(matchM code (textN ls ss se)).isSome)) := by
  refine ⟨Nat.le_refl _, ⟨_, _, _, rfl⟩, fun w1 hk hg q base ls v0 hb hle hqb hq ho hnq hok => ?_⟩
  have hlt : LT w1 q base ls := ⟨hle, v0, hq, ho, hnq⟩
  have hb1 := BK.kb hb0 hk hlb hb0.lt
  have KM := hide (fun (w' : World) (hx : Ex [] w1 w') => matches_any p c ss se pq lo ta rp mo code ng nm hf q base ls w' ((SS.kb hs hk hsb).ex0 hx) ((hp.kb hk).ex' hx) (hg.ex hx) (hlt.exN hx rfl) hok hsn hse)
  obtain ⟨r, hr⟩ : ∃ r, r = (matchM code (textN ls ss se)).isSome := ⟨_, rfl⟩
  dsimp only
  rw [← hr] at KM ⊢
  obtain ⟨n, hn⟩ : ∃ n, n = ss.length := ⟨_, rfl⟩
  rw [← hn] at KM hb1
  have HLT := hide hlt
  have HOK := hide hok
  unfold meansV at *
  obtain ⟨hcb, hfb⟩ := hb1.all
  have hbl := hb1.lt
  clear hs hsb hlt hk hg hq ho hnq hok hr hn hb0 hb1 hp
  go_enter Tryz.func46, Tryz.ntmps46
  go_wp2_with (go_at_call 104; go_in)
  refine (KM.out _ ((Ex.refl _ _).alloc _)).mono ?_
  rintro x w2 ⟨rfl, hx2⟩
  have HX2 := hide (((Ex.refl [] w1).alloc _).trans hx2)
  clear hx2
  go_wp2_with fail
  go_ret
  exact ⟨by simp, HLT.out.exN HX2.out rfl, HOK.out, HX2.out.drop (by simp)⟩

set_option maxHeartbeats 2000000 in
set_option maxRecDepth 100000 in
theorem does_equal (lo : Nat) (p : Option Addr) (c : Nat) (ss : List ByteArray) (se : ByteArray) (pp : Option Addr) (ta rp : ByteArray) (mo : Int) (w : World)
    (hs : SS w (.slice p ss.length c) ss) (hsb : ∀ k, (Value.slice p ss.length c).ownBlock = some k → lo ≤ k)  (hsn : ss.length ≤ 1000) (hse : se.size ≤ 1000) :
    Does lo w.heap.size w (.func (.func 72) #[meansV (.slice p ss.length c) se (.pointer pp) ta rp mo] #[]) (fun ls => (ls, (eqB (textN ls ss se) (valN ls ta)))) := by
  refine ⟨Nat.le_refl _, ⟨_, _, _, rfl⟩, fun w1 hk hg q base ls v0 hb hle hqb hq ho hnq hok => ?_⟩
  have hlt : LT w1 q base ls := ⟨hle, v0, hq, ho, hnq⟩
  have KM := hide (fun (w' : World) (hx : Ex [] w1 w') => equals_any p c ss se pp ta rp mo q base ls w' ((SS.kb hs hk hsb).ex0 hx) (hlt.exN hx rfl) hok hsn hse)
  obtain ⟨r, hr⟩ : ∃ r, r = (eqB (textN ls ss se) (valN ls ta)) := ⟨_, rfl⟩
  dsimp only
  rw [← hr] at KM ⊢
  obtain ⟨n, hn⟩ : ∃ n, n = ss.length := ⟨_, rfl⟩
  rw [← hn] at KM ⊢
  have HLT := hide hlt
  have HOK := hide hok
  unfold meansV at *
  clear hs hsb hlt hk hg hq ho hnq hok hr hn 
  go_enter Tryz.func46, Tryz.ntmps46
  go_wp2_with fail
  refine (KM.out _ ((Ex.refl _ _).alloc _)).mono ?_
  rintro x w2 ⟨rfl, hx2⟩
  have HX2 := hide (((Ex.refl [] w1).alloc _).trans hx2)
  clear hx2
  go_wp2_with fail
  go_ret
  exact ⟨rfl, HLT.out.exN HX2.out rfl, HOK.out, HX2.out.drop (by simp)⟩

set_option maxHeartbeats 2000000 in
set_option maxRecDepth 100000 in
theorem does_notequal (lo : Nat) (p : Option Addr) (c : Nat) (ss : List ByteArray) (se : ByteArray) (pp : Option Addr) (ta rp : ByteArray) (mo : Int) (w : World) (b : Nat)
    (hb0 : BK w b (.cells #[.func (.func 72) #[meansV (.slice p ss.length c) se (.pointer pp) ta rp mo] #[]] 79 (0, 0))) (hlb : lo ≤ b)
    (hs : SS w (.slice p ss.length c) ss) (hsb : ∀ k, (Value.slice p ss.length c).ownBlock = some k → lo ≤ k)  (hsn : ss.length ≤ 1000) (hse : se.size ≤ 1000) :
    Does lo w.heap.size w (.func (.func 104) #[] #[.pointer (some ⟨b, 0, none⟩)]) (fun ls => (ls, !(eqB (textN ls ss se) (valN ls ta)))) := by
  refine ⟨Nat.le_refl _, ⟨_, _, _, rfl⟩, fun w1 hk hg q base ls v0 hb hle hqb hq ho hnq hok => ?_⟩
  have hlt : LT w1 q base ls := ⟨hle, v0, hq, ho, hnq⟩
  have hb1 := BK.kb hb0 hk hlb hb0.lt
  have KM := hide (fun (w' : World) (hx : Ex [] w1 w') => equals_any p c ss se pp ta rp mo q base ls w' ((SS.kb hs hk hsb).ex0 hx) (hlt.exN hx rfl) hok hsn hse)
  obtain ⟨r, hr⟩ : ∃ r, r = (eqB (textN ls ss se) (valN ls ta)) := ⟨_, rfl⟩
  dsimp only
  rw [← hr] at KM ⊢
  obtain ⟨n, hn⟩ : ∃ n, n = ss.length := ⟨_, rfl⟩
  rw [← hn] at KM hb1
  have HLT := hide hlt
  have HOK := hide hok
  unfold meansV at *
  obtain ⟨hcb, hfb⟩ := hb1.all
  have hbl := hb1.lt
  clear hs hsb hlt hk hg hq ho hnq hok hr hn hb0 hb1 
  go_enter Tryz.func46, Tryz.ntmps46
  go_wp2_with (go_at_call 104; go_in)
  refine (KM.out _ ((Ex.refl _ _).alloc _)).mono ?_
  rintro x w2 ⟨rfl, hx2⟩
  have HX2 := hide (((Ex.refl [] w1).alloc _).trans hx2)
  clear hx2
  go_wp2_with fail
  go_ret
  exact ⟨by simp, HLT.out.exN HX2.out rfl, HOK.out, HX2.out.drop (by simp)⟩
end Go.Proofs.YtmeffeigamaipabGreatDoor.G
