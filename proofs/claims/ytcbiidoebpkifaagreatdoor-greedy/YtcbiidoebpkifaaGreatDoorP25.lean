/- T13 T18 X4 X5 X1 X2, one behind the other. -/
import Derived.Test.YtcbiidoebpkifaaGreatDoorP24
import Derived.Test.YtcbiidoebpkifaaGreatDoorP03
import Derived.Deep.RegionHeld3
import Derived.Test.YtcbiidoebpkifaaGreatDoorP08
import Derived.Test.YtcbiidoebpkifaaGreatDoorP01
import Derived.Test.YtcbiidoebpkifaaGreatDoorShelf
set_option linter.unusedVariables false
set_option linter.unusedSimpArgs false
/- The statements' own small functions: pick, name, short, labels, get. -/
namespace Go.Proofs.YtcbiidoebpkifaaGreatDoor.G
open Go.RowKit

def pickI (c n : Int) : Int := if c < 0 then (-(c + 1)) % n else c % n
theorem pickI_rng (c n : Int) (hn : 0 < n) : 0 ≤ pickI c n ∧ pickI c n < n := by
  unfold pickI
  split
  · exact ⟨Int.emod_nonneg _ (by omega), Int.emod_lt_of_pos _ hn⟩
  · exact ⟨Int.emod_nonneg _ (by omega), Int.emod_lt_of_pos _ hn⟩
set_option maxHeartbeats 1000000 in
theorem pick_val (c n : Int) (w : World) (hn : 0 < n) (hn2 : n < 4611686018427387904) (hc : -9223372036854775808 ≤ c ∧ c ≤ 9223372036854775807) :
    Calls Tryz.prog 5 #[.int .i64 c, .int .i64 n] w fun x w' => x = .returned (.int .i64 (pickI c n)) ∧ w' = w := by
  unfold pickI
  by_cases h0 : c < 0
  · rw [if_pos h0]
    go_enter Tryz.func5, Tryz.ntmps5
    go_wp2_with fail
    go_ret
    have hv : -(c + 1).tmod n = (-(c + 1)) % n := by rw [← Int.neg_tmod, Int.tmod_eq_emod_of_nonneg (by omega)]
    refine ⟨?_, rfl⟩
    rw [← hv]; rfl
  · rw [if_neg h0]
    go_enter Tryz.func5, Tryz.ntmps5
    go_wp2_with fail
    go_ret
    exact ⟨rfl, rfl⟩

set_option maxHeartbeats 1000000 in
theorem short_any (s : ByteArray) (n : Nat) (w : World) (hs : s.size ≤ 9223372036854775807) (hn : n ≤ 1000) :
    Calls Tryz.prog 6 #[.string s, .int .i64 n] w fun x w' => ∃ s', x = .returned (.string s') ∧ s'.size ≤ n ∧ w' = w := by
  by_cases h : (n : Int) < (s.size : Int)
  · have h1 : (n : Int) ≤ (s.size : Int) := by omega
    go_enter Tryz.func6, Tryz.ntmps6
    go_wp2_with fail
    go_ret
    refine ⟨s.extract 0 n, by simp, ?_, rfl⟩
    rw [ByteArray.size_extract]; omega
  · go_enter Tryz.func6, Tryz.ntmps6
    go_wp2_with fail
    go_ret
    exact ⟨s, rfl, by omega, rfl⟩
end Go.Proofs.YtcbiidoebpkifaaGreatDoor.G

/- retag.Match, is and get, at a pattern that is good. -/
namespace Go.Proofs.YtcbiidoebpkifaaGreatDoor.G
open Go.RowKit

theorem spanL_len (l : List (Int × Int)) : (spanL l).length = l.length * 2 := by
  induction l with
  | nil => rfl
  | cons x l ih =>
    have h : spanL (x :: l) = [.int .i64 x.1, .int .i64 x.2] ++ spanL l := rfl
    rw [h, List.length_append, ih]
    simp; omega
theorem spanL_plain (l : List (Int × Int)) : ∀ u ∈ spanL l, u.oneCell' = true := fun u hu => by
  simp only [spanL, List.mem_flatMap] at hu
  obtain ⟨y, _, hy⟩ := hu
  simp at hy
  rcases hy with rfl | rfl <;> rfl
set_option maxHeartbeats 2000000 in
set_option maxRecDepth 100000 in
theorem Spans_any (s : ByteArray) (mb g c base : Nat) (l : List (Int × Int)) (w : World) (ho : w.ownsRow base 49 2 (.slice (some ⟨g, 0, none⟩) l.length c) l.length (spanL l)) (hl0 : 0 < l.length) (hl : l.length ≤ 1000) :
    Calls Tryz.prog 28 #[.agg #[.string s, .slice (some ⟨g, 0, none⟩) l.length c, .map (some mb)]] w fun e w' => ∃ v, e = .returned v ∧ w'.ownsRow w.heap.size 49 2 v l.length (spanL l) ∧ Ex [] w w' := by
  obtain ⟨t0, hi, hz0, hz1, hz2⟩ := info_parts infoSpan
  have hcell := fun j u hj => own_cell (j := j) (u := u) ho hj
  have hgl : g < w.heap.size := (ho.lt g rfl).2
  obtain ⟨xs, hxs⟩ : ∃ xs, xs = spanL l := ⟨_, rfl⟩
  have hxl : xs.length = l.length * 2 := by rw [hxs]; exact spanL_len l
  have hxp : ∀ u ∈ xs, u.oneCell' = true := by rw [hxs]; exact spanL_plain l
  rw [← hxs] at hcell ⊢
  obtain ⟨n, hn⟩ : ∃ n, n = l.length := ⟨_, rfl⟩
  rw [← hn] at hxl hl hl0 ⊢
  have HN : Hid (∀ j u, xs[j]? = some u → (w.alloc (Obj.cells #[.string s, .slice (some ⟨g, 0, none⟩) n c, .map (some mb)] 55)).cell? ((⟨g, 0, none⟩ : Addr).add j) = some u) := fun j u hj => by
    have h1 := (((Ex.refl [] w).alloc (Obj.cells #[.string s, .slice (some ⟨g, 0, none⟩) n c, .map (some mb)] 55)).cell0.1 g j hgl).trans (hcell j u hj)
    rw [Addr.add_lit, Nat.zero_add]; exact h1
  have HXP := hide hxp
  have HXL := hide hxl
  clear ho hcell hxs hn hxp hxl
  go_enter Tryz.func28, Tryz.ntmps28
  go_wp2_with (at_builtin; refine wpList_append_lies _ rfl _ (.tmp 4) 45 rfl w.heap.size 49 t0 _ 2 16 Tryz.underlying45 hi hz0 hz1 hz2 rfl (by decide) (.slice none 0 0) 0 [] rfl (World.ownsRow_nil _ _ _ _) ⟨g, 0, none⟩ n c xs rfl HXL.out HN.out HXP.out hl0 (by unfold maxLen; omega) (by omega) (by simp) _ rfl ?_)
  intro g1 cap w1 hown hgrow _ _
  have HO := hide hown
  have HG : Hid (Ex [] w w1) := Ex.grown ((Ex.refl _ _).alloc _) hgrow (by simp [Value.ownBlock])
  clear hown hgrow
  go_wp2_with fail
  go_ret
  refine ⟨_, rfl, ?_, HG.out⟩
  have h1 := HO.out
  simpa using h1
set_option maxHeartbeats 2000000 in
theorem Spans_none (w : World) :
    Calls Tryz.prog 28 #[.agg #[.string ⟨#[]⟩, .slice none 0 0, .map none]] w fun e w' => e = .returned (.slice none 0 0) ∧ Ex [] w w' := by
  go_enter Tryz.func28, Tryz.ntmps28
  go_wp2_with fail
  go_ret
  exact ⟨rfl, (Ex.refl _ _).alloc _⟩

def RMPost (w : World) (s : ByteArray) (ng : Nat) (m : Option (List Int)) (e : Ending) (w' : World) : Prop := match m with
  | some sl => ∃ v, e = .returned (.tuple #[v, .bool true, .int .i64 0, .int .i64 0]) ∧ w'.ownsRow w.heap.size 49 2 v (ng + 1) (spanL (spansM s.size sl ng))
  | none => e = .returned (.tuple #[.slice none 0 0, .bool false, .int .i64 0, .int .i64 0])
set_option maxHeartbeats 2000000 in
set_option maxRecDepth 100000 in
theorem RMatch_any (t s : ByteArray) (x : EV) (w : World) (hev : w.cell? ⟨0, 0, none⟩ = some (.iface x.1 x.2)) (hp : goodP t = true) (hg : GL w) (hs : s.size ≤ 9223372036854775807) :
    Calls Tryz.prog 16 #[.string t, .string s] w fun e w' => RMPost w s (patN t) (matchM (patC t) s) e w' ∧ Ex [] w w' := by
  have KR := hide (readsP hev hp w (Ex.refl _ _))
  have HG := hide hg
  have hf := fit_of hp
  have HF := hide hf
  obtain ⟨m, hm⟩ : ∃ m, m = matchM (patC t) s := ⟨_, rfl⟩
  rw [← hm]
  have HM := hide hm
  obtain ⟨ng, hng⟩ : ∃ ng, ng = patN t := ⟨_, rfl⟩
  rw [← hng] at KR HF ⊢
  have hng5 := hf.ng5
  rw [← hng] at hng5
  clear hev hp hg hf hm hng
  go_enter Tryz.func16, Tryz.ntmps16
  go_wp2_with fail
  refine KR.out.mono ?_
  rintro e w1 ⟨q, rfl, hpg, hx1⟩
  have KM := hide (Match_any q w.heap.size (patC t) ng (patM t) s w1 hpg HF.out.ok HF.out.tk HF.out.le HF.out.pos HF.out.ng5 hs (HG.out.ex hx1).1)
  rw [← HM.out] at KM
  have HX1 := hide hx1
  have hz1 := hx1.size
  clear hpg hx1
  go_wp2_with fail
  refine KM.out.mono ?_
  rintro e w2 ⟨hpost, hx2⟩
  have HX2 := hide hx2
  have hz2 := hx2.size
  clear hx2
  cases m with
  | none =>
    obtain rfl := hpost
    go_wp2_with fail
    refine (Spans_none _).mono ?_
    rintro e w3 ⟨rfl, hx3⟩
    have HX3 := hide hx3
    clear hx3
    go_wp2_with fail
    refine bodyPost_ret (v := .tuple #[.slice none 0 0, .bool false, .int .i64 0, .int .i64 0]) (by simp [results, Tryz.results16, go_sem]) rfl ⟨rfl, ?_⟩
    exact HX1.out.trans (HX2.out.trans (((Ex.refl _ _).alloc _).trans HX3.out))
  | some sl =>
    obtain ⟨v, mb, rfl, ho, _, _⟩ := hpost
    obtain ⟨g, c, rfl, hgb, hgl, hgc, _, _⟩ := own_cells ho (by omega)
    have hl := spansM_len s.size sl ng
    have KS := hide (fun o => Spans_any s mb g c w1.heap.size (spansM s.size sl ng) (w2.alloc o) (by rw [hl]; exact ho.alloc o) (by omega) (by omega))
    rw [hl] at KS
    unfold foundV
    clear ho
    go_wp2_with fail
    refine (KS.out _).mono ?_
    rintro e w3 ⟨v3, rfl, ho3, hx3⟩
    have HX3 := hide hx3
    have HO := hide ho3
    have hz3 := hx3.size
    simp only [World.size_alloc] at hz3
    clear hx3 ho3
    go_wp2_with fail
    refine bodyPost_ret (v := .tuple #[v3, .bool true, .int .i64 0, .int .i64 0]) (by simp [results, Tryz.results16, go_sem]) rfl ⟨⟨v3, rfl, own_base HO.out (by simp; omega)⟩, ?_⟩
    exact HX1.out.trans (HX2.out.trans (((Ex.refl _ _).alloc _).trans HX3.out))

set_option maxHeartbeats 2000000 in
set_option maxRecDepth 100000 in
theorem is_any (t s : ByteArray) (x : EV) (w : World) (hev : w.cell? ⟨0, 0, none⟩ = some (.iface x.1 x.2)) (hp : goodP t = true) (hg : GL w) (hs : s.size ≤ 9223372036854775807) :
    Calls Tryz.prog 7 #[.string t, .string s] w fun e w' => e = .returned (.tuple #[.bool (matchM (patC t) s).isSome, .bool true]) ∧ Ex [] w w' := by
  have KR := hide (RMatch_any t s x w hev hp hg hs)
  obtain ⟨m, hm⟩ : ∃ m, m = matchM (patC t) s := ⟨_, rfl⟩
  rw [← hm] at KR ⊢
  clear hev hp hg hm
  go_enter Tryz.func7, Tryz.ntmps7
  go_wp2_with fail
  refine KR.out.mono ?_
  rintro e w1 ⟨hpost, hx1⟩
  have HX1 := hide hx1
  clear hx1
  cases m with
  | none =>
    obtain rfl := hpost
    go_wp2_with fail
    go_ret2
    exact ⟨rfl, HX1.out⟩
  | some sl =>
    obtain ⟨v, rfl, ho⟩ := hpost
    obtain ⟨g, c, rfl, hgb, hgl, hgc, hcell, _⟩ := own_cells ho (by omega)
    have j0 : w1.cell? ⟨g, 0, none⟩ = some (.int .i64 0) := by rw [hcell 0 (by omega)]; rfl
    have j1 : w1.cell? ⟨g, 1, none⟩ = some (.int .i64 s.size) := by rw [hcell 1 (by omega)]; rfl
    obtain ⟨n, hn⟩ : ∃ n, n = patN t + 1 := ⟨_, rfl⟩
    have hn0 : ¬ ((n : Int) = 0) := by omega
    have hn1 : ((n : Int) == 0) = false := by rw [beq_eq_false_iff_ne]; exact hn0
    have hn2 : (0 : Int) < (n : Int) := by omega
    rw [← hn]
    clear ho hcell hn
    go_wp2_with fail
    go_ret2
    exact ⟨rfl, HX1.out⟩
end Go.Proofs.YtcbiidoebpkifaaGreatDoor.G

/- What a group stands for, by its number. -/
namespace Go.Proofs.YtcbiidoebpkifaaGreatDoor.G
open Go.RowKit

def numM (s : ByteArray) (l : List (Int × Int)) (k : Int) : ByteArray :=
  if k < 0 then ⟨#[]⟩ else match l[k.toNat]? with
  | some y => if y.1 < 0 then ⟨#[]⟩ else s.extract y.1.toNat y.2.toNat
  | none => ⟨#[]⟩
theorem spanL_at (l : List (Int × Int)) (j : Nat) (y : Int × Int) (h : l[j]? = some y) : (spanL l)[j * 2]? = some (.int .i64 y.1) ∧ (spanL l)[j * 2 + 1]? = some (.int .i64 y.2) := by
  induction l generalizing j with
  | nil => simp at h
  | cons x l ih =>
    have e : spanL (x :: l) = .int .i64 x.1 :: .int .i64 x.2 :: spanL l := rfl
    cases j with
    | zero => simp at h; subst h; rw [e]; simp
    | succ j =>
      have h1 := ih j (by simpa using h)
      rw [e, show (j + 1) * 2 = j * 2 + 1 + 1 by omega]
      simpa using h1

set_option maxHeartbeats 2000000 in
set_option maxRecDepth 100000 in
theorem numbered_any (s : ByteArray) (mb g c : Nat) (l : List (Int × Int)) (k : Int) (w : World) (hgl : g < w.heap.size) (hcell : ∀ j u, (spanL l)[j]? = some u → w.cell? ⟨g, j, none⟩ = some u) (hl : l.length ≤ 1000) (hs : s.size ≤ 9223372036854775807)
    (hk : -9223372036854775808 ≤ k ∧ k ≤ 9223372036854775807) (hok : ∀ y ∈ l, y.1 < 0 ∨ (0 ≤ y.1 ∧ y.1 ≤ y.2 ∧ y.2 ≤ s.size)) :
    Calls Tryz.prog 98 #[.agg #[.string s, .slice (some ⟨g, 0, none⟩) l.length c, .map (some mb)], .int .i64 k] w fun e w' => e = .returned (.string (numM s l k)) ∧ Ex [] w w' := by
  obtain ⟨R, hR⟩ : ∃ R, R = numM s l k := ⟨_, rfl⟩
  rw [← hR]
  have HR := hide hR
  obtain ⟨n, hn⟩ : ∃ n, n = l.length := ⟨_, rfl⟩
  have HN := hide hn
  have HC := hide hcell
  have HOK := hide hok
  rw [← hn] at hl ⊢
  clear hR hcell hok
  by_cases h1 : k < 0
  · obtain rfl : R = ⟨#[]⟩ := by rw [HR.out]; unfold numM; rw [if_pos h1]
    clear hn
    go_enter Tryz.func98, Tryz.ntmps98
    go_wp2_with fail
    go_ret
    exact ⟨rfl, (Ex.refl _ _).alloc _⟩
  · by_cases h2 : (n : Int) ≤ k
    · obtain rfl : R = ⟨#[]⟩ := by rw [HR.out]; unfold numM; rw [if_neg h1, List.getElem?_eq_none (by omega)]
      clear hn
      go_enter Tryz.func98, Tryz.ntmps98
      go_wp2_with fail
      go_ret
      exact ⟨rfl, (Ex.refl _ _).alloc _⟩
    · obtain ⟨j, rfl⟩ : ∃ j : Nat, k = j := ⟨k.toNat, by omega⟩
      have hj : j < l.length := by omega
      obtain ⟨⟨y1, y2⟩, hy⟩ : ∃ y, l[j]? = some y := ⟨_, List.getElem?_eq_getElem hj⟩
      obtain ⟨s1, s2⟩ := spanL_at l j _ hy
      have c1 := (((Ex.refl [] w).alloc (Obj.cells #[.string s, .slice (some ⟨g, 0, none⟩) n c, .map (some mb)] 55)).cell0.1 g _ hgl).trans (HC.out _ _ s1)
      have c2 := (((Ex.refl [] w).alloc (Obj.cells #[.string s, .slice (some ⟨g, 0, none⟩) n c, .map (some mb)] 55)).cell0.1 g _ hgl).trans (HC.out _ _ s2)
      have hjn : (j : Int) < (n : Int) := by omega
      have ho := HOK.out _ (List.mem_of_getElem? hy)
      dsimp only at ho c1 c2
      by_cases h3 : y1 < 0
      · obtain rfl : R = ⟨#[]⟩ := by rw [HR.out]; unfold numM; rw [if_neg h1, Int.toNat_natCast, hy]; exact if_pos h3
        clear hn hy s1 s2 ho
        go_enter Tryz.func98, Tryz.ntmps98
        go_wp2_with fail
        go_ret
        exact ⟨rfl, (Ex.refl _ _).alloc _⟩
      · have ho' : 0 ≤ y1 ∧ y1 ≤ y2 ∧ y2 ≤ s.size := by omega
        obtain ⟨a, rfl⟩ : ∃ a : Nat, y1 = a := ⟨y1.toNat, by omega⟩
        obtain ⟨b, rfl⟩ : ∃ b : Nat, y2 = b := ⟨y2.toNat, by omega⟩
        have hr : R = s.extract a b := by rw [HR.out]; unfold numM; rw [if_neg h1, Int.toNat_natCast, hy]; exact if_neg h3
        obtain ⟨o1, o2, o3⟩ := ho'
        have HRR := hide hr
        clear hn hy s1 s2 ho hr
        go_enter Tryz.func98, Tryz.ntmps98
        go_wp2_with fail
        go_quiet (fail)
        go_wp2_with fail
        go_ret
        exact ⟨by rw [HRR.out]; rfl, by first | exact ((Ex.refl _ _).alloc _).drewN _ | exact (Ex.refl _ _).alloc _ | exact ((Ex.refl _ _).alloc _).drew⟩
end Go.Proofs.YtcbiidoebpkifaaGreatDoor.G

/- What a group stands for, by its name. -/
namespace Go.Proofs.YtcbiidoebpkifaaGreatDoor.G
open Go.RowKit

def nameN (l : List (ByteArray × Nat)) (n : ByteArray) : Nat := match l.find? (fun x => decide (x.1 = n)) with | some x => x.2 | none => 0
theorem nm_look2 {w : World} {mb : Nat} {l : List (ByteArray × Nat)} {n : ByteArray} (hm : w.heap[mb]? = some (.map (nmE l) l.length)) (hk : ∀ x ∈ l, x.1.size ≤ 60) (hu : ∀ x ∈ l, ∀ y ∈ l, x.1 = y.1 → x.2 = y.2) (hn : n.size ≤ 60) :
    (Instr.lookup 53 (.map (some mb)) (.string n) true).run Tryz.prog w = .ok (.tuple #[.int .i64 (nameN l n), .bool (takenM l n)]) w := by
  obtain ⟨kl, hl⟩ := keyOf_str n hn
  have hg := MapKept.run_getObj_map (P := Tryz.prog) hm
  have hc := strKeyed.check w (nmE l).isEmpty hl
  rcases strKeyed.find w hl (nmE l).toList (nmE_keyed hk) with ⟨hf, hno⟩ | ⟨j, e, hf, hj, he⟩
  · have ht : takenM l n = false := by
      rw [Bool.eq_false_iff]
      intro h
      obtain ⟨e, he, hke⟩ := (nmE_has l n).2 h
      exact hno e he hke
    have hz : nameN l n = 0 := by
      unfold nameN
      cases h : l.find? (fun x => decide (x.1 = n)) with
      | none => rfl
      | some x =>
        exfalso
        have h1 := List.mem_of_find?_eq_some h
        have h2 := List.find?_some h
        have h3 : takenM l n = true := by unfold takenM; rw [List.any_eq_true]; exact ⟨x, h1, by simpa using h2⟩
        rw [ht] at h3; cases h3
    rw [ht, hz]
    unfold Instr.lookup
    simp [run_underlying Tryz.underlying53, hg, hc, hf, zeroInt]
  · have ht : takenM l n = true := (nmE_has l n).1 ⟨e, List.mem_of_getElem? hj, he⟩
    have hv : e.val = .int .i64 (nameN l n) := by
      have h1 := List.mem_of_getElem? hj
      simp only [nmE, List.toList_toArray, List.mem_map] at h1
      obtain ⟨x, hx, rfl⟩ := h1
      have hxl : x.1 ∈ l := by
        have := List.mem_map_of_mem (f := Prod.fst) hx
        rwa [List.zipIdx_map_fst] at this
      have hxn : x.1.1 = n := by simpa using he
      unfold nameN
      cases h : l.find? (fun x => decide (x.1 = n)) with
      | none =>
        rw [List.find?_eq_none] at h
        exact absurd (decide_eq_true hxn) (h _ hxl)
      | some y =>
        have h2 : y.1 = n := by simpa using List.find?_some h
        have h3 := hu x.1 hxl y (List.mem_of_find?_eq_some h) (hxn.trans h2.symm)
        simp [h3]
    rw [ht]
    unfold Instr.lookup
    simp [hv, run_underlying Tryz.underlying53, hg, hc, hf]

def namedM (s : ByteArray) (l : List (Int × Int)) (nm : List (ByteArray × Nat)) (n : ByteArray) : ByteArray := if takenM nm n then numM s l (nameN nm n) else ⟨#[]⟩

set_option maxHeartbeats 2000000 in
set_option maxRecDepth 100000 in
theorem named_any (s : ByteArray) (mb g c : Nat) (l : List (Int × Int)) (nm : List (ByteArray × Nat)) (n : ByteArray) (w : World) (hm : w.heap[mb]? = some (.map (nmE nm) nm.length)) (hnk : ∀ x ∈ nm, x.1.size ≤ 60) (hu : ∀ x ∈ nm, ∀ y ∈ nm, x.1 = y.1 → x.2 = y.2) (hnv : ∀ x ∈ nm, x.2 ≤ 1000) (hn : n.size ≤ 60) (hgl : g < w.heap.size) (hcell : ∀ j u, (spanL l)[j]? = some u → w.cell? ⟨g, j, none⟩ = some u) (hl : l.length ≤ 1000) (hs : s.size ≤ 9223372036854775807)
    (hok : ∀ y ∈ l, y.1 < 0 ∨ (0 ≤ y.1 ∧ y.1 ≤ y.2 ∧ y.2 ≤ s.size)) :
    Calls Tryz.prog 99 #[.agg #[.string s, .slice (some ⟨g, 0, none⟩) l.length c, .map (some mb)], .string n] w fun e w' => e = .returned (.string (namedM s l nm n)) ∧ Ex [] w w' := by
  obtain ⟨R, hR⟩ : ∃ R, R = namedM s l nm n := ⟨_, rfl⟩
  rw [← hR]
  have HR := hide hR
  obtain ⟨W, hW⟩ : ∃ W, W = w.alloc (Obj.cells #[.string s, .slice (some ⟨g, 0, none⟩) l.length c, .map (some mb)] 55) := ⟨_, rfl⟩
  have hmb : mb < w.heap.size := by
    rcases Nat.lt_or_ge mb w.heap.size with h | h
    · exact h
    · rw [Array.getElem?_eq_none h] at hm; cases hm
  have hxW : Ex [] w W := by rw [hW]; exact (Ex.refl _ _).alloc _
  have hbW : BK W w.heap.size (.cells #[.string s, .slice (some ⟨g, 0, none⟩) l.length c, .map (some mb)] 55 (0, 0)) := by rw [hW]; exact BK.new _ _
  have hlook := nm_look2 (w := W) (n := n) ((show BK w mb (.map (nmE nm) nm.length) from hm).ex hxW (by simp)) hnk hu hn
  have hb : nameN nm n ≤ 1000 := by
    unfold nameN
    cases h : nm.find? (fun x => decide (x.1 = n)) with
    | none => simp
    | some x => exact hnv x (List.mem_of_find?_eq_some h)
  have KN := hide (fun (W' : World) (hx : Ex [] w W') => numbered_any s mb g c l (nameN nm n) W' (Nat.lt_of_lt_of_le hgl hx.size) (fun j u hj => (hx.cell0.1 g j hgl).trans (hcell j u hj)) hl hs ⟨by omega, by omega⟩ hok)
  obtain ⟨k, hk⟩ : ∃ k, k = nameN nm n := ⟨_, rfl⟩
  obtain ⟨b, hbb⟩ : ∃ b, b = takenM nm n := ⟨_, rfl⟩
  rw [← hk, ← hbb] at hlook
  rw [← hk] at KN
  have hr : R = if b then numM s l k else ⟨#[]⟩ := by rw [hR, hbb, hk]; rfl
  have HRR := hide hr
  obtain ⟨V, hV⟩ : ∃ V, V = numM s l k := ⟨_, rfl⟩
  obtain ⟨m, hm2⟩ : ∃ m, m = l.length := ⟨_, rfl⟩
  rw [← hV] at KN HRR
  rw [← hm2] at KN hbW hW ⊢
  have HXW := hide hxW
  subst hW
  clear hm hnk hu hnv hcell hok hR hr hk hbb hV hm2 hxW hb hbW
  cases b with
  | false =>
    obtain rfl : R = ⟨#[]⟩ := by rw [HRR.out]; rfl
    go_enter Tryz.func99, Tryz.ntmps99
    go_wp2_with fail
    go_ret
    exact ⟨rfl, HXW.out⟩
  | true =>
    obtain rfl : R = V := by rw [HRR.out]; rfl
    go_enter Tryz.func99, Tryz.ntmps99
    go_wp2_with fail
    refine (KN.out _ HXW.out).mono ?_
    rintro e w1 ⟨rfl, hx1⟩
    have HX1 := hide (HXW.out.trans hx1)
    clear hx1
    go_wp2_with fail
    go_ret
    exact ⟨rfl, HX1.out⟩
end Go.Proofs.YtcbiidoebpkifaaGreatDoor.G

/- Package expand: runs of letters, digits and _. -/
namespace Go.Proofs.YtcbiidoebpkifaaGreatDoor.G
open Go.RowKit

set_option maxHeartbeats 400000 in
theorem xDigit_any (x : Int) (w : World) :
    Calls Tryz.prog 127 #[.int .u8 x] w fun e w' => e = .returned (.bool (digB x)) ∧ w' = w := by
  unfold digB
  by_cases h1 : 48 ≤ x
  · by_cases h2 : x ≤ 57
    · go_enter Tryz.func127, Tryz.ntmps127
      go_wp2
      go_ret
      exact ⟨by simp [h1, h2], rfl⟩
    · go_enter Tryz.func127, Tryz.ntmps127
      go_wp2
      go_ret
      exact ⟨by simp [h1, h2], rfl⟩
  · go_enter Tryz.func127, Tryz.ntmps127
    go_wp2
    go_ret
    exact ⟨by simp; omega, rfl⟩

set_option maxHeartbeats 1000000 in
theorem inRun_any (x : Int) (w : World) :
    Calls Tryz.prog 96 #[.int .u8 x] w fun e w' => e = .returned (.bool (wordB x)) ∧ w' = w := by
  by_cases h1 : 97 ≤ x <;> by_cases h2 : x ≤ 122 <;> by_cases h3 : 65 ≤ x <;> by_cases h4 : x ≤ 90 <;> by_cases h5 : x = 95
  all_goals
    first
    | (exfalso; omega)
    | (go_enter Tryz.func96, Tryz.ntmps96
       go_wp2_with fail
       first
       | (go_ret
          exact ⟨by simp [wordB, letB, h1, h2, h3, h4, h5], rfl⟩)
       | (refine (xDigit_any x _).mono ?_
          rintro e w1 ⟨rfl, rfl⟩
          have hl : letB x = false := by simp [letB]; omega
          have hu : (x == 95) = false := beq_eq_false_iff_ne.2 h5
          go_wp2_with fail
          go_ret
          exact ⟨by simp [wordB, hl, hu], rfl⟩))

def runN (s : ByteArray) : Nat := (s.data.toList.takeWhile fun b => wordB (b.toNat : Int)).length
theorem takeWhile_at {α : Type} (q : α → Bool) : ∀ (l : List α) (j : Nat), (∀ i, i < j → ∀ a, l[i]? = some a → q a = true) → j ≤ l.length → (∀ a, l[j]? = some a → q a = false) → (l.takeWhile q).length = j
  | [], 0, _, _, _ => rfl
  | [], j + 1, _, h, _ => by simp at h
  | a :: l, 0, _, _, h => by
    have := h a (by simp)
    simp [List.takeWhile_cons, this]
  | a :: l, j + 1, h1, h2, h3 => by
    have h4 := h1 0 (by omega) a (by simp)
    rw [List.takeWhile_cons, if_pos h4]
    have := takeWhile_at q l j (fun i hi b hb => h1 (i + 1) (by omega) b (by simpa using hb)) (by simpa using h2) (fun b hb => h3 b (by simpa using hb))
    simp [this]
theorem runN_le (s : ByteArray) : runN s ≤ s.size := by
  unfold runN
  rw [← len_list]
  exact (List.takeWhile_sublist _).length_le

set_option maxHeartbeats 1000000 in
set_option maxRecDepth 100000 in
theorem runSize_any (s : ByteArray) (w : World) (hs : s.size ≤ 9223372036854775807) :
    Calls Tryz.prog 68 #[.string s] w fun e w' => e = .returned (.int .i64 (runN s)) ∧ w' = w := by
  obtain ⟨N, hN⟩ : ∃ N, N = runN s := ⟨_, rfl⟩
  have HN := hide hN
  rw [← hN]
  clear hN
  obtain ⟨n, hn⟩ : ∃ n, n = s.size := ⟨_, rfl⟩
  go_enter Tryz.func68, Tryz.ntmps68
  go_wp2_with fail
  go_loopg [3] n (fun gk i wr => ∃ j : Nat, j + gk = n ∧ i = .int .i64 j ∧ (∀ i (h : i < s.size), i < j → wordB ((s[i]'h).toNat : Int) = true) ∧ wr = w)
  case atStart => exact ⟨0, by omega, rfl, fun i h hi => by omega, rfl⟩
  case round =>
    obtain ⟨j, hj, rfl, hw, rfl⟩ := hrel
    have HW := hide hw
    clear hw
    cases gk with
    | zero =>
      have hjs : j = s.size := by omega
      have hr : N = j := by
        rw [HN.out]
        refine takeWhile_at _ _ j (fun i hi a ha => ?_) (by rw [len_list]; omega) (fun a ha => ?_)
        · have hi' : i < s.size := by omega
          rw [at_list hi'] at ha
          cases ha
          exact HW.out i hi' hi
        · rw [List.getElem?_eq_none (by rw [len_list]; omega)] at ha; cases ha
      subst hr
      have h1 : ¬ ((N : Int) < (s.size : Int)) := by omega
      clear hj hjs
      go_wp2_with fail
      go_ret
      exact ⟨rfl, rfl⟩
    | succ g =>
      have hjl : j < s.size := by omega
      have h1 : (j : Int) < (s.size : Int) := by omega
      have hstep : wordB ((s[j]'hjl).toNat : Int) = true → ∀ i (h : i < s.size), i < j + 1 → wordB ((s[i]'h).toNat : Int) = true := fun hb i hi hlt => by
        by_cases hij : i = j
        · subst hij; exact hb
        · exact HW.out i hi (by omega)
      have HS := hide hstep
      obtain ⟨x, hx⟩ : ∃ x : Int, x = ((s[j]'hjl).toNat : Int) := ⟨_, rfl⟩
      have HX := hide hx
      clear hstep hx
      go_wp2_with fail
      refine (inRun_any _ _).mono ?_
      rintro e w' ⟨rfl, rfl⟩
      rw [← show x = ((s[j]'hjl).toNat : Int) from HX.out]
      cases hl : wordB x with
      | true =>
        have HL := hide hl
        clear hl
        go_wp2_with fail
        go_roundg g
        case measure => omega
        case rel => exact ⟨j + 1, by omega, by simp, HS.out (by rw [← HX.out]; exact HL.out), rfl⟩
      | false =>
        have HL := hide hl
        clear hl
        have hr : N = j := by
          rw [HN.out]
          refine takeWhile_at _ _ j (fun i hi a ha => ?_) (by rw [len_list]; omega) (fun a ha => ?_)
          · have hi' : i < s.size := by omega
            rw [at_list hi'] at ha
            cases ha
            exact HW.out i hi' hi
          · rw [at_list hjl] at ha
            cases ha
            rw [← HX.out]; exact HL.out
        subst hr
        go_wp2_with fail
        go_ret
        exact ⟨rfl, rfl⟩
end Go.Proofs.YtcbiidoebpkifaaGreatDoor.G

/- Package expand: how long a plain piece is, how long a run in braces. -/
namespace Go.Proofs.YtcbiidoebpkifaaGreatDoor.G
open Go.RowKit

def plainI (s : ByteArray) : Int := if 0 ≤ Lib.indexByte s.data.toList 36 then Lib.indexByte s.data.toList 36 else s.size
set_option maxHeartbeats 1000000 in
theorem plainSize_any (s : ByteArray) (w : World) (hs : s.size ≤ 9223372036854775807) :
    Calls Tryz.prog 66 #[.string s] w fun e w' => e = .returned (.int .i64 (plainI s)) ∧ w' = w := by
  obtain ⟨P, hP⟩ : ∃ P, P = Lib.indexByte s.data.toList 36 := ⟨_, rfl⟩
  have KI := hide (fun w' => Tryz.strings_IndexByte s 36 w')
  have e36 : (36 : Int).toNat.toUInt8 = 36 := rfl
  rw [e36, ← hP] at KI
  unfold plainI
  rw [← hP]
  clear hP e36
  by_cases h0 : 0 ≤ P
  · rw [if_pos h0]
    go_enter Tryz.func66, Tryz.ntmps66
    go_wp2_with (go_at_call 94; refine (KI.out _).mono ?_; rintro e w' ⟨rfl, rfl⟩)
    go_ret
    exact ⟨rfl, rfl⟩
  · rw [if_neg h0]
    go_enter Tryz.func66, Tryz.ntmps66
    go_wp2_with (go_at_call 94; refine (KI.out _).mono ?_; rintro e w' ⟨rfl, rfl⟩)
    go_ret
    exact ⟨rfl, rfl⟩

def bracedN (s : ByteArray) : Nat := if Lib.hasPrefix s.data.toList [123] && Lib.hasPrefix (s.extract (1 + runN (s.extract 1 s.size)) s.size).data.toList [125] then runN (s.extract 1 s.size) else 0
theorem prefix_pos {s : ByteArray} {a : UInt8} (h : Lib.hasPrefix s.data.toList [a] = true) : 1 ≤ s.size := by
  rcases Nat.eq_zero_or_pos s.size with h0 | h0
  · exfalso
    rw [← len_list] at h0
    rw [List.length_eq_zero_iff.1 h0] at h
    simp [Lib.hasPrefix] at h
  · exact h0
theorem size_ext1 (s : ByteArray) (a : Nat) : (s.extract a s.size).size = s.size - a := by simp
set_option maxHeartbeats 1000000 in
theorem bracedSize_any (s : ByteArray) (w : World) (hs : s.size ≤ 9223372036854775807) :
    Calls Tryz.prog 70 #[.string s] w fun e w' => e = .returned (.int .i64 (bracedN s)) ∧ w' = w := by
  have KH := hide (fun w' => Tryz.strings_HasPrefix s ⟨#[123]⟩ w')
  obtain ⟨b, hb⟩ : ∃ b, b = Lib.hasPrefix s.data.toList [123] := ⟨_, rfl⟩
  rw [show Lib.hasPrefix s.data.toList (⟨#[123]⟩ : ByteArray).data.toList = b from hb.symm] at KH
  obtain ⟨N, hN⟩ : ∃ N, N = bracedN s := ⟨_, rfl⟩
  rw [← hN]
  have HN := hide hN
  have HB := hide hb
  clear hN hb
  cases b with
  | false =>
    have hr : N = 0 := by rw [HN.out]; unfold bracedN; rw [← HB.out]; rfl
    subst hr
    go_enter Tryz.func70, Tryz.ntmps70
    go_wp2_with (go_at_call 67; refine (KH.out _).mono ?_; rintro e w' ⟨rfl, rfl⟩)
    go_ret
    exact ⟨rfl, rfl⟩
  | true =>
    have h1 : 1 ≤ s.size := prefix_pos HB.out.symm
    have h2 : (1 : Int) ≤ (s.size : Int) := by omega
    have hz := size_ext1 s 1
    obtain ⟨u, hu⟩ : ∃ u, u = s.extract 1 s.size := ⟨_, rfl⟩
    rw [← hu] at hz
    have KR := hide (fun w' => runSize_any u w' (by omega))
    have hle := runN_le u
    obtain ⟨n, hn⟩ : ∃ n, n = runN u := ⟨_, rfl⟩
    rw [← hn] at KR hle
    have h3 : 1 + n ≤ s.size := by omega
    have h4 : (1 : Int) + (n : Int) ≤ (s.size : Int) := by omega
    have KT := hide (fun w' => Tryz.strings_HasPrefix (s.extract (1 + n) s.size) ⟨#[125]⟩ w')
    obtain ⟨q, hq⟩ : ∃ q, q = Lib.hasPrefix (s.extract (1 + n) s.size).data.toList [125] := ⟨_, rfl⟩
    rw [show Lib.hasPrefix (s.extract (1 + n) s.size).data.toList (⟨#[125]⟩ : ByteArray).data.toList = q from hq.symm] at KT
    have hr : N = if q then n else 0 := by rw [HN.out, hq, hn, hu]; unfold bracedN; rw [← HB.out, Bool.true_and]
    have HR := hide hr
    rw [hu] at KR
    clear hu hn hq hr hz hle
    cases q with
    | false =>
      obtain rfl : N = 0 := by rw [HR.out]; rfl
      go_enter Tryz.func70, Tryz.ntmps70
      go_wp2_with fail
      refine (KH.out _).mono ?_
      rintro e w' ⟨rfl, rfl⟩
      go_wp2_with fail
      refine (KR.out _).mono ?_
      rintro e w' ⟨rfl, rfl⟩
      go_wp2_with fail
      refine (KT.out _).mono ?_
      rintro e w' ⟨rfl, rfl⟩
      go_wp2_with fail
      go_ret
      exact ⟨rfl, rfl⟩
    | true =>
      obtain rfl : N = n := by rw [HR.out]; rfl
      go_enter Tryz.func70, Tryz.ntmps70
      go_wp2_with fail
      refine (KH.out _).mono ?_
      rintro e w' ⟨rfl, rfl⟩
      go_wp2_with fail
      refine (KR.out _).mono ?_
      rintro e w' ⟨rfl, rfl⟩
      go_wp2_with fail
      refine (KT.out _).mono ?_
      rintro e w' ⟨rfl, rfl⟩
      go_wp2_with fail
      go_ret
      exact ⟨rfl, rfl⟩
end Go.Proofs.YtcbiidoebpkifaaGreatDoor.G
