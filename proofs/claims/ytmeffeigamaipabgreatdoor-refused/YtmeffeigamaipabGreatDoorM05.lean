/- C9 D1 D2 C4s, one behind the other. -/
import Derived.Test.YtmeffeigamaipabGreatDoorM04
import Derived.Maps.Keyed
import Derived.DeepKeys4
import Derived.Test.YtmeffeigamaipabGreatDoorM03
set_option linter.unusedVariables false
set_option linter.unusedSimpArgs false
/- Contracts of what an engine without rules does with a series. -/
namespace Go.Proofs.YtmeffeigamaipabGreatDoor
open Go.RowKit

theorem ser_at (ls : List Lab) (j : Nat) (l : Lab) (h : ls[j]? = some l) : (serC ls)[j * 2]? = some (.string l.1) ∧ (serC ls)[j * 2 + 1]? = some (.string l.2) := by
  have hl := flat_at ls j l h
  have hjl : j < ls.length := (List.getElem?_eq_some_iff.1 h).1
  unfold serC
  rw [List.append_assoc, List.getElem?_append_left (by rw [flat_len]; omega), List.getElem?_append_left (by rw [flat_len]; omega)]
  exact hl
theorem ser_count {ls : List Lab} (h : ls.length ≤ 20) : (serC ls).toArray[40]? = some (.int .i64 ls.length) := by
  unfold serC
  rw [List.getElem?_toArray, List.getElem?_append_right (by rw [List.length_append, flat_len, List.length_replicate]; omega)]
  have : 40 - (cellsOfL ls ++ List.replicate (40 - ls.length * 2) (Value.string ⟨#[]⟩)).length = 0 := by rw [List.length_append, flat_len, List.length_replicate]; omega
  rw [this]; rfl

theorem sl_of_ser {w : World} {b c : Nat} {ls : List Lab} {t : TypeId} (h : BK w b (.cells (serC ls).toArray t (0, 0))) : SL w (.slice (some ⟨b, 0, none⟩) ls.length c) ls := by
  refine .inr ⟨b, c, rfl, h.lt, fun j l hj => ?_⟩
  rw [h.all.1, h.all.1, List.getElem?_toArray, List.getElem?_toArray]
  exact ser_at ls j l hj

theorem sl_own {w : World} {base n : Nat} {v : Value} {ls : List Lab} (h : w.ownsRow base 48 2 v n (cellsOfL ls)) (hn : n = ls.length) : SL w v ls := by subst hn; exact own_sl h

set_option maxHeartbeats 1000000 in
set_option maxRecDepth 100000 in
theorem serLabels (ls : List Lab) (w : World) (hn : ls.length ≤ 20) :
    Calls Tryz.prog 45 #[serV ls] w fun e w' => ∃ q v, e = .returned (.pointer (some ⟨q, 0, none⟩)) ∧ BK w' q (.cells #[v] 98 (0, 0)) ∧ w'.ownsRow w.heap.size 48 2 v ls.length (cellsOfL ls) ∧ w.heap.size ≤ q ∧ (∀ k, v.ownBlock = some k → k ≠ q) ∧ Ex [] w w' := by
  unfold serV
  have hc40 := ser_count hn
  obtain ⟨S, hS⟩ : ∃ S, S = (serC ls).toArray := ⟨_, rfl⟩
  rw [← hS] at hc40 ⊢
  have HS := hide hS
  have H40 := hide hc40
  clear hS hc40
  obtain ⟨n, hnn⟩ : ∃ n, ls.length = n := ⟨_, rfl⟩
  have HN := hide hnn
  have hn' : (n : Int) ≤ 20 := by omega
  have hn2 : n ≤ 20 := by omega
  have k40 : (w.alloc (.cells S 72)).cell? ⟨w.heap.size, 40, none⟩ = some (.int .i64 n) := by
    rw [(BK.new w _).all.1, unhide H40, hnn]
  clear hnn
  go_enter Tryz.func45, Tryz.ntmps45
  go_wp2_with fail
  refine (cloneLab _ ls _ ?_ (by omega)).mono ?_
  · have := sl_of_ser (c := 20) (t := 72) (show BK (w.alloc (.cells S 72)) w.heap.size (.cells (serC ls).toArray 72 (0, 0)) by rw [← unhide HS]; exact BK.new _ _)
    rw [unhide HN] at this
    exact this
  rintro e w1 ⟨v1, rfl, ho1, hx1⟩
  simp only [World.size_alloc] at ho1
  have hz := hx1.size
  simp only [World.size_alloc] at hz
  have HO1 := hide ho1
  have HX1 := hide hx1
  clear ho1 hx1 k40
  obtain ⟨p1, c1, rfl⟩ := own_slice HO1.out
  go_wp2_with fail
  go_ret
  refine ⟨w1.heap.size, _, rfl, BK.new _ _, (own_base HO1.out (by omega)).alloc _, by omega, fun k hk e => ?_, (((Ex.refl _ _).alloc _).trans HX1.out).alloc _⟩
  have := (HO1.out.lt k hk).2
  omega

set_option maxHeartbeats 1000000 in
set_option maxRecDepth 100000 in
theorem labList (q : Nat) (v : Value) (ls : List Lab) (w : World) (hq : BK w q (.cells #[v] 98 (0, 0))) (hv : SL w v ls) (hn : ls.length ≤ 1000) :
    Calls Tryz.prog 47 #[.pointer (some ⟨q, 0, none⟩)] w fun e w' => ∃ v', e = .returned v' ∧
      w'.ownsRow w.heap.size 48 2 v' ls.length (cellsOfL ls) ∧ Ex [] w w' := by
  obtain ⟨hc, hf⟩ := hq.all
  have HV := hide hv
  clear hq hv
  go_enter Tryz.func47, Tryz.ntmps47
  go_wp2_with fail
  refine (cloneLab _ ls _ HV.out hn).mono ?_
  rintro e w1 ⟨v1, rfl, ho1, hx1⟩
  have HO1 := hide ho1
  have HX1 := hide hx1
  clear ho1 hx1 hc hf
  go_wp2_with fail
  go_ret
  exact ⟨_, rfl, HO1.out, HX1.out⟩

/-- An answer as a value. -/
def ansV (v : Value) (b : Bool) : Value := .agg #[v, .bool b]

set_option maxHeartbeats 1000000 in
set_option maxRecDepth 100000 in
/-- Without rules a series is answered by its own labels. -/
theorem rewrite_bare (e : Nat) (mp : Value) (ls : List Lab) (w : World) (he : BK w e (.cells #[.slice none 0 0, mp] 69 (0, 0))) (hn : ls.length ≤ 20) :
    Calls Tryz.prog 33 #[.pointer (some ⟨e, 0, none⟩), serV ls] w fun x w' => ∃ v, x = .returned (ansV v true) ∧
      w'.ownsRow w.heap.size 48 2 v ls.length (cellsOfL ls) ∧ Ex [] w w' := by
  have HE := hide he
  have hel := he.lt
  have hlen := serC_len hn
  have hser : serV ls = .agg (serC ls).toArray := rfl
  rw [hser]
  clear hser
  obtain ⟨S, hS⟩ : ∃ S, S = serC ls := ⟨_, rfl⟩
  rw [← hS] at hlen ⊢
  have HS := hide hS
  have hisz : (Tryz.prog.info? 72).map (·.size) = some S.length := by rw [hlen]; kernel_rfl
  have HI := hide hisz
  clear he hS hlen hisz
  have HRG := hide (BK.rangeL (BK.new w (.cells S.toArray 72)))
  have HRG' := hide (World.rangeAt_alloc HRG.out (.cells #[.slice none 0 0, .bool false] 76))
  go_enter Tryz.func33, Tryz.ntmps33
  go_wp2_with (first
    | (refine wpList_load_mid rfl 72 _ rfl w.heap.size 0 rfl S _ HRG'.out Tryz.underlying72 rfl HI.out ?_))
  have hlb := serLabels ls ((w.alloc (Obj.cells S.toArray 72)).alloc (Obj.cells #[.slice none 0 0, .bool false] 76)) hn
  unfold serV at hlb
  rw [← unhide HS] at hlb
  refine hlb.mono ?_
  clear hlb
  rintro x w1 ⟨q, v1, rfl, hq1, ho1, hlq, hdj, hx1⟩
  have hx01 : Ex [] w w1 := (((Ex.refl _ _).alloc _).alloc _).trans hx1
  have hres : BK w1 (w.heap.size + 1) (.cells #[.slice none 0 0, .bool false] 76 (0, 0)) := by
    have h1 := BK.new (w.alloc (Obj.cells S.toArray 72)) (Obj.cells #[.slice none 0 0, .bool false] 76)
    simp only [World.size_alloc] at h1
    exact h1.ex hx1 (by simp)
  have he1 := HE.out.ex hx01 (by simp)
  simp only [World.size_alloc] at hlq ho1
  have hz1 := hx1.size
  simp only [World.size_alloc] at hz1
  have HQ1 := hide hq1
  have HO1 := hide ho1
  have HX01 := hide hx01
  have HRES := hide hres
  obtain ⟨hce, hfe⟩ := he1.all
  have hel1 := he1.lt
  clear hq1 ho1 hx1 hx01 hres he1 hdj
  go_wp2_with fail
  refine wp_loop_rounds 1 ?_
  rw [rounds_succ]
  go_wp2_with fail
  refine (labList q v1 ls _ HQ1.out (own_sl HO1.out) (by omega)).mono ?_
  rintro x w2 ⟨v2, rfl, ho2, hx2⟩
  have hres2 := HRES.out.ex hx2 (by simp)
  have hz2 := hx2.size
  have HO2 := hide ho2
  have HX2 := hide hx2
  have HR2 := hide hres2
  obtain ⟨p2, c2, rfl⟩ := own_slice ho2
  obtain ⟨hcr, hfr⟩ := hres2.all
  have hrl := hres2.lt
  clear hx2 hres2 ho2 hce hfe
  go_wp2_with fail
  have hb3 := (HR2.out.self 0 (.slice p2 ls.length c2)).self 1 (.bool true)
  simp only [List.setIfInBounds_toArray, List.set_cons_zero, List.set_cons_succ] at hb3
  have hl3 := run_loadVar_mid (P := Tryz.prog) _ (w.heap.size + 1) 0 76 [.slice p2 ls.length c2, .bool true] _ hb3.rangeL Tryz.underlying76 rfl (by kernel_rfl)
  refine bodyPost_ret (results_cell1 rfl rfl hl3) rfl ⟨_, rfl, ?_, ?_⟩
  · exact own_base (own_set (own_set HO2.out (by simp; omega) _) (by simp; omega) _) (by omega)
  · exact ((HX01.out.trans HX2.out).setCell (.inr (by simp)) _).setCell (.inr (by simp)) _
end Go.Proofs.YtmeffeigamaipabGreatDoor

/- Series as keys of a map. -/
namespace Go.Proofs.YtmeffeigamaipabGreatDoor
open Go.RowKit

theorem laidOut : laidOutB Tryz.prog = true := by kernel_rfl
theorem serKeyed : Maps.Keyed Tryz.prog 72 :=
  Maps.Keyed.of_law (deep_law_laid laidOut (m := 4) (by omega) (of_decide_eq_true (by kernel_rfl)) (by kernel_rfl) (by rw [Tryz.underlying72]))

theorem mapM_some {α β : Type} {f : α → Option β} : ∀ (l : List α), (∀ a ∈ l, ∃ b, f a = some b) → ∃ bs, l.mapM f = some bs
  | [], _ => ⟨[], rfl⟩
  | a :: r, h => by
    obtain ⟨b, hb⟩ := h a (by simp)
    obtain ⟨bs, hbs⟩ := mapM_some r (fun x hx => h x (by simp [hx]))
    exact ⟨b :: bs, by simp [List.mapM_cons, hb, hbs]⟩

theorem cells48 : Tryz.prog.cellsOf 48 = 2 := by kernel_rfl
theorem cells9 : Tryz.prog.cellsOf 9 = 1 := by kernel_rfl
theorem cells3 : Tryz.prog.cellsOf 3 = 1 := by kernel_rfl
theorem cells70 : Tryz.prog.cellsOf 70 = 40 := by kernel_rfl
theorem cells72 : Tryz.prog.cellsOf 72 = 41 := by kernel_rfl

theorem key_lab (d : Nat) (a b : ByteArray) (ha : a.size ≤ maxLen) (hb : b.size ≤ maxLen) : ∃ l, Tryz.prog.keyLits (d + 2) 48 [.string a, .string b] = some l := by
  have h1 : ∀ x : ByteArray, x.size ≤ maxLen → Tryz.prog.keyLits (d + 1) 9 [.string x] = some [.string x.data.toList] := fun x hx => by
    simp [Program.keyLits, Tryz.underlying9, hx]
  refine ⟨[.string a.data.toList, .string b.data.toList], ?_⟩
  unfold Program.keyLits
  simp [Tryz.underlying48, cells48, cells9, h1 a ha, h1 b hb, List.mapM_cons]

/-- The cells of a series: forty texts and a number. -/
def SerOk (S : List Value) : Prop := S.length = 41 ∧ (∀ i, i < 40 → ∃ x : ByteArray, S[i]? = some (.string x) ∧ x.size ≤ maxLen) ∧ ∃ n : Nat, n ≤ 20 ∧ S[40]? = some (.int .i64 n)

theorem pair_at {S : List Value} {i : Nat} {a b : Value} (h1 : S[i]? = some a) (h2 : S[i + 1]? = some b) : (S.drop i).take 2 = [a, b] := by
  obtain ⟨hi, rfl⟩ := List.getElem?_eq_some_iff.1 h1
  obtain ⟨hj, rfl⟩ := List.getElem?_eq_some_iff.1 h2
  rw [List.drop_eq_getElem_cons hi, List.take_succ_cons, List.drop_eq_getElem_cons hj, List.take_succ_cons, List.take_zero]

theorem keyOf_ser {S : List Value} (h : SerOk S) : ∃ l, keyOf Tryz.prog 72 (.agg S.toArray) = some l := by
  obtain ⟨hlen, hs, n, hn, h40⟩ := h
  obtain ⟨m, hm⟩ : ∃ m, Tryz.prog.types.size + 1 = m + 4 := ⟨Tryz.prog.types.size - 3, by have : Tryz.prog.types.size ≥ 3 := of_decide_eq_true (by kernel_rfl); omega⟩
  have hform : (Value.agg S.toArray).formed Tryz.prog 72 = true := by simp [Value.formed, Tryz.underlying72, cells72, hlen]
  have hkt : Tryz.prog.keyType 72 = true := by kernel_rfl
  have hlast : (S.drop 40).take 1 = [.int .i64 n] := by
    obtain ⟨hi, he⟩ := List.getElem?_eq_some_iff.1 h40
    rw [List.drop_eq_getElem_cons hi, List.take_succ_cons, List.take_zero, he]
  have hint : Tryz.prog.keyLits (m + 3) 3 [.int .i64 n] = some [.int .i64 n] := by
    unfold Program.keyLits
    have : (Lit.int .i64 n).wf = true := by
      simp only [Lit.wf, decide_eq_true_eq, Bool.and_eq_true]
      constructor <;> first | omega | (show _ ≤ (9223372036854775807 : Int); omega) | (show (-9223372036854775808 : Int) ≤ _; omega)
    simp [Tryz.underlying3, this]
  have harr : ∃ l, Tryz.prog.keyLits (m + 3) 70 (S.take 40) = some l := by
    unfold Program.keyLits
    obtain ⟨bs, hbs⟩ := mapM_some (f := fun i => Tryz.prog.keyLits (m + 2) 48 (((S.take 40).drop (i * 2)).take 2)) (List.range 20) (fun i hi => by
      have hi' : i < 20 := List.mem_range.1 hi
      obtain ⟨a, ha, ha'⟩ := hs (i * 2) (by omega)
      obtain ⟨b, hb, hb'⟩ := hs (i * 2 + 1) (by omega)
      rw [pair_at (a := .string a) (b := .string b) (by rw [List.getElem?_take, if_pos (by omega)]; exact ha) (by rw [List.getElem?_take, if_pos (by omega)]; exact hb)]
      exact key_lab m a b ha' hb')
    refine ⟨bs.flatten, ?_⟩
    simp only [Tryz.underlying70, cells70, cells48, List.length_take, hlen]
    rw [if_pos (by decide), hbs]; rfl
  obtain ⟨l1, hl1⟩ := harr
  unfold keyOf
  simp only [Tryz.underlying72, hkt, hform, Bool.and_self, if_true]
  have hall : Tryz.prog.keyLits (m + 4) 72 S = some (l1 ++ [.int .i64 n]) := by
    unfold Program.keyLits
    simp [Tryz.underlying72, cells72, cells70, cells3, hlen, hl1, hlast, hint, List.mapM_cons]
  refine ⟨.string (keyBytes (l1 ++ [.int .i64 n])), ?_⟩
  rw [hm, show (Value.agg S.toArray).cells.toList = S from rfl, hall]
  rfl

theorem serOk {ls : List Lab} (hn : ls.length ≤ 20) (hl : ∀ l ∈ ls, l.1.size ≤ maxLen ∧ l.2.size ≤ maxLen) : SerOk (serC ls) := by
  refine ⟨serC_len hn, fun i hi => ?_, ls.length, hn, by have := ser_count hn; rwa [List.getElem?_toArray] at this⟩
  by_cases hc : i < ls.length * 2
  · obtain ⟨l, hlj⟩ : ∃ l, ls[i / 2]? = some l := ⟨_, List.getElem?_eq_getElem (by omega)⟩
    obtain ⟨h1, h2⟩ := ser_at ls (i / 2) l hlj
    obtain ⟨m1, m2⟩ := hl l (List.mem_of_getElem? hlj)
    rcases Nat.mod_two_eq_zero_or_one i with hm | hm
    · rw [show i / 2 * 2 = i by omega] at h1; exact ⟨_, h1, m1⟩
    · rw [show i / 2 * 2 + 1 = i by omega] at h2; exact ⟨_, h2, m2⟩
  · refine ⟨⟨#[]⟩, ?_, by simp [ByteArray.size]⟩
    unfold serC
    rw [List.append_assoc, List.getElem?_append_right (by rw [flat_len]; omega), flat_len, List.getElem?_append_left (by rw [List.length_replicate]; omega), List.getElem?_replicate, if_pos (by omega)]

theorem serC_inj {a b : List Lab} (ha : a.length ≤ 20) (hb : b.length ≤ 20) (h : serC a = serC b) : a = b := by
  have h1 := ser_count ha
  have h2 := ser_count hb
  rw [h, h2] at h1
  have hlen : a.length = b.length := by
    have := Option.some.inj h1
    simp only [Value.int.injEq, true_and] at this
    omega
  apply List.ext_getElem? 
  intro j
  cases hj : a[j]? with
  | none =>
    rw [List.getElem?_eq_none_iff] at hj
    exact (List.getElem?_eq_none (by omega)).symm
  | some l =>
    have hjl : j < a.length := (List.getElem?_eq_some_iff.1 hj).1
    obtain ⟨l', hl'⟩ : ∃ l', b[j]? = some l' := ⟨_, List.getElem?_eq_getElem (by omega)⟩
    obtain ⟨e1, e2⟩ := ser_at a j l hj
    obtain ⟨e3, e4⟩ := ser_at b j l' hl'
    rw [h, e3] at e1
    rw [h, e4] at e2
    have q1 := Option.some.inj e1
    have q2 := Option.some.inj e2
    simp only [Value.string.injEq] at q1 q2
    rw [hl']
    obtain ⟨x, y⟩ := l
    obtain ⟨x', y'⟩ := l'
    simp_all
end Go.Proofs.YtmeffeigamaipabGreatDoor

/- The map of answers: what is looked up, laid down, taken away. -/
namespace Go.Proofs.YtmeffeigamaipabGreatDoor
open Go.RowKit

def KeysOk (es : Array MapEntry) : Prop := ∀ e ∈ es.toList, ∃ S, SerOk S ∧ e.key = .agg S.toArray
theorem KeysOk.keyed {es : Array MapEntry} (h : KeysOk es) : ∀ e ∈ es.toList, ∃ l, keyOf Tryz.prog 72 e.key = some l := fun e he => by
  obtain ⟨S, hS, hk⟩ := h e he
  rw [hk]; exact keyOf_ser hS

theorem zeroAns (w : World) : (zeroValue 76).run Tryz.prog w = .ok (.agg #[.slice none 0 0, .bool false]) w := by kernel_rfl

theorem look_miss {w : World} {mb : Nat} {es : Array MapEntry} {clk : Nat} {S : List Value} (hm : w.heap[mb]? = some (.map es clk)) (hk : KeysOk es) (hS : SerOk S) (hno : ∀ e ∈ es.toList, e.key ≠ .agg S.toArray) :
    (Instr.lookup 91 (.map (some mb)) (.agg S.toArray) true).run Tryz.prog w = .ok (.tuple #[.agg #[.slice none 0 0, .bool false], .bool false]) w := by
  obtain ⟨l, hl⟩ := keyOf_ser hS
  have hg := MapKept.run_getObj_map (P := Tryz.prog) hm
  have hc := serKeyed.check w es.isEmpty hl
  have hf : (Instr.findKey 72 (.agg S.toArray) es.toList).run Tryz.prog w = .ok none w := by
    rcases serKeyed.find w hl es.toList hk.keyed with ⟨h, _⟩ | ⟨j, e, _, hj, he⟩
    · exact h
    · exact absurd he (hno e (List.mem_of_getElem? hj))
  unfold Instr.lookup
  simp [run_underlying Tryz.underlying91, hg, hc, hf, zeroAns]

theorem look_hit {w : World} {mb : Nat} {es : Array MapEntry} {clk : Nat} {S : List Value} (hm : w.heap[mb]? = some (.map es clk)) (hk : KeysOk es) (hS : SerOk S) (hyes : ∃ e ∈ es.toList, e.key = .agg S.toArray) :
    ∃ e ∈ es.toList, e.key = .agg S.toArray ∧ (Instr.lookup 91 (.map (some mb)) (.agg S.toArray) true).run Tryz.prog w = .ok (.tuple #[e.val, .bool true]) w := by
  obtain ⟨l, hl⟩ := keyOf_ser hS
  have hg := MapKept.run_getObj_map (P := Tryz.prog) hm
  have hc := serKeyed.check w es.isEmpty hl
  rcases serKeyed.find w hl es.toList hk.keyed with ⟨_, h⟩ | ⟨j, e, hf, hj, he⟩
  · obtain ⟨e, hm, he⟩ := hyes
    exact absurd he (h e hm)
  · refine ⟨e, List.mem_of_getElem? hj, he, ?_⟩
    unfold Instr.lookup
    simp [run_underlying Tryz.underlying91, hg, hc, hf]

/-- A block put in another's place (of a map). -/
theorem upd_miss {w : World} {mb : Nat} {es : Array MapEntry} {clk : Nat} {S : List Value} (v : Value) (hm : w.heap[mb]? = some (.map es clk)) (hk : KeysOk es) (hS : SerOk S) (hno : ∀ e ∈ es.toList, e.key ≠ .agg S.toArray) :
    (Instr.mapUpdate 91 (.map (some mb)) (.agg S.toArray) v).run Tryz.prog w = .ok () (putB w mb (.map (es.push { key := .agg S.toArray, val := v, born := clk }) (clk + 1))) := by
  obtain ⟨l, hl⟩ := keyOf_ser hS
  have hg := MapKept.run_getObj_map (P := Tryz.prog) hm
  have hc := serKeyed.check w false hl
  have hf : (Instr.findKey 72 (.agg S.toArray) es.toList).run Tryz.prog w = .ok none w := by
    rcases serKeyed.find w hl es.toList hk.keyed with ⟨h, _⟩ | ⟨j, e, _, hj, he⟩
    · exact h
    · exact absurd he (hno e (List.mem_of_getElem? hj))
  unfold Instr.mapUpdate
  simp [run_underlying Tryz.underlying91, hg, hc, hf, MapKept.run_setObj_map _ hm, putB]

theorem del_hit {w : World} {mb : Nat} {es : Array MapEntry} {clk : Nat} {S : List Value} (ty : TypeId) (hm : w.heap[mb]? = some (.map es clk)) (hk : KeysOk es) (hS : SerOk S) (hyes : ∃ e ∈ es.toList, e.key = .agg S.toArray) :
    ∃ j e, es[j]? = some e ∧ e.key = .agg S.toArray ∧ (Builtin.delete_ #[91, 72] ty #[.map (some mb), .agg S.toArray]).run Tryz.prog w = .ok (.tuple #[]) (putB w mb (.map (es.eraseIdxIfInBounds j) clk)) := by
  obtain ⟨l, hl⟩ := keyOf_ser hS
  have hg := MapKept.run_getObj_map (P := Tryz.prog) hm
  have hc := serKeyed.check w es.isEmpty hl
  rcases serKeyed.find w hl es.toList hk.keyed with ⟨_, h⟩ | ⟨j, e, hf, hj, he⟩
  · obtain ⟨e, hm, he⟩ := hyes
    exact absurd he (h e hm)
  · refine ⟨j, e, by simpa using hj, he, ?_⟩
    unfold Builtin.delete_
    simp [run_underlying Tryz.underlying91, hg, hc, hf, MapKept.run_setObj_map _ hm, putB]

theorem clear_map {w : World} {mb : Nat} {es : Array MapEntry} {clk : Nat} (ty : TypeId) (hm : w.heap[mb]? = some (.map es clk)) :
    (Builtin.clear_ #[91] ty #[.map (some mb)]).run Tryz.prog w = .ok (.tuple #[]) (putB w mb (.map #[] clk)) := by
  have hg := MapKept.run_getObj_map (P := Tryz.prog) hm
  unfold Builtin.clear_
  simp [run_underlying Tryz.underlying91, hg, MapKept.run_setObj_map _ hm, putB]

theorem putB_bk {w : World} {b : Nat} {o o' : Obj} (h : BK w b o') : BK (putB w b o) b o := by
  have := h.lt
  simp [BK, putB, this]
theorem BK.putB {w : World} {b k : Nat} {o o' : Obj} (h : BK w k o') (hk : k ≠ b) : BK (putB w b o) k o' := h.ex (putB_ex w b o) (by simpa using hk)
end Go.Proofs.YtmeffeigamaipabGreatDoor

/- Contracts of slices.Delete, Insert and Clone at series. -/
namespace Go.Proofs.YtmeffeigamaipabGreatDoor
open Go.RowKit

theorem infoSer : (Tryz.prog.info? 72).map (fun i => (i.zero, i.size, i.bytes)) = some (some (.agg #[.string ⟨#[]⟩, .string ⟨#[]⟩, .string ⟨#[]⟩, .string ⟨#[]⟩, .string ⟨#[]⟩, .string ⟨#[]⟩, .string ⟨#[]⟩, .string ⟨#[]⟩, .string ⟨#[]⟩, .string ⟨#[]⟩, .string ⟨#[]⟩, .string ⟨#[]⟩, .string ⟨#[]⟩, .string ⟨#[]⟩, .string ⟨#[]⟩, .string ⟨#[]⟩, .string ⟨#[]⟩, .string ⟨#[]⟩, .string ⟨#[]⟩, .string ⟨#[]⟩, .string ⟨#[]⟩, .string ⟨#[]⟩, .string ⟨#[]⟩, .string ⟨#[]⟩, .string ⟨#[]⟩, .string ⟨#[]⟩, .string ⟨#[]⟩, .string ⟨#[]⟩, .string ⟨#[]⟩, .string ⟨#[]⟩, .string ⟨#[]⟩, .string ⟨#[]⟩, .string ⟨#[]⟩, .string ⟨#[]⟩, .string ⟨#[]⟩, .string ⟨#[]⟩, .string ⟨#[]⟩, .string ⟨#[]⟩, .string ⟨#[]⟩, .string ⟨#[]⟩, .int .i64 0]), 41, 648) := by kernel_rfl
theorem zeroSer (w : World) : (zeroValue 72).run Tryz.prog w = .ok (.agg #[.string ⟨#[]⟩, .string ⟨#[]⟩, .string ⟨#[]⟩, .string ⟨#[]⟩, .string ⟨#[]⟩, .string ⟨#[]⟩, .string ⟨#[]⟩, .string ⟨#[]⟩, .string ⟨#[]⟩, .string ⟨#[]⟩, .string ⟨#[]⟩, .string ⟨#[]⟩, .string ⟨#[]⟩, .string ⟨#[]⟩, .string ⟨#[]⟩, .string ⟨#[]⟩, .string ⟨#[]⟩, .string ⟨#[]⟩, .string ⟨#[]⟩, .string ⟨#[]⟩, .string ⟨#[]⟩, .string ⟨#[]⟩, .string ⟨#[]⟩, .string ⟨#[]⟩, .string ⟨#[]⟩, .string ⟨#[]⟩, .string ⟨#[]⟩, .string ⟨#[]⟩, .string ⟨#[]⟩, .string ⟨#[]⟩, .string ⟨#[]⟩, .string ⟨#[]⟩, .string ⟨#[]⟩, .string ⟨#[]⟩, .string ⟨#[]⟩, .string ⟨#[]⟩, .string ⟨#[]⟩, .string ⟨#[]⟩, .string ⟨#[]⟩, .string ⟨#[]⟩, .int .i64 0]) w := by kernel_rfl

set_option maxHeartbeats 1000000 in
set_option maxRecDepth 100000 in
theorem deleteSer (base g n cap i : Nat) (xs : List Value) (w : World) (hown : w.ownsRow base 72 41 (.slice (some ⟨g, 0, none⟩) n cap) n xs) (hi : i < n) (hn : n ≤ 1000) (hp : Plain xs) :
    Calls Tryz.prog 66 #[.slice (some ⟨g, 0, none⟩) n cap, .int .i64 i, .int .i64 ((i + 1 : Nat) : Int)] w fun e w' => e = .returned (.slice (some ⟨g, 0, none⟩) (n - 1) cap) ∧
      w'.ownsRow base 72 41 (.slice (some ⟨g, 0, none⟩) (n - 1) cap) (n - 1) (xs.take (i * 41) ++ xs.drop ((i + 1) * 41)) ∧ Ex [g] w w' := by
  obtain ⟨t0, hti, hzz0, hzz1, hzz2⟩ := info_parts infoSer
  have hnc : n ≤ cap ∧ cap ≤ maxLen := by
    rcases hown.2 with ⟨h, _⟩ | ⟨g', cap', cur, h, hbg, hg, hnc, hcm, _⟩
    · cases h
    · cases h; exact ⟨hnc, hcm⟩
  obtain ⟨hnc, hcm⟩ := hnc
  have HO := hide hown
  have hcm' : cap ≤ 9223372036854775807 := hcm
  clear hown hcm
  have h1 : (i : Int) < (n : Int) := by omega
  have h2 : (i : Int) + 1 ≤ (n : Int) := by omega
  have h3 : i ≤ cap := by omega
  have h4 : ((i : Int) + 1).toNat = i + 1 := by omega
  have h5 : i + 1 ≤ n := by omega
  have h6 : (0 : Int) ≤ (i : Int) + 1 := by omega
  by_cases hc : cap = i + 1
  · have hni : n = i + 1 := by omega
    subst hc
    subst hni
    obtain ⟨w1, hr1, ho1, hg1⟩ := run_append_fits (P := Tryz.prog) (w := w.drew) base 92 92 72 t0 41 Tryz.underlying92 hti hzz1 g i (i + 1) _ (own_less HO.out.drew (Nat.le_of_lt hi)) ⟨g, 0, none⟩ 0 0 []
      rfl (fun j u hj => by simp at hj) (fun u hu => by simp at hu) (by omega)
    have hdr : xs.drop ((i + 1) * 41) = [] := List.drop_of_length_le (by rw [HO.out.1]; exact Nat.le_refl _)
    rw [hdr]
    have HO1 := hide ho1
    have HG1 := hide hg1
    clear ho1 hg1 hdr
    simp only [Nat.add_zero] at hr1
    have h10 : (i : Int) ≤ (i : Int) + 1 := by omega
    go_enter Tryz.func66, Tryz.ntmps66
    go_wp2_with fail
    go_region_law (refine step_append_run rfl _ _ 92 rfl (.slice (some ⟨g, 0, none⟩) i (i + 1)) (.slice (some ⟨g, 0, none⟩) 0 0) (by simp [Act.eval, Act.put]) (by simp [Act.eval, Act.put]) hr1 ?_)
    obtain ⟨w2, hr2, ho2, hx2⟩ := run_clear_last (P := Tryz.prog) w1 92 72 0 _ Tryz.underlying92 zeroSer [.string ⟨#[]⟩, .string ⟨#[]⟩, .string ⟨#[]⟩, .string ⟨#[]⟩, .string ⟨#[]⟩, .string ⟨#[]⟩, .string ⟨#[]⟩, .string ⟨#[]⟩, .string ⟨#[]⟩, .string ⟨#[]⟩, .string ⟨#[]⟩, .string ⟨#[]⟩, .string ⟨#[]⟩, .string ⟨#[]⟩, .string ⟨#[]⟩, .string ⟨#[]⟩, .string ⟨#[]⟩, .string ⟨#[]⟩, .string ⟨#[]⟩, .string ⟨#[]⟩, .string ⟨#[]⟩, .string ⟨#[]⟩, .string ⟨#[]⟩, .string ⟨#[]⟩, .string ⟨#[]⟩, .string ⟨#[]⟩, .string ⟨#[]⟩, .string ⟨#[]⟩, .string ⟨#[]⟩, .string ⟨#[]⟩, .string ⟨#[]⟩, .string ⟨#[]⟩, .string ⟨#[]⟩, .string ⟨#[]⟩, .string ⟨#[]⟩, .string ⟨#[]⟩, .string ⟨#[]⟩, .string ⟨#[]⟩, .string ⟨#[]⟩, .string ⟨#[]⟩, .int .i64 0] (by kernel_rfl) (by simp [Value.oneCell']) base 41 g i i (i + 1) 1 _ rfl (by omega) (by omega) HO1.out
    have HO2 := hide ho2
    have HX2 := hide hx2
    clear ho2 hx2 hr1
    go_wp2_with (at_builtin; refine wpList_clear_run _ rfl _ 92 rfl _ rfl hr2 ?_)
    go_ret
    exact ⟨by simp, by simpa using HO2.out, ((Ex.refl _ _).drew.grown HG1.out (fun k hk => by cases hk; exact .inl (by simp))).trans HX2.out⟩
  · obtain ⟨w1, hr1, ho1, hg1⟩ := run_append_fits (P := Tryz.prog) (w := w.drew) base 92 92 72 t0 41 Tryz.underlying92 hti hzz1 g i cap _ (own_less HO.out.drew (Nat.le_of_lt hi)) ⟨g, (i + 1) * 41, none⟩ (n - (i + 1)) (cap - (i + 1)) (xs.drop ((i + 1) * 41))
      (by rw [List.length_drop, HO.out.1]; omega) (fun j u hj => by rw [Addr.add_lit]; exact own_cell HO.out.drew (by rwa [List.getElem?_drop] at hj)) (fun u hu => hp u (List.mem_of_mem_drop hu)) (by omega)
    rw [show i + (n - (i + 1)) = n - 1 by omega] at hr1 ho1
    have HO1 := hide ho1
    have HG1 := hide hg1
    clear ho1 hg1
    go_enter Tryz.func66, Tryz.ntmps66
    go_wp2_with fail
    go_region_law (refine step_append_run rfl _ _ 92 rfl (.slice (some ⟨g, 0, none⟩) i cap) (.slice (some ⟨g, (i + 1) * 41, none⟩) (n - (i + 1)) (cap - (i + 1))) (by simp [Act.eval, Act.put]) (by simp [Act.eval, Act.put]) hr1 ?_)
    obtain ⟨w2, hr2, ho2, hx2⟩ := run_clear_last (P := Tryz.prog) w1 92 72 0 _ Tryz.underlying92 zeroSer [.string ⟨#[]⟩, .string ⟨#[]⟩, .string ⟨#[]⟩, .string ⟨#[]⟩, .string ⟨#[]⟩, .string ⟨#[]⟩, .string ⟨#[]⟩, .string ⟨#[]⟩, .string ⟨#[]⟩, .string ⟨#[]⟩, .string ⟨#[]⟩, .string ⟨#[]⟩, .string ⟨#[]⟩, .string ⟨#[]⟩, .string ⟨#[]⟩, .string ⟨#[]⟩, .string ⟨#[]⟩, .string ⟨#[]⟩, .string ⟨#[]⟩, .string ⟨#[]⟩, .string ⟨#[]⟩, .string ⟨#[]⟩, .string ⟨#[]⟩, .string ⟨#[]⟩, .string ⟨#[]⟩, .string ⟨#[]⟩, .string ⟨#[]⟩, .string ⟨#[]⟩, .string ⟨#[]⟩, .string ⟨#[]⟩, .string ⟨#[]⟩, .string ⟨#[]⟩, .string ⟨#[]⟩, .string ⟨#[]⟩, .string ⟨#[]⟩, .string ⟨#[]⟩, .string ⟨#[]⟩, .string ⟨#[]⟩, .string ⟨#[]⟩, .string ⟨#[]⟩, .int .i64 0] (by kernel_rfl) (by simp [Value.oneCell']) base 41 g (n - 1) (n - 1) cap (cap - (n - 1)) _ rfl (by omega) (by omega) HO1.out
    have HO2 := hide ho2
    have HX2 := hide hx2
    clear ho2 hx2 hr1
    have h7 : n - (n - 1) = 1 := by omega
    have h8 : n - 1 ≤ n := by omega
    have h9 : ¬ cap = n - 1 := by omega
    go_wp2_with (at_builtin; refine wpList_clear_run _ rfl _ 92 rfl _ rfl hr2 ?_)
    go_ret
    exact ⟨rfl, HO2.out, ((Ex.refl _ _).drew.grown HG1.out (fun k hk => by cases hk; exact .inl (by simp))).trans HX2.out⟩
end Go.Proofs.YtmeffeigamaipabGreatDoor
