/- T3 F7 T8 F9 F10 F11, one behind the other. -/
import Derived.Test.YtcbiidoebpkifaaGreatDoorM34
import Derived.Test.YtcbiidoebpkifaaGreatDoorM31
import Derived.Deep.RegionHeld3
import Derived.Test.YtcbiidoebpkifaaGreatDoorM33
import Derived.Test.YtcbiidoebpkifaaGreatDoorM11
set_option linter.unusedVariables false
set_option linter.unusedSimpArgs false
/- What a rule does: rules by what they do to labels, whatever their memory. -/
namespace Go.Proofs.YtcbiidoebpkifaaGreatDoor.G
open Go.RowKit

def GL (w : World) : Prop := Lib.Utf8Tabs 2 3 w ∧ PT w
theorem GL.ex {w w' : World} (h : GL w) (hx : Ex [] w w') : GL w' := ⟨tabs_ex h.1 hx, h.2.ex hx⟩
def KB (lo hi : Nat) (w w1 : World) : Prop := w.heap.size ≤ w1.heap.size ∧ ∀ b, lo ≤ b → b < hi → w1.heap[b]? = w.heap[b]?
theorem KB.refl (lo hi : Nat) (w : World) : KB lo hi w w := ⟨Nat.le_refl _, fun _ _ _ => rfl⟩
theorem KB.trans {lo hi : Nat} {w w1 w2 : World} (h : KB lo hi w w1) (k : KB lo hi w1 w2) : KB lo hi w w2 := ⟨Nat.le_trans h.1 k.1, fun b h1 h2 => (k.2 b h1 h2).trans (h.2 b h1 h2)⟩
theorem KB.ofEx {lo hi : Nat} {w w1 : World} {l : List Nat} (h : Ex l w w1) (hl : ∀ x ∈ l, x < lo ∨ hi ≤ x) (hh : hi ≤ w.heap.size) : KB lo hi w w1 :=
  ⟨h.size, fun b h1 h2 => h.block b (by omega) (fun hm => by rcases hl b hm with e | e <;> omega)⟩
theorem BK.kb {lo hi : Nat} {w w1 : World} {b : Nat} {o : Obj} (h : BK w b o) (hk : KB lo hi w w1) (h1 : lo ≤ b) (h2 : b < hi) : BK w1 b o := (hk.2 b h1 h2).trans h
theorem own_kb {lo hi base size n : Nat} {w w1 : World} {e : TypeId} {v : Value} {xs : List Value} (h : w.ownsRow base e size v n xs) (hk : KB lo hi w w1) (hb : lo ≤ base) (hh : w.heap.size ≤ hi) : w1.ownsRow base e size v n xs := by
  refine ⟨h.1, ?_⟩
  rcases h.2 with hn | ⟨g, cap, cur, rfl, hb', hgg, rest⟩
  · exact .inl hn
  · refine .inr ⟨g, cap, cur, rfl, hb', ?_, rest⟩
    rw [hk.2 g (by omega) (by have := (Array.getElem?_eq_some_iff.1 hgg).1; omega)]
    exact hgg
theorem PG.kb {lo : Nat} {w w1 : World} {q : Nat} {code : List Ins} {ng : Nat} {nm : List (ByteArray × Nat)} (h : PG w q lo code ng nm) (hk : KB lo w.heap.size w w1) : PG w1 q lo code ng nm := by
  obtain ⟨cp, cc, sp, sc, B, mb, hq, hoc, hos, hbh, hbB, hnm, hmb⟩ := h.ex
  refine ⟨Nat.le_trans h.le hk.1, h.ql, cp, cc, sp, sc, B, mb, BK.kb hq hk h.ql hq.lt, own_kb hoc hk (Nat.le_refl _) (Nat.le_refl _), own_kb hos hk (Nat.le_refl _) (Nat.le_refl _), ?_, hbB, BK.kb hnm hk hmb hnm.lt, hmb⟩
  obtain ⟨ca, h1, h2, h3⟩ := hbh.ex
  refine ⟨hbh.lt, ca, BK.kb h1 hk hbB h1.lt, h2, fun i x hi hc h0 => ?_⟩
  obtain ⟨v, hv, ho⟩ := h3 i x hi hc h0
  exact ⟨v, hv, own_kb ho hk (by omega) (Nat.le_refl _)⟩
theorem SS.kb {lo : Nat} {w w1 : World} {v : Value} {ss : List ByteArray} (h : SS w v ss) (hk : KB lo w.heap.size w w1) (hb : ∀ k, v.ownBlock = some k → lo ≤ k) : SS w1 v ss := by
  rcases h with h | ⟨b, c, rfl, hbl, hc⟩
  · exact .inl h
  · refine .inr ⟨b, c, rfl, Nat.lt_of_lt_of_le hbl hk.1, fun j s hj => ?_⟩
    rw [World.cell?_of_block (hk.2 b (hb b rfl) hbl)]
    exact hc j s hj

theorem eb_own {q base size n : Nat} {e : TypeId} {v0 : Value} {xs : List Value} {w w' : World} (hx : Ex (q :: v0.ownBlock.toList) w w') (hq : base ≤ q) (ho : w.ownsRow base e size v0 n xs) (hle : base ≤ w.heap.size) : EB base [] w w' :=
  (EB.ofEx hx hle).mono (Nat.le_refl _) (fun x hm hlt => by
    simp only [List.mem_cons, Option.mem_toList] at hm
    rcases hm with h | h
    · omega
    · have := own_block ho x h; omega)
def Does (lo hi : Nat) (w : World) (fv : Value) (F : List Lab → List Lab × Bool) : Prop :=
  hi ≤ w.heap.size ∧ (∃ f a b, fv = .func f a b) ∧ ∀ w1, KB lo hi w w1 → GL w1 → ∀ q base ls v0, hi ≤ base → base ≤ w1.heap.size → base ≤ q → BK w1 q (.cells #[v0] 143 (0, 0)) → w1.ownsRow base 42 2 v0 ls.length (cellsOfL ls) → v0.ownBlock ≠ some q → LOK ls →
    Calls Tryz.prog 53 #[.agg #[fv], .pointer (some ⟨q, 0, none⟩)] w1 fun x w' => x = .returned (.bool (F ls).2) ∧ LT w' q base (F ls).1 ∧ LOK (F ls).1 ∧ EB base [] w1 w'
theorem Does.kb {lo hi : Nat} {w w1 : World} {fv : Value} {F : List Lab → List Lab × Bool} (h : Does lo hi w fv F) (hk : KB lo hi w w1) : Does lo hi w1 fv F :=
  ⟨Nat.le_trans h.1 hk.1, h.2.1, fun w2 hk2 => h.2.2 w2 (hk.trans hk2)⟩

theorem val_size {ls : List Lab} (h : LOK ls) (t : ByteArray) : (valN ls t).size ≤ 200 := by
  unfold valN
  split
  · split
    · next l hl => exact (h.val l (List.mem_of_getElem? hl)).1
    · exact Nat.zero_le _
  · exact Nat.zero_le _

structure Fit (code : List Ins) (ng : Nat) : Prop where
  ok : CodeOK code
  tk : TakeOK code
  le : code.length ≤ 100000
  pos : 0 < code.length
  ng5 : ng ≤ 5

set_option maxHeartbeats 2000000 in
set_option maxRecDepth 100000 in
theorem patternMatches_any (sv : Value) (hsv : ∃ p n c, sv = .slice p n c) (se : ByteArray) (q lo : Nat) (ta rp : ByteArray) (mo : Int) (code : List Ins) (ng : Nat) (nm : List (ByteArray × Nat)) (hf : Fit code ng) (s : ByteArray) (w : World) (hp : PG w q lo code ng nm) (hg : GL w) (hs : s.size ≤ 9223372036854775807) :
    Calls Tryz.prog 132 #[meansV sv se (.pointer (some ⟨q, 0, none⟩)) ta rp mo, .string s] w fun x w' => x = .returned (.bool (matchM code s).isSome) ∧ Ex [] w w' := by
  obtain ⟨p, n, c, rfl⟩ := hsv
  unfold meansV
  have KM := hide (fun (w' : World) (hx : Ex [] w w') => Match_any q lo code ng nm s w' (hp.ex' hx) hf.ok hf.tk hf.le hf.pos hf.ng5 hs (hg.ex hx).1)
  obtain ⟨m, hm⟩ : ∃ m, m = matchM code s := ⟨_, rfl⟩
  rw [← hm] at KM ⊢
  clear hp hg hm
  go_enter Tryz.func132, Tryz.ntmps132
  go_wp2_with fail
  refine (KM.out _ ((Ex.refl _ _).alloc _)).mono ?_
  rintro e w1 ⟨hpost, hx1⟩
  have HX1 := hide (((Ex.refl [] w).alloc _).trans hx1)
  cases m with
  | none =>
    obtain rfl := hpost
    clear hx1
    go_wp2_with fail
    go_ret
    exact ⟨rfl, HX1.out.alloc _⟩
  | some sl =>
    obtain ⟨v, mb, rfl, ho, _, _⟩ := hpost
    obtain ⟨p2, c2, rfl⟩ := own_slice ho
    unfold foundV
    clear hx1 ho
    go_wp2_with fail
    go_ret
    exact ⟨rfl, HX1.out.alloc _⟩

set_option maxHeartbeats 4000000 in
set_option maxRecDepth 100000 in
theorem matches_any (p : Option Addr) (c : Nat) (ss : List ByteArray) (se : ByteArray) (pq lo : Nat) (ta rp : ByteArray) (mo : Int) (code : List Ins) (ng : Nat) (nm : List (ByteArray × Nat)) (hf : Fit code ng) (q base : Nat) (ls : List Lab) (w : World) (hs : SS w (.slice p ss.length c) ss) (hp : PG w pq lo code ng nm) (hg : GL w) (hq : LT w q base ls) (hok : LOK ls) (hsn : ss.length ≤ 1000) (hse : se.size ≤ 1000) :
    Calls Tryz.prog 104 #[meansV (.slice p ss.length c) se (.pointer (some ⟨pq, 0, none⟩)) ta rp mo, .pointer (some ⟨q, 0, none⟩)] w fun x w' => x = .returned (.bool (matchM code (textN ls ss se)).isSome) ∧ Ex [] w w' := by
  have KT := hide (fun (w' : World) (hx : Ex [] w w') => text_any p c ss se (some ⟨pq, 0, none⟩) ta rp mo q base ls w' (hs.ex0 hx) (hq.exN hx rfl) (by have := hok.len; omega) hsn (fun t => hok.srt.for t) (fun t => by have := val_size hok t; omega) (by omega))
  have hts : (textN ls ss se).size ≤ 9223372036854775807 := by
    have h1 := joinB_size (ss.map (valN ls)) se 200 (fun s hs => by
      simp only [List.mem_map] at hs
      obtain ⟨t, _, rfl⟩ := hs
      exact val_size hok t)
    rw [List.length_map] at h1
    have h2 : ss.length * (200 + se.size) ≤ 1000 * 1200 := Nat.mul_le_mul hsn (by omega)
    unfold textN
    omega
  obtain ⟨tx, htx⟩ : ∃ tx, tx = textN ls ss se := ⟨_, rfl⟩
  rw [← htx] at KT hts ⊢
  obtain ⟨n, hn⟩ : ∃ n, n = ss.length := ⟨_, rfl⟩
  rw [← hn] at KT ⊢
  have KM := hide (fun (w' : World) (hx : Ex [] w w') => patternMatches_any (.slice p n c) ⟨p, n, c, rfl⟩ se pq lo ta rp mo code ng nm hf tx w' (hp.ex' hx) (hg.ex hx) hts)
  unfold meansV at *
  clear hs hp hg hq hok htx hn hts
  go_enter Tryz.func104, Tryz.ntmps104
  go_wp2_with fail
  generalize hw0 : World.alloc w _ = w0
  have hx0 : Ex [] w w0 := by rw [← hw0]; exact (Ex.refl _ _).alloc _
  have hb0 : BK w0 w.heap.size (.cells #[.slice p n c, .string se, .pointer (some ⟨pq, 0, none⟩), .string ta, .string rp, .int .u64 mo] 189 (0, 0)) := by rw [← hw0]; exact BK.new _ _
  have t1 := hb0.all.1
  have HX0 := hide hx0
  have HB0 := hide hb0
  have hl0 := hb0.lt
  clear hw0 hx0 hb0
  go_region_held3 (fun w' => ∀ o, w'.cell? ⟨w.heap.size, o, none⟩ = #[Value.slice p n c, .string se, .pointer (some ⟨pq, 0, none⟩), .string ta, .string rp, .int .u64 mo][o]?)
    (first | exact hb3.all.1 | exact hb2.all.1 | exact t1)
    (first
      | (go_at_call 130; refine (show Calls _ _ _ _ _ from KT.out _ (HX0.out.drew)).mono ?_; rintro e w2 ⟨rfl, hx2⟩; have hb2 := HB0.out.drew.ex hx2 (by simp))
      | (go_at_call 132; refine (show Calls _ _ _ _ _ from KM.out _ ((HX0.out.drew).trans hx2)).mono ?_; rintro e w3 ⟨rfl, hx3⟩; have hb3 := hb2.ex hx3 (by simp)))
  have HX3 := hide ((HX0.out.drew.trans hx2).trans hx3)
  clear hb3 hb2 hx2 hx3 t1
  go_wp2_with fail
  go_ret
  exact ⟨rfl, HX3.out⟩
end Go.Proofs.YtcbiidoebpkifaaGreatDoor.G

/- Contract of rule.Make at an action. -/
namespace Go.Proofs.YtcbiidoebpkifaaGreatDoor
open Go.RowKit

theorem isAction_yes (n : Nat) (w : World) (h : n < 11) :
    Calls Tryz.prog 72 #[.int .i64 n] w fun x w' => x = .returned (.bool true) ∧ w' = w := by
  go_enter Tryz.func72, Tryz.ntmps72
  go_wp2_with fail
  go_ret
  exact ⟨by simp <;> omega, rfl⟩

theorem store_func {w : World} {b : Nat} {t : TypeId} {v0 : Value} (f : Fn) (a c : Array Value) (hb : BK w b (.cells #[v0] t (0, 0))) :
    (store ⟨b, 0, none⟩ (.func f a c)).run Tryz.prog w = .ok () (w.setCell ⟨b, 0, none⟩ (.func f a c)) := by
  obtain ⟨hc, hf⟩ := hb.all
  rw [run_store Tryz.prog w _ (.func f a c) _ rfl]
  simp [hc, hf]

end Go.Proofs.YtcbiidoebpkifaaGreatDoor

/- A series rewritten by rules, whatever they do. -/
namespace Go.Proofs.YtcbiidoebpkifaaGreatDoor.G
open Go.RowKit

def runF : List (List Lab → List Lab × Bool) → List Lab → List Lab × Bool
  | [], ls => (ls, true)
  | F :: Fs, ls => if (F ls).2 then runF Fs (F ls).1 else ([], false)

theorem KB.sub {lo hi l h : Nat} {w w1 : World} (k : KB lo hi w w1) (h1 : lo ≤ l) (h2 : h ≤ hi) : KB l h w w1 := ⟨k.1, fun b e1 e2 => k.2 b (by omega) (by omega)⟩
def Rules (lo hi : Nat) (w : World) (rv : Value) (Fs : List (List Lab → List Lab × Bool)) : Prop :=
  (rv = .slice none 0 0 ∧ Fs = []) ∨ ∃ gb cap, rv = .slice (some ⟨gb, 0, none⟩) Fs.length cap ∧ lo ≤ gb ∧ gb < hi ∧ hi ≤ w.heap.size ∧ ∀ i F, Fs[i]? = some F → ∃ fv l h, w.cell? ⟨gb, i, none⟩ = some fv ∧ lo ≤ l ∧ h ≤ hi ∧ Does l h w fv F
theorem Rules.kb {lo hi : Nat} {w w1 : World} {rv : Value} {Fs : List (List Lab → List Lab × Bool)} (h : Rules lo hi w rv Fs) (hk : KB lo hi w w1) : Rules lo hi w1 rv Fs := by
  rcases h with h | ⟨gb, cap, h1, h2, h3, h4, h5⟩
  · exact .inl h
  · refine .inr ⟨gb, cap, h1, h2, h3, Nat.le_trans h4 hk.1, fun i F hi => ?_⟩
    obtain ⟨fv, l, h, h6, h7, h8, h9⟩ := h5 i F hi
    exact ⟨fv, l, h, (World.cell?_of_block (hk.2 gb h2 h3)).trans h6, h7, h8, h9.kb (hk.sub h7 h8)⟩
theorem Rules.slice {lo hi : Nat} {w : World} {rv : Value} {Fs : List (List Lab → List Lab × Bool)} (h : Rules lo hi w rv Fs) : ∃ p c, rv = .slice p Fs.length c := by
  rcases h with ⟨rfl, rfl⟩ | ⟨gb, cap, rfl, _⟩
  · exact ⟨none, 0, rfl⟩
  · exact ⟨_, _, rfl⟩

set_option maxHeartbeats 4000000 in
set_option maxRecDepth 100000 in
theorem rewrite_any (e : Nat) (rv mp : Value) (lo hi : Nat) (Fs : List (List Lab → List Lab × Bool)) (ls : List Lab) (w : World) (he : BK w e (.cells #[rv, mp] 71 (0, 0))) (hr : Rules lo hi w rv Fs) (hh : hi ≤ w.heap.size) (hg : GL w) (hfn : Fs.length ≤ 1000) (hn : ls.length ≤ 20) (hok : LOK ls) :
    Calls Tryz.prog 26 #[.pointer (some ⟨e, 0, none⟩), serV ls] w fun x w' => ∃ v, x = .returned (ansV v (runF Fs ls).2) ∧ (runF Fs ls).1.length ≤ 60 ∧
      w'.ownsRow w.heap.size 42 2 v (runF Fs ls).1.length (cellsOfL (runF Fs ls).1) ∧ Ex [] w w' := by
  have HE := hide he
  have HRU := hide hr
  have HG := hide hg
  have HOK := hide hok
  have hel := he.lt
  obtain ⟨p, c, rfl⟩ := hr.slice
  obtain ⟨n, hnn⟩ : ∃ n, n = Fs.length := ⟨_, rfl⟩
  have HNN := hide hnn
  have hlen := serC_len hn
  have hser : serV ls = .agg (serC ls).toArray := rfl
  rw [hser]
  clear hser
  obtain ⟨S, hS⟩ : ∃ S, S = serC ls := ⟨_, rfl⟩
  rw [← hS] at hlen ⊢
  have HS := hide hS
  have hisz : (Tryz.prog.info? 74).map (·.size) = some S.length := by rw [hlen]; kernel_rfl
  have HI := hide hisz
  obtain ⟨res, hres0⟩ : ∃ res, res = runF Fs ls := ⟨_, rfl⟩
  have HRS := hide hres0
  rw [← hres0]
  rw [← hnn] at hfn
  clear hS hlen hisz hr hg hok hres0
  have HRG := hide (BK.rangeL (BK.new w (.cells S.toArray 74)))
  have HRG' := hide (World.rangeAt_alloc HRG.out (.cells #[.slice none 0 0, .bool false] 78))
  go_enter Tryz.func26, Tryz.ntmps26
  clear he
  go_wp2_with (first
    | (refine wpList_load_mid rfl 74 _ rfl w.heap.size 0 rfl S _ HRG'.out Tryz.underlying74 rfl HI.out ?_))
  have hlb := serLabels ls ((w.alloc (Obj.cells S.toArray 74)).alloc (Obj.cells #[.slice none 0 0, .bool false] 78)) hn
  unfold serV at hlb
  rw [← unhide HS] at hlb
  refine hlb.mono ?_
  clear hlb
  rintro x w1 ⟨q, v1, rfl, hq1, ho1, hlq, hdj, hx1⟩
  have hx01 : Ex [] w w1 := (((Ex.refl _ _).alloc _).alloc _).trans hx1
  have hres : BK w1 (w.heap.size + 1) (.cells #[.slice none 0 0, .bool false] 78 (0, 0)) := by
    have h1 := BK.new (w.alloc (Obj.cells S.toArray 74)) (Obj.cells #[.slice none 0 0, .bool false] 78)
    simp only [World.size_alloc] at h1
    exact h1.ex hx1 (by simp)
  have he1 := HE.out.ex hx01 (by simp)
  simp only [World.size_alloc] at hlq ho1
  have hz1 := hx1.size
  simp only [World.size_alloc] at hz1
  have HQ1 := hide hq1
  have HO1 := hide ho1
  have HDJ := hide hdj
  have HX01 := hide hx01
  have HRES := hide hres
  have HE1 := hide he1
  rw [← hnn] at he1
  obtain ⟨hce, hfe⟩ := he1.all
  have hel1 := he1.lt
  clear hq1 ho1 hx1 hx01 hres he1 hdj hnn
  go_wp2_with fail
  go_loopg [15] n (fun gk i15 wr => ∃ (j : Nat) (ls' : List Lab), j + gk = n ∧ i15 = .int .i64 j ∧ runF (Fs.drop j) ls' = res ∧ LOK ls' ∧ LT wr q (w.heap.size + 1 + 1) ls' ∧ BK wr (w.heap.size + 1) (.cells #[.slice none 0 0, .bool false] 78 (0, 0)) ∧ w1.heap.size ≤ wr.heap.size ∧ Ex [] w wr)
  case atStart => exact ⟨0, ls, by omega, rfl, HRS.out.symm, HOK.out, ⟨by omega, v1, HQ1.out, HO1.out, fun h => HDJ.out q h rfl⟩, HRES.out, Nat.le_refl _, HX01.out⟩
  case round =>
    obtain ⟨j, ls', hj, rfl, hrun, hlok, hlt, hans, hzr, hx⟩ := hrel
    have HRUN := hide hrun
    have HLOK := hide hlok
    have HLT := hide hlt
    have HANS := hide hans
    have HX := hide hx
    obtain ⟨v0, hb0, ho0, hn0⟩ := hlt.ex
    have HB0 := hide hb0
    have HO0 := hide ho0
    have HN0 := hide hn0
    have hll := hlok.len
    clear hce hfe
    cases gk with
    | zero =>
      obtain rfl : j = n := by omega
      have hrs : res = (ls', true) := by rw [← hrun, HNN.out, List.drop_length]; rfl
      have HRS2 := hide hrs
      have KLL := hide (labList q v0 ls' wr hb0 (own_sl ho0) (by omega))
      clear hrun hlok hlt hans hx hb0 ho0 hn0 hj hrs
      go_wp2_with fail
      refine KLL.out.mono ?_
      rintro x w3 ⟨v3, rfl, ho3, hx3⟩
      have hres3 := HANS.out.ex hx3 (by simp)
      have hz3 := hx3.size
      have HO3 := hide ho3
      have HX3 := hide (HX.out.trans hx3)
      have HR3 := hide hres3
      obtain ⟨p3, c3, rfl⟩ := own_slice ho3
      obtain ⟨hcr, hfr⟩ := hres3.all
      have hrl := hres3.lt
      clear hx3 hres3 ho3
      go_wp2_with fail
      have hb3 := (HR3.out.self 0 (.slice p3 ls'.length c3)).self 1 (.bool true)
      simp only [List.setIfInBounds_toArray, List.set_cons_zero, List.set_cons_succ] at hb3
      have hl3 := run_loadVar_mid (P := Tryz.prog) _ (w.heap.size + 1) 0 78 [.slice p3 ls'.length c3, .bool true] _ hb3.rangeL Tryz.underlying78 rfl (by kernel_rfl)
      rw [HRS2.out]
      refine bodyPost_ret (results_cell1 rfl rfl hl3) rfl ⟨_, rfl, hll, ?_, ?_⟩
      · exact own_base (own_set (own_set HO3.out (by simp; omega) _) (by simp; omega) _) (by omega)
      · exact (HX3.out.setCell (.inr (by simp)) _).setCell (.inr (by simp)) _
    | succ g =>
      have hjl : j < Fs.length := by rw [← HNN.out]; omega
      have hjn : (j : Int) < (n : Int) := by omega
      obtain ⟨F, hF⟩ : ∃ F, Fs[j]? = some F := ⟨_, List.getElem?_eq_getElem hjl⟩
      have hdr : Fs.drop j = F :: Fs.drop (j + 1) := by
        rw [List.drop_eq_getElem_cons hjl]
        rw [List.getElem?_eq_getElem hjl] at hF
        rw [Option.some.inj hF]
      have hkb : KB lo hi w wr := KB.ofEx hx (by simp) hh
      obtain ⟨gb, hpgb, hgbl, fv, l, h, c0, hl1, hh1, hdo⟩ : ∃ gb, p = some ⟨gb, 0, none⟩ ∧ gb < wr.heap.size ∧ ∃ fv l h, wr.cell? ⟨gb, j, none⟩ = some fv ∧ lo ≤ l ∧ h ≤ hi ∧ Does l h w fv F := by
        rcases HRU.out with ⟨_, h2⟩ | ⟨gb, cap, h1, h2, h3, h4, h5⟩
        · rw [h2] at hjl; simp at hjl
        · injection h1 with e1 e2 e3
          obtain ⟨fv, l, h, h6, h7, h8, h9⟩ := h5 j F hF
          exact ⟨gb, e1, by have := hx.size; omega, fv, l, h, (hx.cell0.1 gb j (by omega)).trans h6, h7, h8, h9⟩
      subst hpgb
      obtain ⟨f, fa, fb, rfl⟩ := hdo.2.1
      obtain ⟨w0, hw0⟩ : ∃ w0, w0 = wr.alloc (Obj.cells #[.func f fa fb] 132) := ⟨_, rfl⟩
      have hx0 : Ex [] wr w0 := by rw [hw0]; exact (Ex.refl _ _).alloc _
      have hst := store_func f fa fb (BK.new wr (Obj.cells #[.nilFunc] 132))
      have hwz := hx.size
      have hz0 := hx0.size
      have KA := hide (hdo.2.2 w0 ((hkb.sub hl1 hh1).trans (KB.ofEx hx0 (by simp) (by omega))) ((HG.out.ex hx).ex hx0) q (w.heap.size + 1 + 1) ls' v0 (by omega) (by omega) hlq (hb0.ex hx0 (by simp)) (own_ex ho0 hx0 (by simp)) hn0 hlok)
      obtain ⟨r, hr⟩ : ∃ r, r = F ls' := ⟨_, rfl⟩
      rw [← hr] at KA
      have hrun2 : (if r.2 then runF (Fs.drop (j + 1)) r.1 else ([], false)) = res := by rw [← hrun, hdr, runF, ← hr]
      have HRUN2 := hide hrun2
      have HW0 := hide hw0
      have HX0 := hide hx0
      clear hrun hlok hlt hans hx hb0 ho0 hn0 hF hdr hkb hdo hw0 hx0 hr hrun2
      go_wp2_with fail
      rw [← HW0.out]
      refine KA.out.mono ?_
      rintro x w2 ⟨rfl, hl2, hlok2, hx2⟩
      have hx12 : EB (w.heap.size + 1 + 1) [] wr w2 := (EB.ofEx HX0.out (by omega)).trans hx2
      have hx02 : Ex [] w w2 := ((EB.ofEx (B := w.heap.size) HX.out (Nat.le_refl _)).trans (hx12.mono (by omega) (by simp))).toEx
      have hans2 := HANS.out.eb hx12 (by omega) (by simp)
      have hz2 := hx12.size
      have HL2 := hide hl2
      have HLK2 := hide hlok2
      have HX02 := hide hx02
      have HANS2 := hide hans2
      obtain ⟨hca, hfa'⟩ := hans2.all
      have hal := hans2.lt
      obtain ⟨rl, rb⟩ := r
      dsimp only at HRUN2 HL2 HLK2 ⊢
      clear hl2 hlok2 hx2 hx12 hx02 hans2 c0 hst
      cases rb with
      | false =>
        have hrs : res = ([], false) := by rw [← HRUN2.out]; rfl
        have HRS2 := hide hrs
        clear hrs
        go_wp2_with fail
        have hb3 := (HANS2.out.self 0 (.slice none 0 0)).self 1 (.bool false)
        simp only [List.setIfInBounds_toArray, List.set_cons_zero, List.set_cons_succ] at hb3
        have hl3 := run_loadVar_mid (P := Tryz.prog) _ (w.heap.size + 1) 0 78 [.slice none 0 0, .bool false] _ hb3.rangeL Tryz.underlying78 rfl (by kernel_rfl)
        rw [HRS2.out]
        refine bodyPost_ret (results_cell1 rfl rfl hl3) rfl ⟨_, rfl, by simp, World.ownsRow_nil _ _ _ _, ?_⟩
        exact (HX02.out.setCell (.inr (by simp)) _).setCell (.inr (by simp)) _
      | true =>
        go_wp2_with fail
        go_roundg g
        case measure => omega
        case rel => exact ⟨j + 1, rl, by omega, by simp, by have h1 := HRUN2.out; simpa using h1, HLK2.out, HL2.out, HANS2.out, by omega, HX02.out⟩
end Go.Proofs.YtcbiidoebpkifaaGreatDoor.G

/- Contracts: a rule that raises a text, applied; a series rewritten by it alone. -/
namespace Go.Proofs.YtcbiidoebpkifaaGreatDoor
open Go.RowKit

structure RU (w : World) (base b1 b2 : Nat) (p : Option Addr) (c : Nat) (a1 se : ByteArray) (pp : Option Addr) (ta rp : ByteArray) (mo : Int) : Prop where
  h1 : BK w b1 (.cells #[.slice p 1 c, .string se, .pointer pp, .string ta, .string rp, .int .u64 mo] 189 (0, 0))
  h2 : BK w b2 (.cells #[.func (.func 113) #[] #[]] 145 (0, 0))
  hs : SS w (.slice p 1 c) [a1]
  l1 : b1 < base
  l2 : b2 < base
def upFn (b1 b2 : Nat) : Value := .func (.func 135) #[] #[.pointer (some ⟨b1, 0, none⟩), .pointer (some ⟨b2, 0, none⟩)]
theorem RU.ex0 {w w' : World} {base b1 b2 : Nat} {p : Option Addr} {c : Nat} {a1 se : ByteArray} {pp : Option Addr} {ta rp : ByteArray} {mo : Int} (h : RU w base b1 b2 p c a1 se pp ta rp mo) (hx : Ex [] w w') : RU w' base b1 b2 p c a1 se pp ta rp mo :=
  ⟨h.h1.ex hx (by simp), h.h2.ex hx (by simp), h.hs.ex0 hx, h.l1, h.l2⟩

end Go.Proofs.YtcbiidoebpkifaaGreatDoor

/- Contracts: a series rewritten by one rule that raises a text. -/
namespace Go.Proofs.YtcbiidoebpkifaaGreatDoor
open Go.RowKit

end Go.Proofs.YtcbiidoebpkifaaGreatDoor

/- Contracts of Load: too many rules; one rule that raises a text. -/
namespace Go.Proofs.YtcbiidoebpkifaaGreatDoor
open Go.RowKit

theorem infoRule : (Tryz.prog.info? 132).map (fun i => (i.zero, i.size, i.bytes)) = some (some (.agg #[.nilFunc]), 1, 8) := by kernel_rfl

def DU (lo : Nat) (a1 se ta rp : ByteArray) (mo : Int) (w : World) (fv : Value) : Prop := ∃ b1 b2 p c pp, fv = upFn b1 b2 ∧ RU w w.heap.size b1 b2 p c a1 se pp ta rp mo ∧ lo ≤ b1 ∧ lo ≤ b2 ∧ ∀ k, (Value.slice p 1 c).ownBlock = some k → lo ≤ k
theorem DU.ex {lo : Nat} {a1 se ta rp : ByteArray} {mo : Int} {w w' : World} {fv : Value} {l : List Nat} (h : DU lo a1 se ta rp mo w fv) (hx : Ex l w w') (hl : ∀ b, b ∈ l → b < lo) : DU lo a1 se ta rp mo w' fv := by
  obtain ⟨b1, b2, p, c, pp, rfl, hr, h1, h2, h3⟩ := h
  refine ⟨b1, b2, p, c, pp, rfl, ⟨hr.h1.ex hx (fun hm => by have := hl _ hm; omega), hr.h2.ex hx (fun hm => by have := hl _ hm; omega), hr.hs.ex hx (fun k hk hm => by have := hl _ hm; have := h3 k hk; omega), Nat.lt_of_lt_of_le hr.l1 hx.size, Nat.lt_of_lt_of_le hr.l2 hx.size⟩, h1, h2, h3⟩

theorem MM.bare {R R' : List Value → List Lab → Bool → Prop} {w : World} {m mb base room clk : Nat} (h : MM R w m mb base room [] (.slice none 0 0) #[] clk) : MM R' w m mb w.heap.size room [] (.slice none 0 0) #[] clk :=
  ⟨h.blk, h.map, World.ownsRow_nil _ _ _ _, h.keys, fun e he => by simp at he, fun S hS => by simp at hS, h.nodup, h.len, h.room1, h.room50, h.blk.lt, h.map.lt, h.ne, Nat.le_refl _⟩

end Go.Proofs.YtcbiidoebpkifaaGreatDoor
