/- The pattern reader: names of groups. -/
import Derived.Test.YtmeffeigamaipaaDoorM10
import Derived.Test.YtmeffeigamaipaaDoorM02
import Derived.Maps.Keyed
set_option linter.unusedVariables false
set_option linter.unusedSimpArgs false
namespace Go.Proofs.YtmeffeigamaipaaDoor.G
open Go.RowKit

theorem strKeyed : Maps.Keyed Tryd.prog 9 := Maps.string_keyed Tryd.underlying9
theorem keyOf_str (s : ByteArray) (h : s.size ≤ 60) : ∃ l, keyOf Tryd.prog 9 (.string s) = some l := by
  have : s.size ≤ maxLen := by unfold maxLen; omega
  exact ⟨.string s.data.toList, by simp [keyOf, mapKey, Tryd.underlying9, this]⟩
theorem nmE_keys (l : List (ByteArray × Nat)) : (nmE l).toList.map (·.key) = l.map fun x => .string x.1 := by
  unfold nmE
  rw [List.toList_toArray, List.map_map]
  show List.map (fun x : (ByteArray × Nat) × Nat => Value.string x.1.1) l.zipIdx = _
  have h : l.map (fun x => Value.string x.1) = (l.zipIdx.map Prod.fst).map fun x => Value.string x.1 := by rw [List.zipIdx_map_fst]
  rw [h, List.map_map]; rfl
theorem nmE_keyed {l : List (ByteArray × Nat)} (h : ∀ x ∈ l, x.1.size ≤ 60) : ∀ e ∈ (nmE l).toList, ∃ k, keyOf Tryd.prog 9 e.key = some k := fun e he => by
  have h1 : e.key ∈ l.map fun x => Value.string x.1 := by rw [← nmE_keys]; exact List.mem_map_of_mem he
  obtain ⟨x, hx, hk⟩ := List.mem_map.1 h1
  rw [← hk]
  exact keyOf_str x.1 (h x hx)
theorem nmE_has (l : List (ByteArray × Nat)) (n : ByteArray) : (∃ e ∈ (nmE l).toList, e.key = .string n) ↔ takenM l n = true := by
  unfold takenM
  rw [List.any_eq_true]
  constructor
  · rintro ⟨e, he, hk⟩
    have h1 : e.key ∈ l.map fun x => Value.string x.1 := by rw [← nmE_keys]; exact List.mem_map_of_mem he
    obtain ⟨x, hx, hk'⟩ := List.mem_map.1 h1
    rw [hk] at hk'
    exact ⟨x, hx, by injection hk' with h2; simp [h2]⟩
  · rintro ⟨x, hx, hd⟩
    have h1 : Value.string x.1 ∈ (nmE l).toList.map (·.key) := by rw [nmE_keys]; exact List.mem_map_of_mem hx
    obtain ⟨e, he, hk⟩ := List.mem_map.1 h1
    exact ⟨e, he, by rw [hk, of_decide_eq_true hd]⟩
theorem zeroInt (w : World) : (zeroValue 3).run Tryd.prog w = .ok (.int .i64 0) w := by kernel_rfl
theorem nm_look {w : World} {mb : Nat} {l : List (ByteArray × Nat)} {n : ByteArray} (hm : w.heap[mb]? = some (.map (nmE l) l.length)) (hk : ∀ x ∈ l, x.1.size ≤ 60) (hn : n.size ≤ 60) :
    ∃ v : Int, (Instr.lookup 45 (.map (some mb)) (.string n) true).run Tryd.prog w = .ok (.tuple #[.int .i64 v, .bool (takenM l n)]) w := by
  obtain ⟨kl, hl⟩ := keyOf_str n hn
  have hg := MapKept.run_getObj_map (P := Tryd.prog) hm
  have hc := strKeyed.check w (nmE l).isEmpty hl
  rcases strKeyed.find w hl (nmE l).toList (nmE_keyed hk) with ⟨hf, hno⟩ | ⟨j, e, hf, hj, he⟩
  · have ht : takenM l n = false := by
      rw [Bool.eq_false_iff]
      intro h
      obtain ⟨e, he, hke⟩ := (nmE_has l n).2 h
      exact hno e he hke
    refine ⟨0, ?_⟩
    rw [ht]
    unfold Instr.lookup
    simp [run_underlying Tryd.underlying45, hg, hc, hf, zeroInt]
  · have ht : takenM l n = true := (nmE_has l n).1 ⟨e, List.mem_of_getElem? hj, he⟩
    have hv : ∃ v : Int, e.val = .int .i64 v := by
      have h1 := List.mem_of_getElem? hj
      simp only [nmE, List.toList_toArray, List.mem_map] at h1
      obtain ⟨x, _, rfl⟩ := h1
      exact ⟨_, rfl⟩
    obtain ⟨v, hv⟩ := hv
    refine ⟨v, ?_⟩
    rw [ht]
    unfold Instr.lookup
    simp [hv, run_underlying Tryd.underlying45, hg, hc, hf]
theorem nmE_push (l : List (ByteArray × Nat)) (n : ByteArray) (k : Nat) : (nmE l).push { key := .string n, val := .int .i64 k, born := l.length } = nmE (l ++ [(n, k)]) := by
  unfold nmE
  rw [List.zipIdx_append]
  simp
theorem nm_put {w : World} {mb : Nat} {l : List (ByteArray × Nat)} {n : ByteArray} (k : Nat) (hm : w.heap[mb]? = some (.map (nmE l) l.length)) (hk : ∀ x ∈ l, x.1.size ≤ 60) (hn : n.size ≤ 60) (hno : takenM l n = false) :
    (Instr.mapUpdate 45 (.map (some mb)) (.string n) (.int .i64 k)).run Tryd.prog w = .ok () (putB w mb (.map (nmE (l ++ [(n, k)])) (l ++ [(n, k)]).length)) := by
  obtain ⟨kl, hl⟩ := keyOf_str n hn
  have hg := MapKept.run_getObj_map (P := Tryd.prog) hm
  have hc := strKeyed.check w false hl
  have hf : (Instr.findKey 9 (.string n) (nmE l).toList).run Tryd.prog w = .ok none w := by
    rcases strKeyed.find w hl (nmE l).toList (nmE_keyed hk) with ⟨h, _⟩ | ⟨j, e, _, hj, he⟩
    · exact h
    · have := (nmE_has l n).1 ⟨e, List.mem_of_getElem? hj, he⟩
      rw [hno] at this; cases this
  unfold Instr.mapUpdate
  have hlen : (l ++ [(n, k)]).length = l.length + 1 := by simp
  rw [← nmE_push, hlen]
  simp [run_underlying Tryd.underlying45, hg, hc, hf, MapKept.run_setObj_map _ hm, putB]

theorem RG.c5 {w : World} {r mb : Nat} {t : ByteArray} {x : EV} {s : RS} (h : RG w r mb t x s) : w.cell? ⟨r, 5, none⟩ = some (.map (some mb)) := by
  rw [cell_of_row w r 5 _ 63 (0, 0) h.rd]; rfl
theorem RG.c0 {w : World} {r mb : Nat} {t : ByteArray} {x : EV} {s : RS} (h : RG w r mb t x s) : w.cell? ⟨r, 0, none⟩ = some (.string t) := by
  rw [cell_of_row w r 0 _ 63 (0, 0) h.rd]; rfl
theorem RG.c1 {w : World} {r mb : Nat} {t : ByteArray} {x : EV} {s : RS} (h : RG w r mb t x s) : w.cell? ⟨r, 1, none⟩ = some (.int .i64 s.k) := by
  rw [cell_of_row w r 1 _ 63 (0, 0) h.rd]; rfl
theorem RG.cf {w : World} {r mb : Nat} {t : ByteArray} {x : EV} {s : RS} (h : RG w r mb t x s) (o : Nat) : w.frozen? ⟨r, o, none⟩ = false := by
  have := h.rd; unfold RD at this; simp [World.frozen?, this]

set_option maxHeartbeats 1000000 in
set_option maxRecDepth 100000 in
theorem gTaken {w : World} {r mb : Nat} {t : ByteArray} {x : EV} {s : RS} (h : RG w r mb t x s) (n : ByteArray) (hn : n.size ≤ 60) :
    Calls Tryd.prog 80 #[.pointer (some ⟨r, 0, none⟩), .string n] w fun e w' => e = .returned (.bool (takenM s.nm n)) ∧ w' = w := by
  have hlt := h.lt
  have h5 := h.c5
  obtain ⟨v, hlook⟩ := nm_look h.mp h.nk hn
  clear h
  go_enter Tryd.func80, Tryd.ntmps80
  go_wp2_with fail
  go_ret
  exact ⟨rfl, rfl⟩
end Go.Proofs.YtmeffeigamaipaaDoor.G
