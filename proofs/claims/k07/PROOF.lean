import PyProof.Rows.All
import HandS.ForMost
import HandS.Wide
import HandS.IsInst
import HandS.Zip
import HandS.DictComp
import HandS.SetKeys
import HandS.Flow
import HandS.SortOrd
import HandS.Evl
import HandS.Walk
import PySem.Challenge.RW_joinlags_k07_whole_ways_put_together
import PyProof.ListRange
import HandS.Sort
import HandS.Strs
import KE.SortData
import HandS.TryOnly
import HandS.SortKw
import HandS.TupAny
import KE.DataMinMax
import KE.GoesEnum
import PyProof.Rows.SeqMore
import HandS.Style
import HandS.TupMul
import HandS.Codes
import KE.KRevSl
import HandS.Deep
import KE.KOpsOwn
import HandS.Exc
import HandS.ExcOwn
import HandS.ExcInit
import HandS.WordsExc
import HandS.ExcField
import KE.KExcIs
import KE.KExcInit
import KE.KTryMore
import HandS.OwnEq
set_option Elab.async false
set_option linter.all false
set_option maxRecDepth 100000
set_option maxHeartbeats 4000000
namespace Jl
open PySem PySem.Spec PyProof.Rows L2
open Evl (sz_of sz_lt)
def topS (i : Nat) : Stmt := PySem.Challenge.pw_joinlags_k07_whole_ways_put_together.main.body.getD i (.Pass ⟨0, 0, 0, 0⟩)
abbrev sc_w_box_N : List Str := ["_law_script", "_law_k", "_law_cell"]
abbrev s_w_box : Stmt := topS 12
theorem sc_w_box : FnScope ["_law_script", "_law_k", "_law_cell"] ["_law_script", "_law_k"] (defScope s_w_box) := ⟨rfl, rfl, rfl, by decide +kernel, rfl, by decide +kernel, by decide +kernel⟩
local macro_rules | `(tactic| walk_at "at") => `(tactic| fail)
local macro_rules | `(tactic| walk_at "side") => `(tactic| first
  | (show (0 : Int) < _; decide)
  | (show (0 : Int) < _; omega)
  | exact ⟨by decide, by decide, by decide⟩
  | exact sz_of (Nat.le_of_ble_eq_true rfl)
  | exact rfl
  | exact Or.inl (by decide)
  | exact Or.inr (by decide)
  | exact Or.inr ⟨by omega, by omega⟩
  | exact Or.inl ⟨by omega, by omega⟩
  | exact ⟨by decide, by decide +kernel⟩)
local macro_rules | `(tactic| walk_at "ev1") => `(tactic| first
  | refine ⟨_, rfl, ?_⟩
  | refine ⟨_, _, rfl, rfl, ?_⟩
  | refine ⟨_, _, _, _, rfl, rfl, (by assumption), (by walk_at "at"), ?_⟩
  | refine Or.inl ⟨_, rfl, ?_⟩
  | refine Or.inr ⟨_, rfl, ?_⟩
  | refine ⟨(by walk_at "side"), ?_⟩)
local macro_rules | `(tactic| walk_at "ev") => `(tactic| repeat (walk_at "ev1"))
abbrev sc_w_take_N : List Str := ["_law_box_here", "_law_below", "_law_once", "_law_far", "_law_twice", "_law_drawn"]
abbrev s_w_take : Stmt := topS 13
theorem sc_w_take : FnScope ["_law_box_here", "_law_below", "_law_once", "_law_far", "_law_twice", "_law_drawn"] ["_law_box_here", "_law_below"] (defScope s_w_take) := ⟨rfl, rfl, rfl, by decide +kernel, rfl, by decide +kernel, by decide +kernel⟩
section
variable {P : Program} {w : World} {K : PySem.W.Frag} {mg : Str → Option Value} {base : Heap}
/-! ### the box: three numbers -/
def boxV (c0 c1 c2 : Int) : List V := [.int c0, .int c1, .int c2]
theorem box0 {c0 c1 c2 : Int} : atI (boxV c0 c1 c2) 0 = some (.int c0) := atI_nat (j := 0) rfl
theorem box1 {c0 c1 c2 : Int} : atI (boxV c0 c1 c2) 1 = some (.int c1) := atI_nat (j := 1) rfl
theorem box2 {c0 c1 c2 : Int} : atI (boxV c0 c1 c2) 2 = some (.int c2) := atI_nat (j := 2) rfl
local macro_rules | `(tactic| walk_at "at") => `(tactic| first | exact box0 | exact box1 | exact box2)
/-- _law_box(script, k) -/
def spBox (K : PySem.W.Frag) : Sp := fun vs H Q _ => ∃ (a : Addr) (ns : List Int) (k : Int), vs = [.ref a, .int k] ∧ SqL K H a (ns.map V.int) ∧ 0 ≤ k ∧ k < 100 ∧
  ∀ p c0 c1, H p = none → 0 ≤ c0 → 0 ≤ c1 → c1 < 2 ^ 62 → Q (.ref p) (upd H p (.lst (boxV c0 c1 0)))
theorem ok_box {f : Addr} {fd : FuncData} {k : Nat} (F : Fun K "_law_box" "_law_box" s_w_box f fd) (m_len : mg "len" = none) (m_abs : mg "abs" = none) (m_int : mg "int" = none) : FnOk P w K mg base CX0 (k + 1) f fd ["_law_script", "_law_k"] (spBox K) := by
  refine F.ok sc_w_box (fun vs H Q E h => ?_) (fun cdv A outer s H vs Q E hr h => ?_)
  · obtain ⟨a, ns, k, rfl, _⟩ := h
    rfl
  · obtain ⟨a, ns, j, rfl, hS, j0, j1, q⟩ := h
    refine ⟨_, (pss_cons (ps_set (i := 2) sc_w_box.nd rfl (Or.inl rfl) (pe_ifExp (pt_cmpR op_lt (pv 1) (pe_callB call_len_seq (by rfl) m_len PySem.boot_len (pa_cons (pv 0) pa_nil)) (nomark _)) (pe_ix ix_list (pv 0) (pv 1) (fun _ _ => rfl)) pe_int)) 
    (pss_one (ps_ret (pe_lst (pa_cons (pe_op op_mul (pe_callB call_abs (by rfl) m_abs (by decide +kernel) (pa_cons (pv 2) pa_nil)) (pe_callTy call_int1 (by rfl) m_int (by decide +kernel) (pa_cons (pe_cmpR op_ge (pe_callB call_abs (by rfl) m_abs (by decide +kernel) (pa_cons (pv 2) pa_nil)) (pe_op op_pow pe_int pe_int) (nomark _)) pa_nil))) (pa_cons (pe_op op_add (pe_op op_add (pe_op op_mod (pe_callTy call_int1 (by rfl) m_int (by decide +kernel) (pa_cons (pv 2) pa_nil)) pe_int) (pe_op op_mul pe_int (pv 1))) pe_int) (pa_cons pe_int pa_nil))))))), ?_⟩
    have fin : ∀ (c : Int), 0 ≤ (if c < 0 then -c else c) * (if decide ((10 : Int) ^ (18 : Int).toNat ≤ (if c < 0 then -c else c)) = true then 1 else 0) ∧ 0 ≤ c % 2305843009213693951 + 39373 * j + 307 ∧ c % 2305843009213693951 + 39373 * j + 307 < 2 ^ 62 := fun c => by
      refine ⟨Int.mul_nonneg (by split <;> omega) (by split <;> omega), by omega, by omega⟩
    have h01 : ∀ (b : Bool), -(2 ^ 64) < (if b = true then (1 : Int) else 0) ∧ (if b = true then (1 : Int) else 0) < 2 ^ 64 := fun b => by cases b <;> decide
    refine ⟨_, rfl, .ref a, rfl, a, _, rfl, .inl hS, _, _, rfl, rfl, _, rfl, ite2 (fun e => ?_) (fun e => ?_)⟩
    · have e1 : j < ((ns.map V.int).length : Int) := of_decide_eq_true e
      rw [List.length_map] at e1
      have hj : j.toNat < ns.length := by omega
      have hat : atI (ns.map V.int) j = some (.int ns[j.toNat]) := at_of (j := j.toNat) (by omega) (by rw [List.getElem?_map, List.getElem?_eq_getElem hj]; rfl)
      refine ⟨_, rfl, _, rfl, a, _, _, _, rfl, rfl, hS, hat, ?_⟩
      generalize ns[j.toNat] = c
      walk_at "ev"
      exact fun p hp => q p _ _ hp (fin c).1 (fin c).2.1 (fin c).2.2
    · walk_at "ev"
      exact fun p hp => q p _ _ hp (fin 0).1 (fin 0).2.1 (fin 0).2.2
/-- _law_take(box, below): a drawn number below, the box goes on -/
def spTake (K : PySem.W.Frag) : Sp := fun vs H Q _ => ∃ (b : Addr) (c0 c1 c2 n : Int), vs = [.ref b, .int n] ∧ H b = some (.lst (boxV c0 c1 c2)) ∧ 0 ≤ c0 ∧ 0 ≤ c1 ∧ c1 < 2 ^ 62 ∧ 0 ≤ c2 ∧ c2 < 2 ^ 60 ∧ 1 ≤ n ∧ n.natAbs < 2 ^ 8000 ∧
  ∀ r d0 d2, 0 ≤ r → r < n → 0 ≤ d0 → 0 ≤ d2 → d2 ≤ c2 + 1 → Q (.int r) (upd H b (.lst (boxV d0 c1 d2)))
theorem ok_take {f : Addr} {fd : FuncData} {k : Nat} (F : Fun K "_law_take" "_law_take" s_w_take f fd) (m_int : mg "int" = none) : FnOk P w K mg base CX0 (k + 1) f fd ["_law_box_here", "_law_below"] (spTake K) := by
  refine F.ok sc_w_take (fun vs H Q E h => ?_) (fun cdv A outer s H vs Q E hr h => ?_)
  · obtain ⟨b, c0, c1, c2, n, rfl, _⟩ := h
    rfl
  · obtain ⟨b, c0, c1, c2, n, rfl, hb, c00, c10, c11, c20, c21, n0, n1, q⟩ := h
    refine ⟨_, (pss_cons (ps_if (pt_cmpR op_gt (pe_ix ix_list (pv 0) pe_int (fun _ _ => rfl)) pe_int (nomark _)) 
      (pss_cons (ps_set (i := 5) sc_w_take.nd rfl (Or.inl rfl) (pe_op op_mod (pe_callTy call_int1 (by rfl) m_int (by decide +kernel) (pa_cons (pe_ix ix_list (pv 0) pe_int (fun _ _ => rfl)) pa_nil)) (pv 1))) 
      (pss_cons (ps_asg (pe_op op_fdivW (pe_ix ix_list (pv 0) pe_int (fun _ _ => rfl)) (pv 1)) (pg_sub (pv 0) pe_int set_list)) 
      (pss_one (ps_ret (pv 5))))) pss_nil) 
    (pss_cons (ps_asg (pe_op op_add (pe_ix ix_list (pv 0) pe_int (fun _ _ => rfl)) pe_int) (pg_sub (pv 0) pe_int set_list)) 
    (pss_cons (ps_set (i := 2) sc_w_take.nd rfl (Or.inl rfl) (pe_op op_mod (pe_callTy call_int1 (by rfl) m_int (by decide +kernel) (pa_cons (pe_op op_mul (pe_op op_add (pe_ix ix_list (pv 0) pe_int (fun _ _ => rfl)) (pe_op op_mul pe_int (pe_ix ix_list (pv 0) pe_int (fun _ _ => rfl)))) (pe_op op_add pe_int (pe_ix ix_list (pv 0) pe_int (fun _ _ => rfl)))) pa_nil)) pe_int)) 
    (pss_cons (ps_set (i := 3) sc_w_take.nd rfl (Or.inl rfl) (pe_op op_add (pe_op op_mod (pe_callTy call_int1 (by rfl) m_int (by decide +kernel) (pa_cons (pv 2) pa_nil)) pe_int) pe_int)) 
    (pss_cons (ps_set (i := 4) sc_w_take.nd rfl (Or.inl rfl) (pe_op op_mod (pe_callTy call_int1 (by rfl) m_int (by decide +kernel) (pa_cons (pe_op op_mul (pe_op op_add (pe_op op_add (pv 2) (pe_ix ix_list (pv 0) pe_int (fun _ _ => rfl))) (pe_op op_fdivW (pe_ix ix_list (pv 0) pe_int (fun _ _ => rfl)) pe_int)) (pv 3)) pa_nil)) pe_int)) 
    (pss_one (ps_ret (pe_op op_mod (pe_callTy call_int1 (by rfl) m_int (by decide +kernel) (pa_cons (pe_op op_fdivW (pe_op op_mod (pe_callTy call_int1 (by rfl) m_int (by decide +kernel) (pa_cons (pe_op op_add (pe_op op_mul (pv 4) pe_int) (pv 2)) pa_nil)) pe_int) pe_int) pa_nil)) (pv 1))))))))), ?_⟩
    have hL : SqL K H b (boxV c0 c1 c2) := .inl (.inl hb)
    have small : ∀ j : Int, j = 1000003 ∨ j = 64 → CDivW 0 j := fun j h => by rcases h with h | h <;> (rw [h]; exact ⟨by decide, by decide +kernel⟩)
    walk_at "ev"
    refine ite2 (fun e => ?_) (fun e => ?_)
    · have e1 : 0 < c0 := of_decide_eq_true e
      walk_at "ev"
      refine ⟨wide_div (by omega) n1 (by decide) (by decide), ?_⟩
      walk_at "ev"
      refine ⟨b, _, _, 0, rfl, rfl, hb, rfl, ?_⟩
      refine ⟨_, rfl, ?_⟩
      exact q _ _ _ (Int.emod_nonneg _ (by omega)) (Int.emod_lt_of_pos _ (by omega)) (Int.ediv_nonneg c00 (by omega)) c20 (by omega)
    · walk_at "ev"
      refine ⟨b, _, _, 2, rfl, rfl, hb, rfl, ?_⟩
      have hb2 : (upd H b (.lst (boxV c0 c1 (c2 + 1)))) b = some (.lst (boxV c0 c1 (c2 + 1))) := upd_same
      have hL2 : SqL K (upd H b (.lst (boxV c0 c1 (c2 + 1)))) b (boxV c0 c1 (c2 + 1)) := .inl (.inl hb2)
      have fin : ∀ x : Int, Q (.int (x % n)) (upd H b (.lst (boxV c0 c1 (c2 + 1)))) := fun x => q _ _ _ (Int.emod_nonneg _ (by omega)) (Int.emod_lt_of_pos _ (by omega)) c00 (by omega) (by omega)
      show tSeq _ _ _ _ (upd H b (.lst (boxV c0 c1 (c2 + 1))))
      generalize upd H b (.lst (boxV c0 c1 (c2 + 1))) = H2 at hb2 hL2 fin
      walk_at "ev"
      exact fin _
end
end Jl

set_option Elab.async false
set_option linter.all false
set_option maxRecDepth 100000
set_option maxHeartbeats 4000000
namespace Jl
open PySem PySem.Spec PyProof.Rows L2
open Evl (sz_of sz_lt)
/-! ### heaps without some addresses -/
def cutS (S : List Addr) (H : Hp) : Hp := fun a => if a ∈ S then none else H a
theorem cutS_nil {H : Hp} : cutS [] H = H := by
  funext a
  unfold cutS
  rw [if_neg (List.not_mem_nil)]
theorem cutS_in {S : List Addr} {H : Hp} {a : Addr} (h : a ∈ S) : cutS S H a = none := by
  unfold cutS
  rw [if_pos h]
theorem cutS_out {S : List Addr} {H : Hp} {a : Addr} (h : a ∉ S) : cutS S H a = H a := by
  unfold cutS
  rw [if_neg h]
theorem cutS_some {S : List Addr} {H : Hp} {a : Addr} {o : HO} (h : cutS S H a = some o) : a ∉ S ∧ H a = some o := by
  by_cases q : a ∈ S
  · rw [cutS_in q] at h
    cases h
  · rw [cutS_out q] at h
    exact ⟨q, h⟩
theorem cutS_le {S : List Addr} {H : Hp} : Same (cutS S H) H := fun b o h => (cutS_some h).2
theorem cutS_mono {S : List Addr} {H H' : Hp} (e : Same H H') : Same (cutS S H) (cutS S H') := fun b o h => by
  obtain ⟨h1, h2⟩ := cutS_some h
  rw [cutS_out h1]
  exact e b o h2
theorem cutS_sub {S T : List Addr} {H : Hp} (h : ∀ a ∈ T, a ∈ S) : Same (cutS S H) (cutS T H) := fun b o q => by
  obtain ⟨h1, h2⟩ := cutS_some q
  rw [cutS_out fun z => h1 (h b z)]
  exact h2
theorem cutS_upd {S : List Addr} {H : Hp} {a : Addr} {o : HO} (h : a ∈ S) : cutS S (upd H a o) = cutS S H := by
  funext b
  by_cases q : b ∈ S
  · rw [cutS_in q, cutS_in q]
  · rw [cutS_out q, cutS_out q, upd_ne (fun e => q (by rw [e]; exact h))]
/-- a new object -/
theorem _root_.L2.Same.upd {H : Hp} {p : Addr} {o : HO} (h : H p = none) : Same H (upd H p o) := fun b x e => by
  rw [upd_ne (ne_of_none e h)]
  exact e
theorem _root_.L2.Same.mut {H H' : Hp} {p : Addr} {o : HO} (e : Same H H') (h : H p = none) : Same H (L2.upd H' p o) := fun a u ha => by
  rw [upd_ne (ne_of_none ha h)]
  exact e a u ha
def Trk (S : List Addr) (H : Hp) : Prop := ∀ a ∈ S, H a ≠ none
theorem Trk.nil {H : Hp} : Trk [] H := fun _ h => absurd h List.not_mem_nil
theorem Trk.mono {S : List Addr} {H H' : Hp} (t : Trk S H) (e : Same H H') : Trk S H' := fun a ha z => by
  cases q : H a with
  | none => exact t a ha q
  | some o =>
    rw [e a o q] at z
    cases z
theorem Trk.upd {S : List Addr} {H : Hp} {p : Addr} {o : HO} (t : Trk S H) : Trk S (L2.upd H p o) := fun a ha z => by
  by_cases e : a = p
  · rw [e, upd_same] at z
    cases z
  · rw [upd_ne e] at z
    exact t a ha z
theorem Trk.cons {S : List Addr} {H : Hp} {p : Addr} {o : HO} (t : Trk S H) (h : H p = some o) : Trk (p :: S) H := fun a ha z => by
  rcases List.mem_cons.mp ha with e | e
  · rw [e, h] at z
    cases z
  · exact t a e z
theorem Trk.out {S : List Addr} {H : Hp} {p : Addr} (t : Trk S H) (h : H p = none) : p ∉ S := fun z => t p z h
/-- a new object beside the cut -/
theorem cutS_new {S : List Addr} {H : Hp} {p : Addr} {o : HO} (t : Trk S H) (h : H p = none) : cutS S (L2.upd H p o) p = some o := by
  rw [cutS_out (t.out h), upd_same]
theorem cutS_none {S : List Addr} {H : Hp} {p : Addr} (h : H p = none) : cutS S H p = none := by
  by_cases q : p ∈ S
  · exact cutS_in q
  · rw [cutS_out q, h]
/-- a new object that will change goes into the cut -/
theorem cutS_cons {S : List Addr} {H : Hp} {p : Addr} {o : HO} (h : H p = none) : Same (cutS S H) (cutS (p :: S) (L2.upd H p o)) := fun b u q => by
  obtain ⟨h1, h2⟩ := cutS_some q
  have hb : b ≠ p := ne_of_none h2 h
  rw [cutS_out (fun z => by
    rcases List.mem_cons.mp z with e | e
    · exact hb e
    · exact h1 e), upd_ne hb]
  exact h2
theorem cutS_tail {S : List Addr} {H : Hp} {p : Addr} : Same (cutS (p :: S) H) (cutS S H) := cutS_sub fun _ h => List.mem_cons_of_mem _ h
/-! ### lists and tuples alike (f: a tuple) -/
def SqF (f : Bool) (K : PySem.W.Frag) (H : Hp) (a : Addr) (xs : List V) : Prop := if f = true then SqT K H a xs else SqL K H a xs
def seqO (f : Bool) (xs : List V) : HO := if f = true then .tup xs else .lst xs
def seqD (f : Bool) (ds : List PyData) : PyData := if f = true then .tuple ds else .list ds
theorem _root_.L2.Same.sqL {K : PySem.W.Frag} {H H' : Hp} {a : Addr} {xs : List V} (e : Same H H') (h : SqL K H a xs) : SqL K H' a xs := by
  rcases h with (h | ⟨o, h⟩) | h
  · exact .inl (.inl (e _ _ h))
  · exact .inl (.inr ⟨o, e _ _ h⟩)
  · exact .inr h
theorem _root_.L2.Same.sqT {K : PySem.W.Frag} {H H' : Hp} {a : Addr} {xs : List V} (e : Same H H') (h : SqT K H a xs) : SqT K H' a xs := by
  rcases h with (h | ⟨o, h⟩) | h
  · exact .inl (.inl (e _ _ h))
  · exact .inl (.inr ⟨o, e _ _ h⟩)
  · exact .inr h
theorem _root_.L2.Same.sqF {f : Bool} {K : PySem.W.Frag} {H H' : Hp} {a : Addr} {xs : List V} (e : Same H H') (h : SqF f K H a xs) : SqF f K H' a xs := by
  cases f with
  | true => exact e.sqT h
  | false => exact e.sqL h
theorem SqF.or {f : Bool} {K : PySem.W.Frag} {H : Hp} {a : Addr} {xs : List V} (h : SqF f K H a xs) : SqL K H a xs ∨ SqT K H a xs := by
  cases f with
  | true => exact .inr h
  | false => exact .inl h
theorem SqF.of {f : Bool} {K : PySem.W.Frag} {H : Hp} {a : Addr} {xs : List V} (h : H a = some (seqO f xs)) : SqF f K H a xs := by
  cases f with
  | true => exact .inl (.inl h)
  | false => exact .inl (.inl h)
theorem sql_of {K : PySem.W.Frag} {H : Hp} {a : Addr} {xs : List V} (h : H a = some (.lst xs)) : SqL K H a xs := .inl (.inl h)
theorem sqt_of {K : PySem.W.Frag} {H : Hp} {a : Addr} {xs : List V} (h : H a = some (.tup xs)) : SqT K H a xs := .inl (.inl h)
/-! ### data -/
section
variable {K : PySem.W.Frag} {H H' : Hp}
mutual
theorem dp_mono (e : Same H H') : ∀ (d : PyData) (v : V), Dp K H v d → Dp K H' v d
  | .none, _, h => by cases h; exact .non
  | .bool b, _, h => by cases h; exact .bl b
  | .int i, _, h => by cases h; exact .int i
  | .str x, _, h => by cases h; exact .str x
  | .list ds, _, h => by
    cases h with
    | lst hs ha => exact .lst (e.sqL hs) (dpa_mono e ds _ ha)
  | .tuple ds, _, h => by
    cases h with
    | tup hs ha => exact .tup (e.sqT hs) (dpa_mono e ds _ ha)
  | .dict _, _, h => by cases h
theorem dpa_mono (e : Same H H') : ∀ (ds : List PyData) (vs : List V), DpAll K H vs ds → DpAll K H' vs ds
  | [], _, h => by cases h; exact .nil
  | d :: ds, _, h => by
    cases h with
    | cons h1 h2 => exact .cons (dp_mono e d _ h1) (dpa_mono e ds _ h2)
end
theorem _root_.L2.Same.dp (e : Same H H') {v : V} {d : PyData} (h : Dp K H v d) : Dp K H' v d := dp_mono e d v h
theorem _root_.L2.Same.dpa (e : Same H H') {vs : List V} {ds : List PyData} (h : DpAll K H vs ds) : DpAll K H' vs ds := dpa_mono e ds vs h
theorem dpa_len : ∀ {vs : List V} {ds : List PyData}, DpAll K H vs ds → vs.length = ds.length
  | _, _, .nil => rfl
  | _, _, .cons _ h => by rw [List.length_cons, List.length_cons, dpa_len h]
theorem dpa_get : ∀ {vs : List V} {ds : List PyData} {i : Nat} {v : V}, DpAll K H vs ds → vs[i]? = some v → ∃ d, ds[i]? = some d ∧ Dp K H v d
  | _, _, _, _, .nil, h => by simp at h
  | _, _, 0, v, .cons h1 h2, h => by
    simp at h
    subst h
    exact ⟨_, rfl, h1⟩
  | _, _, i + 1, v, .cons h1 h2, h => by
    obtain ⟨d, e1, e2⟩ := dpa_get (i := i) h2 (by simpa using h)
    exact ⟨d, by simpa using e1, e2⟩
theorem dpa_get' : ∀ {vs : List V} {ds : List PyData} {i : Nat} {d : PyData}, DpAll K H vs ds → ds[i]? = some d → ∃ v, vs[i]? = some v ∧ Dp K H v d
  | _, _, _, _, .nil, h => by simp at h
  | _, _, 0, v, .cons h1 h2, h => by
    simp at h
    subst h
    exact ⟨_, rfl, h1⟩
  | _, _, i + 1, v, .cons h1 h2, h => by
    obtain ⟨d, e1, e2⟩ := dpa_get' (i := i) h2 (by simpa using h)
    exact ⟨d, by simpa using e1, e2⟩
theorem dpa_app : ∀ {vs ws : List V} {ds es : List PyData}, DpAll K H vs ds → DpAll K H ws es → DpAll K H (vs ++ ws) (ds ++ es)
  | _, _, _, _, .nil, h => h
  | _, _, _, _, .cons h1 h2, h => .cons h1 (dpa_app h2 h)
theorem dpa_one {v : V} {d : PyData} (h : Dp K H v d) : DpAll K H [v] [d] := .cons h .nil
theorem Dp.seq {f : Bool} {a : Addr} {xs : List V} {ds : List PyData} (h : SqF f K H a xs) (ha : DpAll K H xs ds) : Dp K H (.ref a) (seqD f ds) := by
  cases f with
  | true => exact .tup h ha
  | false => exact .lst h ha
theorem Dp.seq_of {f : Bool} {v : V} {ds : List PyData} (h : Dp K H v (seqD f ds)) : ∃ a xs, v = .ref a ∧ SqF f K H a xs ∧ DpAll K H xs ds := by
  cases f with
  | true =>
    have h : Dp K H v (.tuple ds) := h
    cases h with
    | tup hs ha => exact ⟨_, _, rfl, hs, ha⟩
  | false =>
    have h : Dp K H v (.list ds) := h
    cases h with
    | lst hs ha => exact ⟨_, _, rfl, hs, ha⟩
theorem dpa_strs : ∀ {xs : List Str}, DpAll K H (xs.map V.str) (xs.map PyData.str)
  | [] => .nil
  | x :: xs => .cons (.str x) dpa_strs
theorem dpa_strs_of : ∀ {vs : List V} {xs : List Str}, DpAll K H vs (xs.map PyData.str) → vs = xs.map V.str
  | _, [], .nil => rfl
  | _, x :: xs, .cons h1 h2 => by
    cases h1
    rw [dpa_strs_of h2]
    rfl
end
/-! ### what is walked, indexed: a list or a tuple -/
section
variable {X : Cx}
theorem pi_or {tg l : Expr} {w1 w2 : TI} (h1 : PI X tg l w1) (h2 : PI X tg l w2) : PI X tg l (fun σ H R => w1 σ H R ∨ w2 σ H R) := ⟨fun pins s σ H R I h => by
  rcases h with h | h
  · exact h1.run pins s σ H R I h
  · exact h2.run pins s σ H R I h⟩
def iSeq (K : PySem.W.Frag) (tl : TE) : TI := fun σ H R => iList K tl σ H R ∨ iTup K tl σ H R
theorem pi_seq {tg l : Expr} {tl : TE} (hl : PE X l tl) : PI X tg l (iSeq X.K tl) := pi_or (pi_list hl) (pi_tup hl)
theorem iSeq_at {K : PySem.W.Frag} {tl : TE} {σ : L2.St} {H H1 : Hp} {R : It → Hp → Prop} {a : Addr} {f : Bool} {xs : List V} (ht : ∀ R' : VK, R' (.ref a) H1 → tl σ H R') (hs : SqF f K H1 a xs)
    (q : ∀ J, Walk J xs.length (fun H => SqF f K H a xs) (YAt xs) → R J H1) : iSeq K tl σ H R := by
  cases f with
  | false => exact .inl (ht _ ⟨a, rfl, ⟨xs, hs⟩, q _ walk_list⟩)
  | true => exact .inr (ht _ ⟨a, rfl, ⟨xs, hs⟩, q _ walk_tup⟩)
def rIxF (K : PySem.W.Frag) : R2 := fun x y H Q => rIxL K x y H Q ∨ rIxT K x y H Q
theorem ix_lt : IxR X (rIxF X.K) := ix_list.or ix_tup
theorem rIxF_at {K : PySem.W.Frag} {f : Bool} {p : Addr} {xs : List V} {i : Int} {v : V} {H : Hp} {Q : VK} (h : SqF f K H p xs) (ha : atI xs i = some v) (q : Q v H) : rIxF K (.ref p) (.int i) H Q := by
  cases f with
  | false => exact .inl ⟨p, xs, i, v, rfl, rfl, h, ha, q⟩
  | true => exact .inr ⟨p, xs, i, v, rfl, rfl, h, ha, q⟩
theorem walk_zipTT {K : PySem.W.Frag} {a b : Addr} {xs ys : List V} (e : xs.length = ys.length) : Walk (RZ.ItzT K a b) xs.length (fun H => SqT K H a xs ∧ SqT K H b ys) (YPair (fun i => xs[i]?) (fun i => ys[i]?)) := by
  refine ⟨fun i _ hi q => ?_, fun _ q => ⟨xs, ys, q.1, q.2, .inl (Nat.le_refl _)⟩, fun i H v H' _ q y => ?_⟩
  · have h2 : i < ys.length := by omega
    exact ⟨xs, ys, xs[i], ys[i], q.1, q.2, by simp [hi], by simp [h2]⟩
  · obtain ⟨T, x, z, h1, h2, h3, h4, h5⟩ := y
    exact ⟨T, x, z, h1, h2, h3, h4 xs q.1, h5 ys q.2⟩
theorem iZip_at {K : PySem.W.Frag} {ta : TA} {σ : L2.St} {H H1 : Hp} {R : It → Hp → Prop} {a b : Addr} {f : Bool} {xs ys : List V} (ht : ∀ R' : List V → Hp → Prop, R' [.ref a, .ref b] H1 → ta σ H R') (h1 : SqF f K H1 a xs) (h2 : SqF f K H1 b ys) (el : xs.length = ys.length)
    (q : ∀ J, Walk J xs.length (fun H => SqF f K H a xs ∧ SqF f K H b ys) (YPair (fun i => xs[i]?) (fun i => ys[i]?)) → R J H1) : RZ.iZipA K ta σ H R := by
  refine ht _ ⟨a, b, xs, ys, rfl, ?_⟩
  cases f with
  | false => exact .inl ⟨h1, h2, q _ (walk_zip (by omega))⟩
  | true => exact .inr ⟨h1, h2, q _ (walk_zipTT el)⟩
/-! ### a loop, a comprehension by a walk -/
inductive ForP (wi : TI) (g : TG) (tb : TS) (D : Ends) (σ : L2.St) (H : Hp) : Prop
  | yes (h : tFor wi g tb D σ H)
  | no (h : False)
def tForX (wi : TI) (g : TG) (tb : TS) : TS := fun D σ H => ForP wi g tb D σ H
theorem ps_forX {st : Stmt} {wi : TI} {g : TG} {tb : TS} (h : PS X st (tFor wi g tb)) : PS X st (tForX wi g tb) := ⟨fun pins s σ H D I q => by
  cases q with
  | yes q => exact h.run pins s σ H D I q
  | no q => exact q.elim⟩
theorem for_of {wi : TI} {g : TG} {tb : TS} {D : Ends} {σ : L2.St} {H : Hp} (q : wi σ H fun J H1 => tFor (fun _ _ R => R J H1) g tb D σ H1) : tForX wi g tb D σ H := .yes q
inductive WhP (t : TT) (tb : TS) (D : Ends) (σ : L2.St) (H : Hp) : Prop
  | yes (h : tWhile t tb D σ H)
  | no (h : False)
def tWhileX (t : TT) (tb : TS) : TS := fun D σ H => WhP t tb D σ H
theorem ps_whileX {st : Stmt} {t : TT} {tb : TS} (h : PS X st (tWhile t tb)) : PS X st (tWhileX t tb) := ⟨fun pins s σ H D I q => by
  cases q with
  | yes q => exact h.run pins s σ H D I q
  | no q => exact q.elim⟩
inductive LcP (wi : TI) (g : TG) (tt : TT) (te : TE) (vs : List Nat) (σ : L2.St) (H : Hp) (Q : VK) : Prop
  | yes (h : tLc wi g tt te vs σ H Q)
  | no (h : False)
def tLcX (wi : TI) (g : TG) (tt : TT) (te : TE) (vs : List Nat) : TE := fun σ H Q => LcP wi g tt te vs σ H Q
theorem pe_lcX {e : Expr} {wi : TI} {g : TG} {tt : TT} {te : TE} {vs : List Nat} (h : PE X e (tLc wi g tt te vs)) : PE X e (tLcX wi g tt te vs) := ⟨fun pins s σ H Q I q => by
  cases q with
  | yes q => exact h.run pins s σ H Q I q
  | no q => exact q.elim⟩
theorem lc_of {wi : TI} {g : TG} {tt : TT} {te : TE} {vs : List Nat} {σ : L2.St} {H : Hp} {Q : VK} (q : tLc wi g tt te vs σ H Q) : tLcX wi g tt te vs σ H Q := .yes q
theorem ps_setLcX {st : Stmt} {i : Nat} {wi : TI} {g : TG} {tt : TT} {te : TE} {vs : List Nat} (h : PS X st (tAsg (tLc wi g tt te vs) (gName i))) : PS X st (tAsg (tLcX wi g tt te vs) (gName i)) := ⟨fun pins s σ H D I q => by
  have q : LcP wi g tt te vs σ H (fun x H1 => gName i x σ H1 D.nx) := q
  cases q with
  | yes q => exact h.run pins s σ H D I q
  | no q => exact q.elim⟩
theorem forR_it {J : It} {n : Nat} {G : Hp → Prop} {Y : Nat → Hp → V → Hp → Prop} (w : Walk J n G Y) {g : TG} {tb : TS} {D : Ends} {σ : L2.St} {H : Hp} (Pv : Nat → L2.St → Hp → Prop) (h0 : Pv 0 σ H) (hG : ∀ i σ H, i ≤ n → Pv i σ H → G H)
    (hs : ∀ i x σ H H', i < n → Pv i σ H → Y i H x H' → g x σ H' fun σ2 H2 => tb { D with nx := Pv (i + 1), ct := Pv (i + 1), bk := D.nx } σ2 H2) (hd : ∀ σ H, Pv n σ H → D.nx σ H) : tFor (fun _ _ R => R J H) g tb D σ H := for_it w Pv h0 hG hs hd
/-! ### isinstance -/
theorem tyx_list {K : PySem.W.Frag} {H : Hp} {a : Addr} {xs : List V} (h : SqL K H a xs) : TyX K H (.ref a) (.type "list") := by
  rcases h with (h | ⟨o, h⟩) | ⟨o, its, n, h, hc, _⟩
  · exact .base (.lst h)
  · exact .base (.frz h)
  · exact .kList h hc
theorem tyx_tup {K : PySem.W.Frag} {H : Hp} {a : Addr} {xs : List V} (h : SqT K H a xs) : TyX K H (.ref a) (.type "tuple") := by
  rcases h with (h | ⟨o, h⟩) | ⟨o, its, n, h, hc, _⟩
  · exact .base (.tup h)
  · exact .fTuple h
  · exact .kTuple h hc
def tyD : PyData → String
  | .none => "NoneType"
  | .bool _ => "bool"
  | .int _ => "int"
  | .str _ => "str"
  | .list _ => "list"
  | .tuple _ => "tuple"
  | .dict _ => "dict"
theorem tyx_dp {K : PySem.W.Frag} {H : Hp} {v : V} {d : PyData} (h : Dp K H v d) : TyX K H v (.type (tyD d)) := by
  cases h with
  | non => exact .base .non
  | bl b => exact .base (.bl b)
  | int i => exact .base (.int i)
  | str x => exact .base (.str x)
  | lst hs _ => exact tyx_list hs
  | tup hs _ => exact tyx_tup hs
/-- isinstance(x, (A, B)) of data -/
theorem isi2 {K : PySem.W.Frag} {H : Hp} {Q : VK} {v : V} {d : PyData} {p : Addr} {A B : String} {r : Bool} (h : Dp K H v d) (hp : H p = some (.tup [.ty A, .ty B])) (hk : ∀ t, t = tyD d → PySem.W.kitAny K (.type t) [.type A, .type B] = some r) (q : Q (.bl r) H) :
    rIsiT K [v, .ref p] H Q := ⟨v, p, _, _, _, r, rfl, hp, .cons (.ty _) (.cons (.ty _) .nil), tyx_dp h, hk _ rfl, q⟩
theorem isi1 {K : PySem.W.Frag} {H : Hp} {Q : VK} {v : V} {d : PyData} {A : String} {r : Bool} (h : Dp K H v d) (hk : ∀ t, t = tyD d → PySem.W.kitOne K (.type t) (.type A) = some r) (q : Q (.bl r) H) :
    rIsi K [v, .ty A] H Q := ⟨v, _, _, _, r, rfl, .ty _, tyx_dp h, hk _ rfl, q⟩
end
end Jl

set_option Elab.async false
set_option linter.all false
set_option maxRecDepth 100000
set_option maxHeartbeats 4000000
set_option pp.maxSteps 900
namespace Jl
open PySem PySem.Spec PyProof.Rows L2
open Evl (sz_of sz_lt)
local macro_rules | `(tactic| walk_at "at") => `(tactic| first | exact box0 | exact box1 | exact box2)
local macro_rules | `(tactic| walk_at "side") => `(tactic| first
  | (show (0 : Int) < _; decide)
  | (show (0 : Int) < _; omega)
  | exact ⟨by decide, by decide, by decide⟩
  | exact sz_of (Nat.le_of_ble_eq_true rfl)
  | exact rfl
  | exact Or.inl (by decide)
  | exact Or.inr (by decide)
  | exact Or.inr ⟨by omega, by omega⟩
  | exact Or.inl ⟨by omega, by omega⟩
  | exact ⟨by decide, by decide +kernel⟩)
local macro_rules | `(tactic| walk_at "ev1") => `(tactic| first
  | refine ⟨_, rfl, ?_⟩
  | refine ⟨_, _, rfl, rfl, ?_⟩
  | refine ⟨_, _, _, _, rfl, rfl, (by assumption), (by walk_at "at"), ?_⟩
  | refine Or.inl ⟨_, rfl, ?_⟩
  | refine Or.inr ⟨_, rfl, ?_⟩
  | refine ⟨(by walk_at "side"), ?_⟩)
local macro_rules | `(tactic| walk_at "ev") => `(tactic| repeat (walk_at "ev1"))

theorem szL {n : Nat} (h : n < 4000001) : n < sizeLine := Nat.lt_of_lt_of_le h (by decide)
/-! ### data of bounded depth and width -/
def okD : Nat → PyData → Prop
  | 0, _ => False
  | n + 1, .list ds => ds.length ≤ 4000000 ∧ ∀ d ∈ ds, okD n d
  | n + 1, .tuple ds => ds.length ≤ 4000000 ∧ ∀ d ∈ ds, okD n d
  | _ + 1, .dict _ => False
  | _ + 1, _ => True
theorem okD_seq {n : Nat} {f : Bool} {ds : List PyData} : okD (n + 1) (seqD f ds) ↔ ds.length ≤ 4000000 ∧ ∀ d ∈ ds, okD n d := by
  cases f <;> exact Iff.rfl
mutual
def listsD : PyData → PyData
  | .list ds => .list (listsA ds)
  | .tuple ds => .list (listsA ds)
  | .none => .none
  | .bool b => .bool b
  | .int i => .int i
  | .str x => .str x
  | .dict k => .dict k
def listsA : List PyData → List PyData
  | [] => []
  | d :: ds => listsD d :: listsA ds
end
theorem listsA_map : ∀ ds : List PyData, listsA ds = ds.map listsD
  | [] => rfl
  | d :: ds => by
    show listsD d :: listsA ds = listsD d :: ds.map listsD
    rw [listsA_map ds]
theorem listsD_seq {f : Bool} {ds : List PyData} : listsD (seqD f ds) = .list (ds.map listsD) := by
  cases f
  · show PyData.list (listsA ds) = _
    rw [listsA_map]
  · show PyData.list (listsA ds) = _
    rw [listsA_map]
theorem fnok_no {P : Program} {w : World} {K : PySem.W.Frag} {mg : Str → Option Value} {base : Heap} {CX : CXT} {k : Nat} {f : Addr} {fd : FuncData} {ps : List Str} : FnOk P w K mg base CX k f fd ps (fun _ _ _ _ => False) := ⟨fun _ _ _ _ h => h.elim, fun _ _ _ _ _ _ _ _ _ _ _ _ _ h => h.elim⟩
/-- an atom, or a row -/
theorem dp_cases {K : PySem.W.Frag} {H : Hp} {v : V} {d : PyData} (h : Dp K H v d) : (∃ f ds, d = seqD f ds) ∨ (PySem.W.kitAny K (.type (tyD d)) [.type "list", .type "tuple"] = some false ∧ listsD d = d) := by
  have no : ∀ s : String, kitB s "list" = some false → kitB s "tuple" = some false → PySem.W.kitAny K (.type s) [.type "list", .type "tuple"] = some false := fun s h1 h2 =>
    kitAny_cons (kit_ty h1) (fun _ => kitAny_cons (kit_ty h2) (fun _ => kitAny_nil) (fun z => nomatch z)) (fun z => nomatch z)
  cases h with
  | non => exact .inr ⟨no "NoneType" (by decide +kernel) (by decide +kernel), rfl⟩
  | bl b => exact .inr ⟨no "bool" (by decide +kernel) (by decide +kernel), rfl⟩
  | int i => exact .inr ⟨no "int" (by decide +kernel) (by decide +kernel), rfl⟩
  | str x => exact .inr ⟨no "str" (by decide +kernel) (by decide +kernel), rfl⟩
  | @lst a xs ds hs _ => exact .inl ⟨false, ds, rfl⟩
  | @tup a xs ds hs _ => exact .inl ⟨true, ds, rfl⟩
theorem kit_seq {K : PySem.W.Frag} {fb : Bool} {ds : List PyData} : PySem.W.kitAny K (.type (tyD (seqD fb ds))) [.type "list", .type "tuple"] = some true := by
  have h1 : PySem.W.kitAny K (.type "list") [.type "list", .type "tuple"] = some true := kitAny_cons (b := true) (kit_ty (by decide +kernel)) (fun z => nomatch z) (fun _ => rfl)
  have h2 : PySem.W.kitAny K (.type "tuple") [.type "list", .type "tuple"] = some true := kitAny_cons (b := false) (kit_ty (by decide +kernel)) (fun _ => kitAny_cons (b := true) (kit_ty (by decide +kernel)) (fun z => nomatch z) (fun _ => rfl)) (fun z => nomatch z)
  cases fb with
  | false => exact h1
  | true => exact h2
/-- a place that was free goes into the cut -/
theorem cutS_into {S : List Addr} {H H' : Hp} {p : Addr} (e : Same H H') (h : H p = none) : Same (cutS S H) (cutS (p :: S) H') := fun b o hb => by
  obtain ⟨h1, h2⟩ := cutS_some hb
  have nb : b ≠ p := ne_of_none h2 h
  rw [cutS_out (fun z => by
    rcases List.mem_cons.mp z with z | z
    · exact nb z
    · exact h1 z)]
  exact e b o h2
/-- a comprehension over data, its element told by a function of data -/
theorem lc_data {K : PySem.W.Frag} {tl te : TE} {j : Nat} {vs : List Nat} {σ : L2.St} {H H0 : Hp} {Q : VK} {a : Addr} {fb : Bool} {xs : List V} {ds : List PyData} {S : List Addr} (g : PyData → PyData)
    (ht : ∀ R' : VK, R' (.ref a) H0 → tl σ H R') (hs : SqF fb K H0 a xs) (ha : DpAll K (cutS S H0) xs ds) (hT : Trk S H0) (hl : ds.length ≤ 4000000)
    (hw : ∀ x, wipe ((wipe σ vs).set j (some x)) vs = wipe σ vs)
    (he : ∀ (x : V) (d : PyData) (H1 : Hp) (T : List Addr), d ∈ ds → Trk T H1 → Dp K (cutS T H1) x d → ∀ Q' : VK, (∀ H2 y, Same H1 H2 → Dp K (cutS T H2) y (g d) → Q' y H2) → te ((wipe σ vs).set j (some x)) H1 Q')
    (q : ∀ D ys H', Same H0 H' → H0 D = none → H' D = some (.lst ys) → DpAll K (cutS S H') ys (ds.map g) → Q (.ref D) H') : tLcX (iSeq K tl) (gName j) tYes te vs σ H Q := by
  have ll := dpa_len ha
  refine lc_of ?_
  refine iSeq_at ht hs fun J w D hD => ?_
  refine lc_it w (fun i H1 => ∃ ys, Same H0 H1 ∧ H1 D = some (.lst ys) ∧ DpAll K (cutS (D :: S) H1) ys ((ds.take i).map g)) ⟨[], .upd hD, upd_same, .nil⟩ (fun i H1 _ p => ?_) (fun i x H1 H1' hi p y => ?_) (fun H1 p => ?_)
  · obtain ⟨ys, e1, _⟩ := p
    exact e1.sqF hs
  · obtain ⟨ys, e1, e2, e3⟩ := p
    obtain ⟨rfl, hx⟩ := y
    obtain ⟨d, hd, hxd⟩ := dpa_get ha hx
    refine ⟨hw x, ?_⟩
    dsimp only [tYes]
    rw [if_pos rfl]
    have s3 : Same (cutS S H0) (cutS (D :: S) H1') := cutS_into e1 hD
    have hxd1 : Dp K (cutS (D :: S) H1') x d := s3.dp hxd
    refine he x d H1' (D :: S) (List.mem_of_getElem? hd) ((hT.mono e1).cons e2) hxd1 _ fun H2 y s2 hy => ?_
    refine ⟨ys, s2 _ _ e2, ?_, ys ++ [y], ?_, upd_same, ?_⟩
    · have := dpa_len e3
      rw [this, List.length_map, List.length_take]
      exact szL (by omega)
    · exact (e1.trans s2).mut hD
    · rw [cutS_upd List.mem_cons_self, List.take_add_one, hd, List.map_append]
      exact dpa_app ((cutS_mono s2).dpa e3) (dpa_one hy)
  · obtain ⟨ys, e1, e2, e3⟩ := p
    refine q D ys H1 e1 hD e2 ?_
    have e4 : (ds.take xs.length).map g = ds.map g := by rw [List.take_of_length_le (by omega)]
    rw [e4] at e3
    exact cutS_tail.dpa e3
end Jl

set_option Elab.async false
set_option linter.all false
set_option maxRecDepth 100000
set_option maxHeartbeats 4000000
set_option pp.maxSteps 900
namespace Jl
open PySem PySem.Spec PyProof.Rows L2
open Evl (sz_of sz_lt)
local macro_rules | `(tactic| walk_at "at") => `(tactic| first | exact box0 | exact box1 | exact box2)
local macro_rules | `(tactic| walk_at "side") => `(tactic| first
  | (show (0 : Int) < _; decide)
  | (show (0 : Int) < _; omega)
  | exact ⟨by decide, by decide, by decide⟩
  | exact sz_of (Nat.le_of_ble_eq_true rfl)
  | exact rfl
  | exact Or.inl (by decide)
  | exact Or.inr (by decide)
  | exact Or.inr ⟨by omega, by omega⟩
  | exact Or.inl ⟨by omega, by omega⟩
  | exact ⟨by decide, by decide +kernel⟩)
local macro_rules | `(tactic| walk_at "ev1") => `(tactic| first
  | refine ⟨_, rfl, ?_⟩
  | refine ⟨_, _, rfl, rfl, ?_⟩
  | refine ⟨_, _, _, _, rfl, rfl, (by assumption), (by walk_at "at"), ?_⟩
  | refine Or.inl ⟨_, rfl, ?_⟩
  | refine Or.inr ⟨_, rfl, ?_⟩
  | refine ⟨(by walk_at "side"), ?_⟩)
local macro_rules | `(tactic| walk_at "nrm") => `(tactic| dsimp only [tNil, tCons, tC, tCB])
local macro_rules | `(tactic| walk_at "ev") => `(tactic| repeat (walk_at "ev1"))

abbrev sc_w_same_N : List Str := ["_law_got", "_law_due", "_law_mine", "_law_its"]
abbrev s_w_same : Stmt := topS 17
theorem sc_w_same : FnScope ["_law_got", "_law_due", "_law_mine", "_law_its"] ["_law_got", "_law_due"] (defScope s_w_same) := ⟨rfl, rfl, rfl, by decide +kernel, rfl, by decide +kernel, by decide +kernel⟩
theorem kit_list {K : PySem.W.Frag} {fb : Bool} {ds : List PyData} : PySem.W.kitOne K (.type (tyD (seqD fb ds))) (.type "list") = some (!fb) := by
  have h1 : PySem.W.kitOne K (.type "list") (.type "list") = some true := kit_ty (by decide +kernel)
  have h2 : PySem.W.kitOne K (.type "tuple") (.type "list") = some false := kit_ty (by decide +kernel)
  cases fb with
  | false => exact h1
  | true => exact h2
theorem kit_tup {K : PySem.W.Frag} {fb : Bool} {ds : List PyData} : PySem.W.kitOne K (.type (tyD (seqD fb ds))) (.type "tuple") = some fb := by
  have h1 : PySem.W.kitOne K (.type "list") (.type "tuple") = some false := kit_ty (by decide +kernel)
  have h2 : PySem.W.kitOne K (.type "tuple") (.type "tuple") = some true := kit_ty (by decide +kernel)
  cases fb with
  | false => exact h1
  | true => exact h2
section
variable {P : Program} {w : World} {K : PySem.W.Frag} {mg : Str → Option Value} {base : Heap}
/-- _law_same(got, due) of equal data -/
def spSame (K : PySem.W.Frag) : Nat → Sp
  | 0 => fun _ _ _ _ => False
  | n + 1 => fun vs H Q _ => ∃ (x y : V) (d : PyData), vs = [x, y] ∧ Dp K H x d ∧ Dp K H y d ∧ okD (n + 1) d ∧ ∀ H', Same H H' → Q (.bl true) H'
theorem ok_same {f : Addr} {fd : FuncData} (F_w_same : Fun K "_law_same" "_law_same" s_w_same f fd) (g_w_same : mg "_law_same" = some (.ref f)) (b_w_same : Binds K fd ["_law_got", "_law_due"] []) (m_isinstance : mg "isinstance" = none) (m_list : mg "list" = none) (m_tuple : mg "tuple" = none)
    (m_bool : mg "bool" = none) (m_str : mg "str" = none) (m_int : mg "int" = none) (m_len : mg "len" = none) (m_all : mg "all" = none) (m_zip : mg "zip" = none) :
    ∀ n : Nat, FnOk P w K mg base CX0 n f fd ["_law_got", "_law_due"] (spSame K n)
  | 0 => fnok_no
  | n + 1 => by
    have G_w_same := ok_same F_w_same g_w_same b_w_same m_isinstance m_list m_tuple m_bool m_str m_int m_len m_all m_zip n
    refine F_w_same.ok sc_w_same (fun vs H Q E h => ?_) (fun cdv A outer s H vs Q E hr h => ?_)
    · obtain ⟨x, y, d, rfl, _⟩ := h
      rfl
    · obtain ⟨x, y, d, rfl, hx, hy, hk, q⟩ := h
      refine ⟨_, (pss_cons (ps_if (pt_val (pe_callB call_isiT (by rfl) m_isinstance (by decide +kernel) (pa_cons (pv 1) (pa_cons (pe_tup (pa_cons (pe_bltn (v := .ty "list") (u := .type "list") (by rfl) m_list (by decide +kernel) rfl) (pa_cons (pe_bltn (v := .ty "tuple") (u := .type "tuple") (by rfl) m_tuple (by decide +kernel) rfl) pa_nil))) pa_nil)))) 
      (pss_cons (ps_if (PW.pt (pw_or (pt_cmpR op_ne (pe_callB call_isi (by rfl) m_isinstance (by decide +kernel) (pa_cons (pv 0) (pa_cons (pe_bltn (v := .ty "list") (u := .type "list") (by rfl) m_list (by decide +kernel) rfl) pa_nil))) (pe_callB call_isi (by rfl) m_isinstance (by decide +kernel) (pa_cons (pv 1) (pa_cons (pe_bltn (v := .ty "list") (u := .type "list") (by rfl) m_list (by decide +kernel) rfl) pa_nil))) (nomark _)) (pw_or1 (pt_cmpR op_ne (pe_callB call_isi (by rfl) m_isinstance (by decide +kernel) (pa_cons (pv 0) (pa_cons (pe_bltn (v := .ty "tuple") (u := .type "tuple") (by rfl) m_tuple (by decide +kernel) rfl) pa_nil))) (pe_callB call_isi (by rfl) m_isinstance (by decide +kernel) (pa_cons (pv 1) (pa_cons (pe_bltn (v := .ty "tuple") (u := .type "tuple") (by rfl) m_tuple (by decide +kernel) rfl) pa_nil))) (nomark _))))) (pss_one (ps_ret pe_bl)) pss_nil) 
      (pss_one (ps_ret (pe_and (pe_cmpR op_eq (pe_callB call_len_seq (by rfl) m_len PySem.boot_len (pa_cons (pv 0) pa_nil)) (pe_callB call_len_seq (by rfl) m_len PySem.boot_len (pa_cons (pv 1) pa_nil)) (nomark _)) (pe_one (pe_callB (cr_all rfl) (by rfl) m_all (by decide +kernel) (pa_cons (pe_lcX (pe_lc (own := [("_law_mine", 2), ("_law_its", 3)]) (g := gTup K 2 (gCons (gName 2) (gCons (gName 3) gNil))) (tt := tYes) (by rfl) sc_w_same.nd (RZ.pi_zipA (by rfl) m_zip (pa_cons (pv 0) (pa_cons (pv 1) pa_nil))) (blkOk_by (own := [("_law_mine", 2), ("_law_its", 3)]) (N := sc_w_same_N) (sc := defScope s_w_same) (by decide +kernel)) (fun _ _ _ _ _ => pg_tup rfl (pgs_cons (pg_name (i := 2) sc_w_same.nd rfl (Or.inl rfl)) (pgs_cons (pg_name (i := 3) sc_w_same.nd rfl (Or.inl rfl)) pgs_nil))) (fun _ _ _ _ _ => pts_nil) (fun _ _ _ _ _ => (pe_call G_w_same hr (by rfl) g_w_same F_w_same.kp b_w_same .nil pass0 (pa_cons (pv 2) (pa_cons (pv 3) pa_nil)))))) pa_nil))))))) pss_nil) 
    (pss_cons (ps_if (PW.pt (pw_or (pt_cmpR op_isN (pv 1) pe_non (nomark _)) (pw_or1 (pt_val (pe_callB call_isiT (by rfl) m_isinstance (by decide +kernel) (pa_cons (pv 1) (pa_cons (pe_tup (pa_cons (pe_bltn (v := .ty "bool") (u := .type "bool") (by rfl) m_bool (by decide +kernel) rfl) (pa_cons (pe_bltn (v := .ty "str") (u := .type "str") (by rfl) m_str (by decide +kernel) rfl) pa_nil))) pa_nil))))))) (pss_one (ps_ret (pe_and (pe_cmpR op_eq (pv 0) (pv 1) (nomark _)) (pe_and (pe_cmpR op_eq (pe_callB call_isi (by rfl) m_isinstance (by decide +kernel) (pa_cons (pv 0) (pa_cons (pe_bltn (v := .ty "bool") (u := .type "bool") (by rfl) m_bool (by decide +kernel) rfl) pa_nil))) (pe_callB call_isi (by rfl) m_isinstance (by decide +kernel) (pa_cons (pv 1) (pa_cons (pe_bltn (v := .ty "bool") (u := .type "bool") (by rfl) m_bool (by decide +kernel) rfl) pa_nil))) (nomark _)) (pe_one (pe_cmpR op_eq (pe_cmpR op_isN (pv 0) pe_non (nomark _)) (pe_cmpR op_isN (pv 1) pe_non (nomark _)) (nomark _))))))) pss_nil) 
    (pss_one (ps_ret (pe_and (pe_callB call_isi (by rfl) m_isinstance (by decide +kernel) (pa_cons (pv 0) (pa_cons (pe_bltn (v := .ty "int") (u := .type "int") (by rfl) m_int (by decide +kernel) rfl) pa_nil))) (pe_and (pe_not (pe_callB call_isi (by rfl) m_isinstance (by decide +kernel) (pa_cons (pv 0) (pa_cons (pe_bltn (v := .ty "bool") (u := .type "bool") (by rfl) m_bool (by decide +kernel) rfl) pa_nil)))) (pe_one (pe_cmpR op_eq (pv 0) (pv 1) (nomark _))))))))), ?_⟩
      walk_at "ev"
      intro p hp
      have e1 : Same H (upd H p (.tup [.ty "list", .ty "tuple"])) := .upd hp
      have hp1 : (upd H p (.tup [.ty "list", .ty "tuple"])) p = some (.tup [.ty "list", .ty "tuple"]) := upd_same
      walk_at "nrm"
      generalize upd H p (.tup [.ty "list", .ty "tuple"]) = H1 at e1 hp1
      have hx1 := e1.dp hx
      have hy1 := e1.dp hy
      rcases dp_cases hy with ⟨fb, ds, rfl⟩ | ⟨hk0, hl⟩
      · refine isi2 hy1 hp1 (fun t e => by rw [e]; exact kit_seq) ?_
        refine ⟨_, rfl, iteT ?_⟩
        walk_at "ev"
        walk_at "nrm"
        refine isi1 hx1 (fun t e => by rw [e]; exact kit_list) ?_
        walk_at "ev"
        walk_at "nrm"
        refine isi1 hy1 (fun t e => by rw [e]; exact kit_list) ?_
        walk_at "ev"
        refine iteNS rfl ?_
        walk_at "ev"
        walk_at "nrm"
        refine isi1 hx1 (fun t e => by rw [e]; exact kit_tup) ?_
        walk_at "ev"
        walk_at "nrm"
        refine isi1 hy1 (fun t e => by rw [e]; exact kit_tup) ?_
        walk_at "ev"
        refine iteNS rfl ?_
        obtain ⟨a, xs, rfl, ha, hax⟩ := Dp.seq_of hx1
        obtain ⟨b, ys, rfl, hb, hby⟩ := Dp.seq_of hy1
        have lx := dpa_len hax
        have ly := dpa_len hby
        refine ⟨_, rfl, a, xs, rfl, ha.or, _, rfl, b, ys, rfl, hb.or, rfl, _, rfl, ?_⟩
        have el : V.int (xs.length : Nat) = V.int (ys.length : Nat) := by rw [lx, ly]
        rw [decide_eq_true el]
        refine iteT ?_
        obtain ⟨hk1, hk2⟩ := okD_seq.mp hk
        walk_at "nrm"
        refine lc_of ?_
        refine iZip_at (fun R' r => ⟨_, rfl, _, rfl, r⟩) ha hb (by omega) fun J w D hD => ?_
        refine lc_it w (fun i H2 => Same H1 H2 ∧ H2 D = some (.lst (List.replicate i (.bl true)))) ⟨.upd hD, upd_same⟩ (fun i H2 _ p => ⟨p.1.sqF ha, p.1.sqF hb⟩) (fun i v H2 H2' hi p yy => ?_) (fun H2 p => ?_)
        · obtain ⟨s1, hl⟩ := p
          obtain ⟨T, x1, x2, rfl, hTn, rfl, g1, g2⟩ := yy
          obtain ⟨d, hd, hd1⟩ := dpa_get hax g1
          obtain ⟨d', hd', hd2⟩ := dpa_get hby g2
          cases Option.some.inj (hd.symm.trans hd')
          have s2 : Same H1 (upd H2 T (.tup [x1, x2])) := s1.trans (.upd hTn)
          have hkd := hk2 d (List.mem_of_getElem? hd)
          refine ⟨T, [x1, x2], rfl, .inl (.inl upd_same), rfl, x1, [x2], rfl, x2, [], rfl, rfl, rfl, ?_⟩
          dsimp only [tYes]
          rw [if_pos rfl]
          refine ⟨_, rfl, _, rfl, ?_⟩
          cases n with
          | zero => exact hkd.elim
          | succ n =>
            refine ⟨x1, x2, d, rfl, s2.dp hd1, s2.dp hd2, hkd, fun H3 s3 => ⟨_, s3 _ _ ((Same.upd hTn) _ _ hl), ?_, s2.trans s3 |>.mut hD, ?_⟩⟩
            · rw [List.length_replicate]
              exact szL (by omega)
            · rw [upd_same, List.replicate_succ']
        · obtain ⟨s1, hl⟩ := p
          refine ⟨D, List.replicate xs.length true, rfl, sql_of (by rw [List.map_replicate]; exact hl), ?_⟩
          have e : (List.replicate xs.length true).all id = true := by
            rw [List.all_eq_true]
            intro z hz
            rw [List.eq_of_mem_replicate hz]
            rfl
          rw [e]
          exact q _ (e1.trans s1)
      · refine isi2 hy1 hp1 (fun t e => by rw [e]; exact hk0) ?_
        refine ⟨_, rfl, iteF ?_⟩
        cases hx with
        | non => 
          cases hy
          walk_at "ev"
          walk_at "nrm"
          refine isi1 (r := false) hx1 (fun t e => by rw [e]; exact kit_ty (a := "NoneType") (b := "bool") (by decide +kernel)) ?_
          walk_at "ev"
          walk_at "nrm"
          refine isi1 (r := false) hy1 (fun t e => by rw [e]; exact kit_ty (a := "NoneType") (b := "bool") (by decide +kernel)) ?_
          walk_at "ev"
          exact q _ e1
        | bl c => 
          cases hy
          walk_at "ev"
          intro p2 hp2
          have e2 : Same H1 (upd H1 p2 (.tup [.ty "bool", .ty "str"])) := .upd hp2
          have hp3 : (upd H1 p2 (.tup [.ty "bool", .ty "str"])) p2 = some (.tup [.ty "bool", .ty "str"]) := upd_same
          walk_at "nrm"
          refine isi2 (r := true) (e2.dp hy1) hp3 (fun t e => by rw [e]; exact kitAny_cons (kit_ty (a := "bool") (b := "bool") (r := true) (by decide +kernel)) (fun z => nomatch z) (fun _ => rfl)) ?_
          walk_at "ev"
          rw [if_pos (decide_eq_true rfl)]
          walk_at "ev"
          walk_at "nrm"
          refine isi1 (r := true) (e2.dp hx1) (fun t e => by rw [e]; exact kit_ty (a := "bool") (b := "bool") (by decide +kernel)) ?_
          walk_at "ev"
          walk_at "nrm"
          refine isi1 (r := true) (e2.dp hy1) (fun t e => by rw [e]; exact kit_ty (a := "bool") (b := "bool") (by decide +kernel)) ?_
          walk_at "ev"
          exact q _ (e1.trans e2)
        | str c => 
          cases hy
          walk_at "ev"
          intro p2 hp2
          have e2 : Same H1 (upd H1 p2 (.tup [.ty "bool", .ty "str"])) := .upd hp2
          have hp3 : (upd H1 p2 (.tup [.ty "bool", .ty "str"])) p2 = some (.tup [.ty "bool", .ty "str"]) := upd_same
          walk_at "nrm"
          refine isi2 (r := true) (e2.dp hy1) hp3 (fun t e => by rw [e]; exact kitAny_cons (kit_ty (a := "str") (b := "bool") (r := false) (by decide +kernel)) (fun _ => kitAny_cons (kit_ty (a := "str") (b := "str") (r := true) (by decide +kernel)) (fun z => nomatch z) (fun _ => rfl)) (fun z => nomatch z)) ?_
          walk_at "ev"
          rw [if_pos (decide_eq_true rfl)]
          walk_at "ev"
          walk_at "nrm"
          refine isi1 (r := false) (e2.dp hx1) (fun t e => by rw [e]; exact kit_ty (a := "str") (b := "bool") (by decide +kernel)) ?_
          walk_at "ev"
          walk_at "nrm"
          refine isi1 (r := false) (e2.dp hy1) (fun t e => by rw [e]; exact kit_ty (a := "str") (b := "bool") (by decide +kernel)) ?_
          walk_at "ev"
          exact q _ (e1.trans e2)
        | int c => 
          cases hy
          walk_at "ev"
          intro p2 hp2
          have e2 : Same H1 (upd H1 p2 (.tup [.ty "bool", .ty "str"])) := .upd hp2
          have hp3 : (upd H1 p2 (.tup [.ty "bool", .ty "str"])) p2 = some (.tup [.ty "bool", .ty "str"]) := upd_same
          walk_at "nrm"
          refine isi2 (r := false) (e2.dp hy1) hp3 (fun t e => by rw [e]; exact kitAny_cons (kit_ty (a := "int") (b := "bool") (r := false) (by decide +kernel)) (fun _ => kitAny_cons (kit_ty (a := "int") (b := "str") (r := false) (by decide +kernel)) (fun _ => kitAny_nil) (fun z => nomatch z)) (fun z => nomatch z)) ?_
          walk_at "ev"
          walk_at "nrm"
          refine isi1 (r := true) (e2.dp hx1) (fun t e => by rw [e]; exact kit_ty (a := "int") (b := "int") (by decide +kernel)) ?_
          walk_at "ev"
          walk_at "nrm"
          refine isi1 (r := false) (e2.dp hx1) (fun t e => by rw [e]; exact kit_ty (a := "int") (b := "bool") (by decide +kernel)) ?_
          walk_at "ev"
          rw [decide_eq_true rfl]
          exact q _ (e1.trans e2)
        | @lst a xs ds hs _ => cases (hk0.symm.trans (kit_seq (fb := false) (ds := ds)))
        | @tup a xs ds hs _ => cases (hk0.symm.trans (kit_seq (fb := true) (ds := ds)))
end
end Jl

set_option Elab.async false
set_option linter.all false
set_option maxRecDepth 100000
set_option maxHeartbeats 4000000
set_option pp.maxSteps 900
namespace Jl
open PySem PySem.Spec PyProof.Rows L2
open Evl (sz_of sz_lt)
local macro_rules | `(tactic| walk_at "at") => `(tactic| first | exact box0 | exact box1 | exact box2)
local macro_rules | `(tactic| walk_at "side") => `(tactic| first
  | (show (0 : Int) < _; decide)
  | (show (0 : Int) < _; omega)
  | exact ⟨by decide, by decide, by decide⟩
  | exact sz_of (Nat.le_of_ble_eq_true rfl)
  | exact rfl
  | exact Or.inl (by decide)
  | exact Or.inr (by decide)
  | exact Or.inr ⟨by omega, by omega⟩
  | exact Or.inl ⟨by omega, by omega⟩
  | exact ⟨by decide, by decide +kernel⟩)
local macro_rules | `(tactic| walk_at "ev1") => `(tactic| first
  | refine ⟨_, rfl, ?_⟩
  | refine ⟨_, _, rfl, rfl, ?_⟩
  | refine ⟨_, _, _, _, rfl, rfl, (by assumption), (by walk_at "at"), ?_⟩
  | refine ⟨_, _, rfl, (by assumption), ?_⟩
  | refine ⟨_, _, rfl, Or.inl (by assumption), ?_⟩
  | refine ⟨_, _, rfl, Or.inr (by assumption), ?_⟩
  | refine Or.inl ⟨_, rfl, ?_⟩
  | refine Or.inr ⟨_, rfl, ?_⟩
  | refine ⟨(by walk_at "side"), ?_⟩)
local macro_rules | `(tactic| walk_at "nrm") => `(tactic| dsimp only [tNil, tCons, tC, tCB])
local macro_rules | `(tactic| walk_at "ev") => `(tactic| repeat (walk_at "ev1"))

abbrev sc_w_cells_N : List Str := ["_law_script", "_law_most", "_law_cells_here", "_law_k", "_law_cell", "_law_at_so"]
abbrev s_w_cells : Stmt := topS 14
theorem sc_w_cells : FnScope ["_law_script", "_law_most", "_law_cells_here", "_law_k", "_law_cell", "_law_at_so"] ["_law_script", "_law_most"] (defScope s_w_cells) := ⟨rfl, rfl, rfl, by decide +kernel, rfl, by decide +kernel, by decide +kernel⟩
theorem ixN_nat {n j : Nat} (h : j < n) : ixN n (j : Int) = some j := by
  unfold ixN
  rw [if_pos (by omega), if_pos (by omega)]
  simp
theorem cutV_int {ns : List Int} {lo hi : Option Int} : cutV (ns.map V.int) lo hi = ((ns.drop (HT.sIx ns.length 0 lo)).take (HT.sIx ns.length ns.length hi - HT.sIx ns.length 0 lo)).map V.int := by
  unfold cutV
  rw [List.length_map, List.map_take, List.map_drop]
section
variable {P : Program} {w : World} {K : PySem.W.Frag} {mg : Str → Option Value} {base : Heap}
/-- _law_cells(script, most): a new list of at most so many numbers -/
def spCells (K : PySem.W.Frag) : Sp := fun vs H Q _ => ∃ (a : Addr) (ns : List Int) (m : Nat), vs = [.ref a, .int (m : Int)] ∧ SqL K H a (ns.map V.int) ∧ ns.length ≤ 63 ∧ 1 ≤ m ∧ m ≤ 60 ∧
  ∀ (H' : Hp) (p : Addr) (cs : List Int), Same H H' → H p = none → H' p = some (.lst (cs.map V.int)) → cs.length ≤ m → Q (.ref p) H'
theorem ok_cells {f : Addr} {fd : FuncData} {k : Nat} (F : Fun K "_law_cells" "_law_cells" s_w_cells f fd) (m_int : mg "int" = none) (m_list : mg "list" = none) (m_enumerate : mg "enumerate" = none) : FnOk P w K mg base CX0 (k + 1) f fd ["_law_script", "_law_most"] (spCells K) := by
  refine F.ok sc_w_cells (fun vs H Q E h => ?_) (fun cdv A outer s H vs Q E hr h => ?_)
  · obtain ⟨a, ns, m, rfl, _⟩ := h
    rfl
  · obtain ⟨a, ns, m, rfl, hS, hn, m1, m2, q⟩ := h
    refine ⟨_, (Evl.pss_cut (ps_set (i := 2) sc_w_cells.nd rfl (Or.inl rfl) (pe_orT (pe_callTy call_list_of (by rfl) m_list (by decide +kernel) (pa_cons (pe_slice sl_list (pv 0) po_none (po_some (pv 1))) pa_nil)) (pe_one (pe_lst (pa_cons pe_int pa_nil))))) 
    (pss_cons (ps_forX (ps_for PassesOwn.never rfl (pi_enum (by rfl) m_enumerate (pa_cons (pe_slice sl_list (pv 0) (po_some (pv 1)) (po_some pe_int)) pa_nil)) (pg_tup rfl (pgs_cons (pg_name (i := 3) sc_w_cells.nd rfl (Or.inl rfl)) (pgs_cons (pg_name (i := 4) sc_w_cells.nd rfl (Or.inl rfl)) pgs_nil))) 
      (pss_cons (ps_set (i := 5) sc_w_cells.nd rfl (Or.inl rfl) (pe_op op_mod (pe_callTy call_int1 (by rfl) m_int (by decide +kernel) (pa_cons (pv 3) pa_nil)) (pv 1))) 
      (pss_one (ps_asg (pe_op op_add (pe_ix ix_list (pv 2) (pv 5) (fun _ _ => rfl)) (pe_op op_mul (pv 4) (pe_op op_add (pv 3) pe_int))) (pg_sub (pv 2) (pv 5) set_list)))))) 
    (pss_one (ps_ret (pv 2))))), ?_⟩
    refine ⟨fun σ1 H1 => ∃ (p : Addr) (c0 : List Int), σ1 = [some (.ref a), some (.int (m : Int)), some (.ref p), none, none, none] ∧ Same H H1 ∧ H p = none ∧ H1 p = some (.lst (c0.map V.int)) ∧ c0.length ≤ m ∧ (m < ns.length → c0.length = m), ?_, ?_⟩
    · walk_at "ev"
      intro p hp
      rw [cutV_int, show HT.sIx ns.length 0 none = 0 from HT.sIx_none _ _, show HT.sIx ns.length ns.length (some (m : Int)) = min m ns.length from HT.sIx_nat _ _ _, Nat.sub_zero, List.drop_zero]
      walk_at "nrm"
      have s1 : Same H (upd H p (.lst ((ns.take (min m ns.length)).map V.int))) := .upd hp
      refine ⟨p, _, rfl, .inl (sql_of upd_same), fun l hl => ?_⟩
      have s2 := s1.trans (Same.upd (o := .lst ((ns.take (min m ns.length)).map V.int)) hl)
      refine ⟨_, .inl ⟨_, sql_of upd_same, rfl⟩, ite2 (fun e => ?_) (fun e => ?_)⟩
      · refine ⟨l, _, rfl, s2, s1.free hl, upd_same, ?_, fun h => ?_⟩
        · rw [List.length_take]
          omega
        · rw [List.length_take]
          omega
      · walk_at "ev"
        intro r hr
        refine ⟨r, [0], rfl, s2.trans (.upd hr), s2.free hr, upd_same, by simp; omega, fun h => (e ?_).elim⟩
        have : (ns.take (min m ns.length)).length ≠ 0 := by
          rw [List.length_take]
          omega
        cases hq : ns.take (min m ns.length) with
        | nil => rw [hq] at this; exact (this rfl).elim
        | cons => rfl
    · rintro σ1 H1 ⟨p, c0, rfl, s1, hp, hp1, hc0, hc1⟩
      have hS1 : SqL K H1 a (ns.map V.int) := s1.sqL hS
      refine for_of ?_
      walk_at "ev"
      intro p3 hp3
      rw [cutV_int]
      generalize hms : List.take _ (List.drop _ ns) = ms
      have hlen : ms.length ≤ ns.length - m := by
        rw [← hms, List.length_take, List.length_drop, show HT.sIx ns.length 0 (some (m : Int)) = min m ns.length from HT.sIx_nat _ _ _]
        omega
      have s3 : Same H1 (upd H1 p3 (.lst (ms.map V.int))) := .upd hp3
      refine ⟨p3, _, rfl, sql_of upd_same, ?_⟩
      refine forR_it (walk_enum (K := K) (a := p3) (xs := ms.map V.int)) (fun i σ H2 => ∃ x3 x4 x5 cs, σ = [some (.ref a), some (.int (m : Int)), some (.ref p), x3, x4, x5] ∧ Same H H2 ∧ H2 p = some (.lst (cs.map V.int)) ∧ cs.length = c0.length ∧ H2 p3 = some (.lst (ms.map V.int)))
        ⟨_, _, _, c0, rfl, s1.trans s3, s3 _ _ hp1, rfl, upd_same⟩ (fun i σ H2 _ h => ?_) (fun i v σ H2 H2' hi h y => ?_) (fun σ H2 h => ?_)
      · obtain ⟨_, _, _, _, _, _, _, _, h3⟩ := h
        exact sql_of h3
      · obtain ⟨x3, x4, x5, cs, rfl, s4, h4, hl4, h3⟩ := h
        obtain ⟨T, u1, u2, rfl, hT, rfl, g1, g2⟩ := y
        cases g1
        rw [List.length_map] at hi
        have g2 : (ms.map V.int)[i]? = some u2 := g2
        rw [List.getElem?_map, List.getElem?_eq_getElem hi] at g2
        cases g2
        have s5 : Same H2 (upd H2 T (.tup [.int (i : Int), .int ms[i]])) := .upd hT
        have hcm : cs.length = m := by rw [hl4]; exact hc1 (by omega)
        refine ⟨T, _, rfl, sqt_of upd_same, rfl, _, _, rfl, _, _, rfl, rfl, ?_⟩
        have hat : ((i : Int) % (m : Int)) = ((i % m : Nat) : Int) := rfl
        have hlt : i % m < cs.length := by rw [hcm]; exact Nat.mod_lt _ (by omega)
        have h6 := s5 _ _ h4
        have hS6 : SqL K (upd H2 T (.tup [.int (i : Int), .int ms[i]])) p (cs.map V.int) := sql_of h6
        have hi63 : (i : Int) < 63 := by omega
        have hix : ixN (cs.map V.int).length ((i : Int) % (m : Int)) = some (i % m) := by
          rw [hat, List.length_map]
          exact ixN_nat hlt
        walk_at "ev"
        refine ⟨p, _, _, _, rfl, rfl, hS6, at_of (v := .int cs[i % m]) hat (by rw [List.getElem?_map, List.getElem?_eq_getElem hlt]; rfl), ?_⟩
        walk_at "ev"
        refine ⟨p, _, _, i % m, rfl, rfl, h6, hix, ?_⟩
        have np : p3 ≠ p := fun z => by
          rw [z, hp1] at hp3
          cases hp3
        refine ⟨_, _, _, cs.set (i % m) (cs[i % m] + ms[i] * ((i : Int) + 2)), rfl, (s4.trans s5).mut hp, ?_, by rw [List.length_set]; exact hl4, ?_⟩
        · rw [upd_same, List.map_set]
        · rw [upd_ne np]
          exact s5 _ _ h3
      · obtain ⟨x3, x4, x5, cs, rfl, s4, h4, hl4, h3⟩ := h
        exact ⟨_, rfl, q _ _ cs s4 hp h4 (by omega)⟩
end
end Jl

set_option Elab.async false
set_option linter.all false
set_option maxRecDepth 100000
set_option maxHeartbeats 4000000
set_option pp.maxSteps 900
namespace Jl
open PySem PySem.Spec PyProof.Rows L2
open Evl (sz_of sz_lt)
local macro_rules | `(tactic| walk_at "at") => `(tactic| first | exact box0 | exact box1 | exact box2)
local macro_rules | `(tactic| walk_at "sq") => `(tactic| first | (show SqL _ _ _ _; assumption) | (show SqT _ _ _ _; assumption) | (show _ = some _; assumption))
local macro_rules | `(tactic| walk_at "side") => `(tactic| first
  | (show (0 : Int) < _; decide)
  | (show (0 : Int) < _; omega)
  | exact ⟨by decide, by decide, by decide⟩
  | exact sz_of (Nat.le_of_ble_eq_true rfl)
  | exact rfl
  | exact Or.inl (by decide)
  | exact Or.inr (by decide)
  | exact Or.inr ⟨by omega, by omega⟩
  | exact Or.inl ⟨by omega, by omega⟩
  | exact ⟨by decide, by decide +kernel⟩)
local macro_rules | `(tactic| walk_at "ev1") => `(tactic| first
  | refine ⟨_, rfl, ?_⟩
  | refine ⟨_, _, rfl, rfl, ?_⟩
  | refine ⟨_, _, _, _, rfl, rfl, (by walk_at "sq"), (by walk_at "at"), ?_⟩
  | refine ⟨_, _, rfl, (by walk_at "sq"), ?_⟩
  | refine ⟨_, _, rfl, Or.inl (by walk_at "sq"), ?_⟩
  | refine ⟨_, _, rfl, Or.inr (by walk_at "sq"), ?_⟩
  | refine Or.inl ⟨_, rfl, ?_⟩
  | refine Or.inr ⟨_, rfl, ?_⟩
  | refine ⟨(by walk_at "side"), ?_⟩
  | refine ⟨.inl ⟨rfl, _, (by walk_at "sq")⟩, ?_⟩
  | refine ⟨_, _, rfl, ?_⟩)
local macro_rules | `(tactic| walk_at "nrm") => `(tactic| dsimp only [tNil, tCons, tC, tCB])
local macro_rules | `(tactic| walk_at "ev") => `(tactic| repeat (walk_at "ev1"))

abbrev sc_w_pick_N : List Str := ["_law_box_here", "_law_pool", "_law_size_so", "_law_rest", "_law_some", "_law_turn"]
abbrev s_w_pick : Stmt := topS 16
theorem sc_w_pick : FnScope ["_law_box_here", "_law_pool", "_law_size_so", "_law_rest", "_law_some", "_law_turn"] ["_law_box_here", "_law_pool", "_law_size_so"] (defScope s_w_pick) := ⟨rfl, rfl, rfl, by decide +kernel, rfl, by decide +kernel, by decide +kernel⟩
theorem cutS_more {S T : List Addr} {H H' : Hp} (e : Same (cutS T H) (cutS T H')) (h : ∀ a ∈ T, a ∈ S) : Same (cutS S H) (cutS S H') := fun b o q => by
  obtain ⟨h1, h2⟩ := cutS_some q
  have h3 : b ∉ T := fun z => h1 (h b z)
  have := e b o (by rw [cutS_out h3]; exact h2)
  rw [cutS_out h3] at this
  rw [cutS_out h1]
  exact this
theorem era_map {α β : Type} (f : α → β) : ∀ (l : List α) (k : Nat), (l.map f).eraseIdx k = (l.eraseIdx k).map f
  | [], _ => rfl
  | _ :: _, 0 => rfl
  | a :: l, k + 1 => congrArg (f a :: ·) (era_map f l k)
theorem era_perm {α : Type} : ∀ (l : List α) (k : Nat) (h : k < l.length), (l[k] :: l.eraseIdx k).Perm l
  | a :: l, 0, _ => List.Perm.refl _
  | a :: l, k + 1, h => (List.Perm.swap a (l[k]'(by simpa using h)) (l.eraseIdx k)).trans (List.Perm.cons a (era_perm l k (by simpa using h)))
theorem small8000 {i : Int} (h : 0 ≤ i ∧ i ≤ 10 ^ 60) : i.natAbs < 2 ^ 8000 := by
  have h2 : i.natAbs < 2 ^ 250 := by omega
  exact Nat.lt_of_lt_of_le h2 (Nat.pow_le_pow_right (by decide) (by decide))
/-! ### the box as it goes on -/
def BoxL (bx : List V) (N : Nat) : Prop := ∃ c0 c1 c2 : Int, bx = boxV c0 c1 c2 ∧ 0 ≤ c0 ∧ 0 ≤ c1 ∧ c1 < 2 ^ 62 ∧ 0 ≤ c2 ∧ c2 ≤ N
theorem BoxL.mono {bx : List V} {N M : Nat} (h : BoxL bx N) (e : N ≤ M) : BoxL bx M := by
  obtain ⟨c0, c1, c2, rfl, h1, h2, h3, h4, h5⟩ := h
  exact ⟨c0, c1, c2, rfl, h1, h2, h3, h4, by omega⟩
def spTake2 : Sp := fun vs H Q _ => ∃ (b : Addr) (n : Int) (bx : List V) (N : Nat), vs = [.ref b, .int n] ∧ H b = some (.lst bx) ∧ BoxL bx N ∧ N < 2 ^ 60 ∧ 1 ≤ n ∧ n.natAbs < 2 ^ 8000 ∧
  ∀ r bx', 0 ≤ r → r < n → BoxL bx' (N + 1) → Q (.int r) (upd H b (.lst bx'))
section
variable {P : Program} {w : World} {K : PySem.W.Frag} {mg : Str → Option Value} {base : Heap}
theorem ok_take2 {f : Addr} {fd : FuncData} {k : Nat} (G : FnOk P w K mg base CX0 k f fd ["_law_box_here", "_law_below"] (spTake K)) : FnOk P w K mg base CX0 k f fd ["_law_box_here", "_law_below"] spTake2 :=
  G.imp fun vs H Q E h => by
    obtain ⟨b, n, bx, N, rfl, hb, ⟨c0, c1, c2, rfl, h1, h2, h3, h4, h5⟩, hN, n1, n2, q⟩ := h
    exact ⟨b, c0, c1, c2, n, rfl, hb, h1, h2, h3, h4, by omega, n1, n2, fun r d0 d2 r0 r1 d00 d20 d21 => q r _ r0 r1 ⟨d0, c1, d2, rfl, d00, h2, h3, d20, by omega⟩⟩
/-- _law_pick(box, pool, size): some of the pool, each once -/
def spPick (K : PySem.W.Frag) : Sp := fun vs H Q _ => ∃ (b a : Addr) (n : Int) (bx : List V) (N : Nat) (xs : List Str), vs = [.ref b, .ref a, .int n] ∧ H b = some (.lst bx) ∧ BoxL bx N ∧ N + xs.length < 2 ^ 60 ∧ SqL K H a (xs.map V.str) ∧ xs.length ≤ 1000 ∧ 0 ≤ n ∧ n < 2 ^ 60 ∧
  ∀ (H' : Hp) (q : Addr) (ys rs : List Str) (bx' : List V), (ys ++ rs).Perm xs → ys.length = min n.toNat xs.length → H q = none → H' q = some (.lst (ys.map V.str)) → H' b = some (.lst bx') → BoxL bx' (N + ys.length) → Same (cutS [b] H) (cutS [b] H') → Q (.ref q) H'
theorem ok_pick {f fT : Addr} {fd fdT : FuncData} {k : Nat} (F : Fun K "_law_pick" "_law_pick" s_w_pick f fd) (G_w_take : FnOk P w K mg base CX0 k fT fdT ["_law_box_here", "_law_below"] spTake2) (g_w_take : mg "_law_take" = some (.ref fT)) (F_w_take : Fun K "_law_take" "_law_take" s_w_take fT fdT) (b_w_take : Binds K fdT ["_law_box_here", "_law_below"] [])
    (m_list : mg "list" = none) (m_range : mg "range" = none) (m_min : mg "min" = none) (m_len : mg "len" = none) : FnOk P w K mg base CX0 (k + 1) f fd ["_law_box_here", "_law_pool", "_law_size_so"] (spPick K) := by
  refine F.ok sc_w_pick (fun vs H Q E h => ?_) (fun cdv A outer s H vs Q E hr h => ?_)
  · obtain ⟨b, a, n, bx, N, xs, rfl, _⟩ := h
    rfl
  · obtain ⟨b, a, n, bx, N, xs, rfl, hb, hB, hN, hA, hx, n0, n1, q⟩ := h
    refine ⟨_, (pss_cons (ps_par (i := 3) (j := 4) (by rfl) sc_w_pick.nd rfl rfl (by decide) rfl rfl (pa_cons (pe_callTy call_list_of (by rfl) m_list (by decide +kernel) (pa_cons (pv 1) pa_nil)) (pa_cons (pe_lst pa_nil) pa_nil)) (by rfl)) 
    (pss_cons (ps_forX (ps_for PassesOwn.never rfl (pi_range1 (by rfl) m_range (pa_cons (pe_callB (call_min2 rfl) (by rfl) m_min (by decide +kernel) (pa_cons (pv 2) (pa_cons (pe_callB call_len_seq (by rfl) m_len PySem.boot_len (pa_cons (pv 3) pa_nil)) pa_nil))) pa_nil)) (pg_name (i := 5) sc_w_pick.nd rfl (Or.inl rfl)) (pss_one (ps_expr (pe_bm PySem.F.plainAttrs_list PySem.F.slot_list_append PySem.F.type_list_append mt_append (pv 4) (pa_cons (pe_bm PySem.F.plainAttrs_list PySem.F.slot_list_pop PySem.F.type_list_pop mt_popAt (pv 3) (pa_cons (pe_call G_w_take hr (by rfl) g_w_take F_w_take.kp b_w_take .nil pass0 (pa_cons (pv 0) (pa_cons (pe_callB call_len_seq (by rfl) m_len PySem.boot_len (pa_cons (pv 3) pa_nil)) pa_nil))) pa_nil)) pa_nil)))))) 
    (pss_one (ps_ret (pv 4))))), ?_⟩
    walk_at "ev"
    intro l hl
    walk_at "ev"
    intro p hp
    walk_at "ev"
    refine for_of ?_
    have nbl : l ≠ b := fun z => by
      rw [z, hb] at hl
      cases hl
    have s1 : Same H (upd H l (.lst (xs.map V.str))) := .upd hl
    have s2 : Same (upd H l (.lst (xs.map V.str))) (upd (upd H l (.lst (xs.map V.str))) p (.lst [])) := .upd hp
    have hl2 := s2 _ _ (upd_same (H := H) (a := l) (o := .lst (xs.map V.str)))
    have hp2 : (upd (upd H l (.lst (xs.map V.str))) p (.lst [])) p = some (.lst []) := upd_same
    have s12 := s1.trans s2
    have hpl : p ≠ l := fun z => by
      rw [z, upd_same] at hp
      cases hp
    have hpb : p ≠ b := fun z => by
      rw [z, upd_ne nbl.symm, hb] at hp
      cases hp
    have hp0 : H p = none := s1.free hp
    have hL2 : SqL K (upd (upd H l (.lst (xs.map V.str))) p (.lst [])) l (xs.map V.str) := sql_of hl2
    show iRng1 _ _ (upd (upd H l (.lst (xs.map V.str))) p (.lst [])) _
    generalize upd (upd H l (.lst (xs.map V.str))) p (.lst []) = H2 at s12 hl2 hp2 hL2
    walk_at "ev"
    rw [List.length_map]
    have hj : (if (xs.length : Int) < n then (xs.length : Int) else n) = ((min n.toNat xs.length : Nat) : Int) := by
      split <;> omega
    rw [hj]
    refine ⟨by omega, by omega, ?_⟩
    rw [Int.toNat_natCast]
    refine forR_it (walk_range (lo := 0) (n := min n.toNat xs.length)) (fun i σ H3 => ∃ x5 ys rs bx', σ = [some (.ref b), some (.ref a), some (.int n), some (.ref l), some (.ref p), x5] ∧ H3 l = some (.lst (rs.map V.str)) ∧ H3 p = some (.lst (ys.map V.str)) ∧ H3 b = some (.lst bx') ∧ BoxL bx' (N + i) ∧ (ys ++ rs).Perm xs ∧ ys.length = i ∧ Same (cutS [b] H) H3)
      ⟨_, [], xs, bx, rfl, hl2, hp2, s12 _ _ hb, hB, List.Perm.refl _, rfl, cutS_le.trans s12⟩ (fun _ _ _ _ _ => trivial) (fun i v σ H3 H3' hi h y => ?_) (fun σ H3 h => ?_)
    · obtain ⟨x5, ys, rs, bx', rfl, h1, h2, h3, h4, h5, h6, h7⟩ := h
      obtain ⟨rfl, rfl⟩ := y
      have hlen := h5.length_eq
      rw [List.length_append] at hlen
      have hL : SqL K H3' l (rs.map V.str) := sql_of h1
      have hPl : SqL K H3' p (ys.map V.str) := sql_of h2
      walk_at "ev"
      have hrl : ((rs.map V.str).length : Int) = rs.length := by rw [List.length_map]
      have hr1 : 1 ≤ rs.length := by omega
      refine ⟨b, _, bx', N + i, rfl, h3, h4, by omega, by omega, small8000 (by rw [hrl]; omega), fun r bx2 r0 r1 hB2 => ?_⟩
      rw [hrl] at r1
      obtain ⟨k, rfl⟩ : ∃ k : Nat, r = (k : Int) := ⟨r.toNat, by omega⟩
      have hk : k < rs.length := by omega
      have hsi : seqIndex? (k : Int) (rs.map V.str).length = some k := (ixN_seq (ixN_nat (by rw [List.length_map]; exact hk))).1
      have h1' : (upd H3' b (.lst bx2)) l = some (.lst (rs.map V.str)) := by
        rw [upd_ne nbl]
        exact h1
      refine ⟨l, _, (k : Int), k, .str rs[k], rfl, rfl, h1', by omega, by omega, hsi, by rw [List.getElem?_map, List.getElem?_eq_getElem hk]; rfl, ?_⟩
      have h2' : (upd (upd H3' b (.lst bx2)) l (.lst ((rs.map V.str).eraseIdx k))) p = some (.lst (ys.map V.str)) := by
        rw [upd_ne hpl, upd_ne hpb]
        exact h2
      refine ⟨p, _, _, rfl, rfl, h2', ?_, ?_⟩
      · rw [List.length_map]
        exact sz_lt (by omega)
      · refine ⟨_, ys ++ [rs[k]], rs.eraseIdx k, bx2, rfl, ?_, ?_, ?_, hB2, ?_, ?_, ?_⟩
        · rw [upd_ne hpl.symm, upd_same, era_map]
        · rw [upd_same, List.map_append]
          rfl
        · rw [upd_ne hpb.symm, upd_ne nbl.symm, upd_same]
        · refine List.Perm.trans ?_ h5
          rw [List.append_assoc]
          exact List.Perm.append_left ys (era_perm rs k hk)
        · rw [List.length_append, h6]
          rfl
        · intro x o hx
          obtain ⟨g1, g2⟩ := cutS_some hx
          have gb : x ≠ b := fun z => g1 (by rw [z]; exact List.mem_cons_self)
          have gl : x ≠ l := ne_of_none g2 hl
          have gp : x ≠ p := ne_of_none g2 hp0
          rw [upd_ne gp, upd_ne gl, upd_ne gb]
          exact h7 x o hx
    · obtain ⟨x5, ys, rs, bx', rfl, h1, h2, h3, h4, h5, h6, h7⟩ := h
      refine ⟨_, rfl, ?_⟩
      refine q H3 p ys rs bx' h5 h6 hp0 h2 h3 (by rw [h6]; exact h4) fun x o hx => ?_
      obtain ⟨g1, g2⟩ := cutS_some hx
      rw [cutS_out g1]
      exact h7 x o hx
end
end Jl

set_option Elab.async false
set_option linter.all false
set_option maxRecDepth 100000
set_option maxHeartbeats 4000000
set_option pp.maxSteps 900
namespace Jl
open PySem PySem.Spec PyProof.Rows L2
open Evl (sz_of sz_lt)
local macro_rules | `(tactic| walk_at "at") => `(tactic| first | exact box0 | exact box1 | exact box2)
local macro_rules | `(tactic| walk_at "sq") => `(tactic| first | (show SqL _ _ _ _; assumption) | (show SqT _ _ _ _; assumption) | (show _ = some _; assumption))
local macro_rules | `(tactic| walk_at "side") => `(tactic| first
  | (show (0 : Int) < _; decide)
  | (show (0 : Int) < _; omega)
  | exact ⟨by decide, by decide, by decide⟩
  | exact sz_of (Nat.le_of_ble_eq_true rfl)
  | exact rfl
  | exact Or.inl (by decide)
  | exact Or.inr (by decide)
  | exact Or.inr ⟨by omega, by omega⟩
  | exact Or.inl ⟨by omega, by omega⟩
  | exact ⟨by decide, by decide +kernel⟩)
local macro_rules | `(tactic| walk_at "ev1") => `(tactic| first
  | refine ⟨_, rfl, ?_⟩
  | refine ⟨_, _, rfl, rfl, ?_⟩
  | refine ⟨_, _, _, _, rfl, rfl, (by walk_at "sq"), (by walk_at "at"), ?_⟩
  | refine ⟨_, _, rfl, (by walk_at "sq"), ?_⟩
  | refine ⟨_, _, rfl, Or.inl (by walk_at "sq"), ?_⟩
  | refine ⟨_, _, rfl, Or.inr (by walk_at "sq"), ?_⟩
  | refine Or.inl ⟨_, rfl, ?_⟩
  | refine Or.inr ⟨_, rfl, ?_⟩
  | refine ⟨(by walk_at "side"), ?_⟩
  | refine ⟨.inl ⟨rfl, _, (by walk_at "sq")⟩, ?_⟩
  | refine ⟨_, _, rfl, ?_⟩)
local macro_rules | `(tactic| walk_at "nrm") => `(tactic| dsimp only [tNil, tCons, tC, tCB])
local macro_rules | `(tactic| walk_at "ev") => `(tactic| repeat (walk_at "ev1"))
/-! ### range(n) as a value, list of it -/
section
variable {X : Cx}
theorem cr_range1 : CallR X (.type "range") (fun vs H Q => ∃ j, vs = [V.int j] ∧ ∀ p, H p = none → Q (.ref p) (upd H p (.rng 0 j))) := fun pins s σ H vs us Q I r h => by
  obtain ⟨j, rfl, q⟩ := h
  obtain ⟨u, rfl, ru⟩ := vals1 r
  obtain ⟨t, rfl⟩ := ru
  exact call_range_1 ⟨.ref _, _, I.laid (o := .rng 0 j) (t' := s.toks + 1 + 1) (fun _ _ e => Heap.get?_push_of_some _ e) (Nat.le_refl _) ⟨_, _, _, Heap.get?_push_size _ rfl⟩, rfl, q _ (I.hok.fresh (Nat.le_refl _))⟩
theorem vals_from {f : Nat → V} : ∀ {us : List Value} (k : Nat), (∀ i v, us[i]? = some v → RelV (f (k + i)) v) → Vals ((List.range us.length).map fun i => f (k + i)) us
  | [], _, _ => .nil
  | u :: us, k, h => by
    rw [List.length_cons, List.range_succ_eq_map, List.map_cons, List.map_map]
    refine .cons (h 0 u rfl) ?_
    have := vals_from (f := f) (us := us) (k + 1) fun i v hv => by
      have q := h (i + 1) v (by simpa using hv)
      have e : k + (i + 1) = k + 1 + i := by omega
      rw [e] at q
      exact q
    have e : ((fun i => f (k + i)) ∘ Nat.succ) = fun i => f (k + 1 + i) := by
      funext i
      show f (k + (i + 1)) = f (k + 1 + i)
      congr 1
      omega
    rw [e]
    exact this
theorem call_list_rng (hc : X.calm = true) : CallR X (.type "list") (fun xs H Q => ∃ (r : Addr) (n : Nat), xs = [.ref r] ∧ H r = some (.rng 0 (n : Int)) ∧ n ≤ 1000 ∧ ∀ p, H p = none → Q (.ref p) (upd H p (.lst ((List.range n).map fun i => V.int ((i : Nat) : Int))))) := fun pins s σ H xs us Q I r h => by
  obtain ⟨a, n, rfl, ha, hn, q⟩ := h
  obtain ⟨u, rfl, ru⟩ := vals1 r
  cases ru
  obtain ⟨t, u, v, ho⟩ := I.hok _ _ ha
  refine call_list_range (n := n) (I.ok.hd hc) (show IsRange s.heap a 0 (n : Int) 1 t u v from ho) (small_one (by omega) (by omega) (by omega) (by omega)) ?_ (by omega) fun h' tk acc c hk hS hi => ?_
  · rw [rangeSize_one]
    by_cases h0 : (0 : Int) < n
    · rw [if_pos h0]
      omega
    · rw [if_neg h0]
      omega
  · obtain ⟨h1, h2⟩ := hi
    have hl : acc.toList.length = n := by rw [Array.length_toList]; exact h1
    have hv : Vals ((List.range n).map fun i => V.int ((i : Nat) : Int)) acc.toList := by
      rw [← hl]
      have g := vals_from (f := fun i => V.int ((i : Nat) : Int)) (us := acc.toList) 0 fun i v hv => by
        have hi : i < n := by
          rw [← hl]
          exact (List.getElem?_eq_some_iff.mp hv).1
        obtain ⟨t, e2⟩ := h2 i v (by simpa using hv)
        refine ⟨t, ?_⟩
        rw [e2]
        congr 1
        omega
      have e : (fun i => V.int (((0 + i : Nat)) : Int)) = fun i => V.int ((i : Nat) : Int) := by
        funext i
        rw [Nat.zero_add]
      rw [e] at g
      exact g
    exact ⟨.ref _, _, I.laid (o := .lst ((List.range n).map fun i => V.int ((i : Nat) : Int))) (t' := tk) hk (Nat.le_refl _) ⟨by rw [List.length_map, List.length_range]; exact sz_of (by omega), acc.toList, c, hv, by simpa using hS⟩, rfl, q _ (I.hok.fresh (Nat.le_refl _))⟩
/-! ### a method of a tuple whose object is known -/
/-- the place of a tuple whose object is known -/
def TupO (H : Hp) (x : V) : Prop := ∃ (p : Addr) (ob : Obj) (xs : List V), x = .ref p ∧ H p = some (.frz ob (.tup xs)) ∧ ob.cls = .type "tuple" ∧ ob.dict = none
def tBMT (r : V → List V → Hp → VK → Prop) (to : TE) (t : TA) : TE := fun σ H Q => to σ H fun x H1 => TupO H1 x ∧ t σ H1 fun xs H2 => r x xs H2 Q
theorem pe_tm {o e : Expr} {es : List Expr} {to : TE} {t : TA} {name : Str} {apos cpos : Pos} {id : String} {r : V → List V → Hp → VK → Prop} (slot : Slot "tuple" name id) (hty : typeOf (.builtin id) = pure (.type "method_descriptor")) (hm : MtR X id r) (ho : PE X o to) (ha : PA X (e :: es) t)
    (h1 : attributeBase o name X.env (eval o X.env) = eval o X.env := by rfl)
    (h2 : ((backTo cpos (starEach (e :: es) X.env)).all (fun x => !x.1) && (backToKw cpos (keywordEach [] X.env)).all (fun x => x.1.isSome)
      && decide ((e :: es).length + ([] : List Keyword).length + (if ([] : List Keyword).isEmpty then 0 else 1) < 30)) = true := by rfl)
    (h3 : (apos.endLine == cpos.line) = true := by rfl) (h4 : starEach (e :: es) X.env = (false, eval e X.env) :: starEach es X.env := by rfl) (h5 : (backTo cpos (starEach es X.env)).any (·.1) = false := by rfl) :
    PE X (.Call (.Attribute o name apos) (e :: es) [] cpos) (tBMT r to t) := ⟨fun pins s σ H Q I h => wpAny_Call_method_late h1 h2 h3 rfl (thn (ho.run pins s σ H _ I h) fun v s1 ⟨x, H1, I1, r1, ⟨p, ob, xs, ex, hp, hc, hd⟩, q1⟩ => by
  subst ex
  obtain rfl : v = Value.ref p := r1
  have hob : s1.heap.get? p = some ob := (I1.hok p _ hp).1
  refine ⟨"tuple", id, PySem.F.plainAttrs_tuple, slot, hty, ⟨ob, hob, hc⟩, fun a ea => ?_, ?_⟩
  · cases ea
    exact ⟨ob, hob, hd⟩
  · have g := ha.run cpos pins s1 σ H1 _ I1 q1
    rw [h4] at g ⊢
    have h6 : ((false, eval e X.env) :: backTo cpos (starEach es X.env)).any (·.1) = false := by
      rw [List.any_cons, h5]
      rfl
    exact Calls.callWith_builtin h6 (Calls.evalArgs_plain (thn g fun us s2 ⟨vs, H2, I2, r2, q2⟩ => hm pins s2 σ H2 (.ref p) vs _ us Q I2 rfl r2 q2)))⟩
/-- tuple(a list): a tuple whose object is known -/
def rTupF (K : PySem.W.Frag) : List V → Hp → VK → Prop := fun xs H Q => ∃ (p : Addr) (ys : List V), xs = [.ref p] ∧ SqL K H p ys ∧ ∀ (l : Addr) (ob : Obj), H l = none → ob.cls = .type "tuple" → ob.dict = none → Q (.ref l) (upd H l (.frz ob (.tup ys)))
theorem call_tupF : CallR X (.type "tuple") (rTupF X.K) := fun pins s σ H xs us Q I r h => by
  obtain ⟨p, ys, rfl, hq, q⟩ := h
  obtain ⟨u, rfl, rx⟩ := vals1 r
  cases rx
  obtain ⟨its, rv, pl, hz⟩ := I.list hq
  have hlen := rv.length
  refine call_tuple_list pl.isList (fun h' kp => ?_) (by rw [List.size_toArray]; omega)
  have I1 : Inv X pins σ H { s with heap := h' } := I.kept (t' := s.toks) kp
  have hget : (h'.push { cls := .type "tuple", data := .seq its.toArray }).get? h'.objs.size = some { cls := .type "tuple", data := .seq its.toArray } := Heap.get?_push_size _ rfl
  exact ⟨.ref h'.objs.size, _, I1.laid (o := .frz { cls := .type "tuple", data := .seq its.toArray } (.tup ys)) (t' := s.toks) (fun b o e => Heap.get?_push_of_some _ e) (Nat.le_refl _) ⟨hget, hz, its, rv, ⟨_, hget, rfl, _, rfl⟩⟩, rfl, q _ _ (I1.hok.fresh (Nat.le_refl _)) rfl rfl⟩
end
end Jl

set_option Elab.async false
set_option linter.all false
set_option maxRecDepth 100000
set_option maxHeartbeats 4000000
set_option pp.maxSteps 900
namespace Jl
open PySem PySem.Spec PyProof.Rows L2
open Evl (sz_of sz_lt)
local macro_rules | `(tactic| walk_at "at") => `(tactic| first | exact box0 | exact box1 | exact box2)
local macro_rules | `(tactic| walk_at "sq") => `(tactic| first | (show SqL _ _ _ _; assumption) | (show SqT _ _ _ _; assumption) | (show _ = some _; assumption))
local macro_rules | `(tactic| walk_at "side") => `(tactic| first
  | (show (0 : Int) < _; decide)
  | (show (0 : Int) < _; omega)
  | exact ⟨by decide, by decide, by decide⟩
  | exact sz_of (Nat.le_of_ble_eq_true rfl)
  | exact rfl
  | exact Or.inl (by decide)
  | exact Or.inr (by decide)
  | exact Or.inr ⟨by omega, by omega⟩
  | exact Or.inl ⟨by omega, by omega⟩
  | exact ⟨by decide, by decide +kernel⟩)
local macro_rules | `(tactic| walk_at "ev1") => `(tactic| first
  | refine ⟨_, rfl, ?_⟩
  | refine ⟨_, _, rfl, rfl, ?_⟩
  | refine ⟨_, _, _, _, rfl, rfl, (by walk_at "sq"), (by walk_at "at"), ?_⟩
  | refine ⟨_, _, rfl, (by walk_at "sq"), ?_⟩
  | refine ⟨_, _, rfl, Or.inl (by walk_at "sq"), ?_⟩
  | refine ⟨_, _, rfl, Or.inr (by walk_at "sq"), ?_⟩
  | refine Or.inl ⟨_, rfl, ?_⟩
  | refine Or.inr ⟨_, rfl, ?_⟩
  | refine ⟨(by walk_at "side"), ?_⟩
  | refine ⟨.inl ⟨rfl, _, (by walk_at "sq")⟩, ?_⟩
  | refine ⟨_, _, rfl, ?_⟩)
local macro_rules | `(tactic| walk_at "nrm") => `(tactic| dsimp only [tNil, tCons, tC, tCB])
local macro_rules | `(tactic| walk_at "ev") => `(tactic| repeat (walk_at "ev1"))

abbrev sc_w_web_N : List Str := ["_law_box_here", "_law_size_so", "_law_most", "_law_high", "_law_tags", "_law_marks_here", "_law_found", "_law_mark", "_law_one", "_law_two", "_law_space"]
abbrev s_w_web : Stmt := topS 18
theorem sc_w_web : FnScope ["_law_box_here", "_law_size_so", "_law_most", "_law_high", "_law_tags", "_law_marks_here", "_law_found", "_law_mark", "_law_one", "_law_two", "_law_space"] ["_law_box_here", "_law_size_so", "_law_most", "_law_high"] (defScope s_w_web) := ⟨rfl, rfl, rfl, by decide +kernel, rfl, by decide +kernel, by decide +kernel⟩
/-- the first row of a pair stands as a tuple whose object is known -/
def TupW (H : Hp) (v : V) (xs : List V) : Prop := ∃ (a0 a1 a2 : Addr) (ob : Obj), v = .ref a0 ∧ H a0 = some (.tup [.ref a1, .ref a2]) ∧ H a1 = some (.frz ob (.tup xs)) ∧ ob.cls = .type "tuple" ∧ ob.dict = none
/-! ### nets as data -/
structure QD where
  nm : Str
  st : Str
  en : Str
  room : Int
  gap : Int
def QD.d (f : Bool) (q : QD) : PyData := seqD f [.str q.nm, .str q.st, .str q.en, .int q.room, .int q.gap]
def netD (f : Bool) (ws : List Str) (qs : List QD) : PyData := seqD f [seqD f (ws.map PyData.str), seqD f (qs.map (QD.d f))]
def poolW : List Str := [Str.ofString "a", Str.ofString "b", Str.ofString "c.x", Str.ofString "d2", Str.ofString "k", Str.ofString "node", Str.ofString "s", Str.ofString "t", Str.ofString "w.1", Str.ofString "z"]
def poolQ : List Str := [Str.ofString "a", Str.ofString "d2", Str.ofString "e", Str.ofString "f1", Str.ofString "in.a", Str.ofString "k", Str.ofString "m", Str.ofString "out", Str.ofString "p", Str.ofString "q", Str.ofString "s", Str.ofString "v", Str.ofString "x", Str.ofString "z"]
structure GoodNet (s m : Nat) (h : Int) (ws : List Str) (qs : List QD) : Prop where
  wn : ws.Nodup
  wo : sortedS ws = true
  w2 : 2 ≤ ws.length
  wl : ws.length ≤ s
  wp : ∀ x ∈ ws, x ∈ poolW
  qn : ∃ l : List Str, l.Nodup ∧ sortedS l = true ∧ (∀ x ∈ l, x ∈ poolQ) ∧ ∃ k, qs.map QD.nm = l.take k
  q1 : 1 ≤ qs.length
  ql : qs.length ≤ m
  qq : ∀ q ∈ qs, q.st ∈ ws ∧ q.en ∈ ws ∧ q.st ≠ q.en ∧ 1 ≤ q.gap ∧ q.gap ≤ q.room ∧ q.room ≤ h
theorem cutS_at {S : List Addr} {H : Hp} {a : Addr} {o : HO} (h : H a = some o) (n : a ∉ S) : cutS S H a = some o := by
  rw [cutS_out n]
  exact h
theorem not1 {a b : Addr} (h : a ≠ b) : a ∉ [b] := fun z => h (List.mem_singleton.mp z)
theorem not2 {a b c : Addr} (h : a ≠ b) (h2 : a ≠ c) : a ∉ [b, c] := fun z => by
  rcases List.mem_cons.mp z with e | e
  · exact h e
  · exact h2 (List.mem_singleton.mp e)
theorem cutV_map {α : Type} {f : α → V} {xs : List α} {k : Nat} : cutV (xs.map f) none (some (k : Int)) = (xs.take k).map f := by
  unfold cutV
  rw [List.length_map, show HT.sIx xs.length 0 none = 0 from HT.sIx_none _ _, show HT.sIx xs.length xs.length (some (k : Int)) = min k xs.length from HT.sIx_nat _ _ _, Nat.sub_zero, List.drop_zero, ← List.map_take]
  congr 1
  by_cases h : k ≤ xs.length
  · rw [Nat.min_eq_left h]
  · rw [Nat.min_eq_right (by omega), List.take_of_length_le (by omega), List.take_of_length_le (by omega)]
/-- where the loop of _law_web stands -/
structure WSt (K : PySem.W.Frag) (b p7 p9 : Addr) (H3 : Hp) (ls fs : List V) (ds : List PyData) (Hc : Hp) (bx : List V) (n : Nat) : Prop where
  hb : Hc b = some (.lst bx)
  hB : BoxL bx n
  hf : Hc p7 = some (.lst fs)
  hd : DpAll K (cutS [p7, b] Hc) fs ds
  hS : Same (cutS [b] H3) (cutS [p7, b] Hc)
  h9 : cutS [p7, b] Hc p9 = some (.lst ls)
theorem WSt.take {K : PySem.W.Frag} {b p7 p9 : Addr} {H3 : Hp} {ls fs : List V} {ds : List PyData} {Hc : Hp} {bx bx' : List V} {n : Nat} (w : WSt K b p7 p9 H3 ls fs ds Hc bx n) (n7 : p7 ≠ b) (h : BoxL bx' (n + 1)) : WSt K b p7 p9 H3 ls fs ds (upd Hc b (.lst bx')) bx' (n + 1) := by
  have e : cutS [p7, b] (upd Hc b (.lst bx')) = cutS [p7, b] Hc := cutS_upd (List.mem_cons_of_mem _ List.mem_cons_self)
  exact ⟨upd_same, h, by rw [upd_ne n7]; exact w.hf, by rw [e]; exact w.hd, by rw [e]; exact w.hS, by rw [e]; exact w.h9⟩
theorem WSt.same {K : PySem.W.Frag} {b p7 p9 : Addr} {H3 : Hp} {ls fs : List V} {ds : List PyData} {Hc Hd : Hp} {bx : List V} {n : Nat} (w : WSt K b p7 p9 H3 ls fs ds Hc bx n) (e : Same Hc Hd) : WSt K b p7 p9 H3 ls fs ds Hd bx n :=
  ⟨e _ _ w.hb, w.hB, e _ _ w.hf, (cutS_mono e).dpa w.hd, w.hS.trans (cutS_mono e), cutS_mono e _ _ w.h9⟩
theorem WSt.push {K : PySem.W.Frag} {b p7 p9 : Addr} {H3 : Hp} {ls fs : List V} {ds : List PyData} {Hc : Hp} {bx : List V} {n : Nat} {v : V} {d : PyData} (w : WSt K b p7 p9 H3 ls fs ds Hc bx n) (n7 : p7 ≠ b) (h : Dp K (cutS [p7, b] Hc) v d) :
    WSt K b p7 p9 H3 ls (fs ++ [v]) (ds ++ [d]) (upd Hc p7 (.lst (fs ++ [v]))) bx n := by
  have e : cutS [p7, b] (upd Hc p7 (.lst (fs ++ [v]))) = cutS [p7, b] Hc := cutS_upd List.mem_cons_self
  exact ⟨by rw [upd_ne n7.symm]; exact w.hb, w.hB, upd_same, by rw [e]; exact dpa_app w.hd (dpa_one h), by rw [e]; exact w.hS, by rw [e]; exact w.h9⟩
theorem WSt.mono {K : PySem.W.Frag} {b p7 p9 : Addr} {H3 : Hp} {ls fs : List V} {ds : List PyData} {Hc : Hp} {bx : List V} {n n' : Nat} (w : WSt K b p7 p9 H3 ls fs ds Hc bx n) (h : n ≤ n') : WSt K b p7 p9 H3 ls fs ds Hc bx n' := ⟨w.hb, w.hB.mono h, w.hf, w.hd, w.hS, w.h9⟩
theorem apart (L r1 r2 : Int) (h1 : 0 ≤ r1) (h2 : r1 < L) (h3 : 0 ≤ r2) (h4 : r2 < L - 1) : 0 ≤ (r1 + 1 + r2) % L ∧ (r1 + 1 + r2) % L < L ∧ (r1 + 1 + r2) % L ≠ r1 := by
  refine ⟨Int.emod_nonneg _ (by omega), Int.emod_lt_of_pos _ (by omega), ?_⟩
  by_cases h : r1 + 1 + r2 < L
  · rw [Int.emod_eq_of_lt (by omega) h]
    omega
  · rw [← Int.sub_emod_right (r1 + 1 + r2) L, Int.emod_eq_of_lt (by omega) (by omega)]
    omega
section
variable {P : Program} {w : World} {K : PySem.W.Frag} {mg : Str → Option Value} {base : Heap}
/-- _law_web(box, size, most, high): a drawn net -/
def spWeb (K : PySem.W.Frag) : Sp := fun vs H Q _ => ∃ (b : Addr) (s m : Nat) (h : Int) (bx : List V) (N : Nat), vs = [.ref b, .int (s : Int), .int (m : Int), .int h] ∧ H b = some (.lst bx) ∧ BoxL bx N ∧ N < 2 ^ 50 ∧ 2 ≤ s ∧ s ≤ 10 ∧ 1 ≤ m ∧ m ≤ 14 ∧ 1 ≤ h ∧ h ≤ 10 ^ 50 ∧
  ∀ (H' : Hp) (v : V) (ws : List Str) (qs : List QD) (bx' : List V), GoodNet s m h ws qs → Dp K (cutS [b] H') v (netD true ws qs) → TupW (cutS [b] H') v (ws.map V.str) → H' b = some (.lst bx') → BoxL bx' (N + 200) → Same (cutS [b] H) (cutS [b] H') → Q v H'
theorem ok_web {f fT fP : Addr} {fd fdT fdP : FuncData} {k : Nat} (F : Fun K "_law_web" "_law_web" s_w_web f fd) (G_w_take : FnOk P w K mg base CX0 k fT fdT ["_law_box_here", "_law_below"] spTake2) (g_w_take : mg "_law_take" = some (.ref fT)) (F_w_take : Fun K "_law_take" "_law_take" s_w_take fT fdT) (b_w_take : Binds K fdT ["_law_box_here", "_law_below"] [])
    (G_w_pick : FnOk P w K mg base CX0 k fP fdP ["_law_box_here", "_law_pool", "_law_size_so"] (spPick K)) (g_w_pick : mg "_law_pick" = some (.ref fP)) (F_w_pick : Fun K "_law_pick" "_law_pick" s_w_pick fP fdP) (b_w_pick : Binds K fdP ["_law_box_here", "_law_pool", "_law_size_so"] [])
    (m_sorted : mg "sorted" = none) (m_len : mg "len" = none) (m_int : mg "int" = none) (m_tuple : mg "tuple" = none) : FnOk P w K mg base CX0 (k + 1) f fd ["_law_box_here", "_law_size_so", "_law_most", "_law_high"] (spWeb K) := by
  refine F.ok sc_w_web (fun vs H Q E h => ?_) (fun cdv A outer s0 H vs Q E hr h => ?_)
  · obtain ⟨b, s, m, h, bx, N, rfl, _⟩ := h
    rfl
  · obtain ⟨b, s, m, h, bx, N, rfl, hb, hB, hN, s1, s2, m1, m2, h1, h2, q⟩ := h
    refine ⟨_, (pss_cons (ps_set (i := 4) sc_w_web.nd rfl (Or.inl rfl) (pe_call G_w_pick hr (by rfl) g_w_pick F_w_pick.kp b_w_pick .nil pass0 (pa_cons (pv 0) (pa_cons (pe_lst (pa_cons pe_str (pa_cons pe_str (pa_cons pe_str (pa_cons pe_str (pa_cons pe_str (pa_cons pe_str (pa_cons pe_str (pa_cons pe_str (pa_cons pe_str (pa_cons pe_str pa_nil))))))))))) (pa_cons (pe_op op_add pe_int (pe_call G_w_take hr (by rfl) g_w_take F_w_take.kp b_w_take .nil pass0 (pa_cons (pv 0) (pa_cons (pe_op op_sub (pv 1) pe_int) pa_nil)))) pa_nil))))) 
    (pss_cons (ps_set (i := 5) sc_w_web.nd rfl (Or.inl rfl) (pe_callB cr_sortedS (by rfl) m_sorted (by decide +kernel) (pa_cons (pe_call G_w_pick hr (by rfl) g_w_pick F_w_pick.kp b_w_pick .nil pass0 (pa_cons (pv 0) (pa_cons (pe_lst (pa_cons pe_str (pa_cons pe_str (pa_cons pe_str (pa_cons pe_str (pa_cons pe_str (pa_cons pe_str (pa_cons pe_str (pa_cons pe_str (pa_cons pe_str (pa_cons pe_str (pa_cons pe_str (pa_cons pe_str (pa_cons pe_str (pa_cons pe_str pa_nil))))))))))))))) (pa_cons (pv 2) pa_nil)))) pa_nil))) 
    (pss_cons (ps_set (i := 6) sc_w_web.nd rfl (Or.inl rfl) (pe_lst pa_nil)) 
    (pss_cons (ps_forX (ps_for PassesOwn.never rfl (pi_list (pe_slice sl_list (pv 5) po_none (po_some (pe_op op_add pe_int (pe_call G_w_take hr (by rfl) g_w_take F_w_take.kp b_w_take .nil pass0 (pa_cons (pv 0) (pa_cons (pv 2) pa_nil))))))) (pg_name (i := 7) sc_w_web.nd rfl (Or.inl rfl)) 
      (pss_cons (ps_set (i := 8) sc_w_web.nd rfl (Or.inl rfl) (pe_call G_w_take hr (by rfl) g_w_take F_w_take.kp b_w_take .nil pass0 (pa_cons (pv 0) (pa_cons (pe_callB call_len_seq (by rfl) m_len PySem.boot_len (pa_cons (pv 4) pa_nil)) pa_nil)))) 
      (pss_cons (ps_set (i := 9) sc_w_web.nd rfl (Or.inl rfl) (pe_op op_mod (pe_callTy call_int1 (by rfl) m_int (by decide +kernel) (pa_cons (pe_op op_add (pe_op op_add (pv 8) pe_int) (pe_call G_w_take hr (by rfl) g_w_take F_w_take.kp b_w_take .nil pass0 (pa_cons (pv 0) (pa_cons (pe_op op_sub (pe_callB call_len_seq (by rfl) m_len PySem.boot_len (pa_cons (pv 4) pa_nil)) pe_int) pa_nil)))) pa_nil)) (pe_callB call_len_seq (by rfl) m_len PySem.boot_len (pa_cons (pv 4) pa_nil)))) 
      (Evl.pss_cut (ps_if (PW.pt (pw_and (pt_cmpR op_gt (pv 8) (pv 9) (nomark _)) (pw_and1 (pt_cmpR op_gt (pe_call G_w_take hr (by rfl) g_w_take F_w_take.kp b_w_take .nil pass0 (pa_cons (pv 0) (pa_cons pe_int pa_nil))) pe_int (nomark _))))) (pss_one (ps_par (i := 8) (j := 9) (by rfl) sc_w_web.nd rfl rfl (by decide) rfl rfl (pa_cons (pv 9) (pa_cons (pv 8) pa_nil)) (by rfl))) pss_nil) 
      (pss_cons (ps_set (i := 10) sc_w_web.nd rfl (Or.inl rfl) (pe_op op_add pe_int (pe_call G_w_take hr (by rfl) g_w_take F_w_take.kp b_w_take .nil pass0 (pa_cons (pv 0) (pa_cons (pv 3) pa_nil))))) 
      (pss_one (ps_expr (pe_bm PySem.F.plainAttrs_list PySem.F.slot_list_append PySem.F.type_list_append mt_append (pv 6) (pa_cons (pe_tup (pa_cons (pv 7) (pa_cons (pe_ix ix_list (pv 4) (pv 8) (fun _ _ => rfl)) (pa_cons (pe_ix ix_list (pv 4) (pv 9) (fun _ _ => rfl)) (pa_cons (pv 10) (pa_cons (pe_op op_add pe_int (pe_call G_w_take hr (by rfl) g_w_take F_w_take.kp b_w_take .nil pass0 (pa_cons (pv 0) (pa_cons (pv 10) pa_nil)))) pa_nil)))))) pa_nil)))))))))) 
    (pss_one (ps_ret (pe_tup (pa_cons (pe_callTy call_tupF (by rfl) m_tuple (by decide +kernel) (pa_cons (pe_callB cr_sortedS (by rfl) m_sorted (by decide +kernel) (pa_cons (pv 4) pa_nil)) pa_nil)) (pa_cons (pe_callTy call_tuple_of (by rfl) m_tuple (by decide +kernel) (pa_cons (pv 6) pa_nil)) pa_nil))))))))), ?_⟩
    have t0 : Trk [b] H := Trk.cons Trk.nil hb
    walk_at "ev"
    intro p1 hp1
    have n1 : p1 ≠ b := fun z => by
      rw [z, hb] at hp1
      cases hp1
    have hb1 : (upd H p1 (.lst (poolW.map V.str))) b = some (.lst bx) := (Same.upd hp1) _ _ hb
    have hS1 : Same (cutS [b] H) (cutS [b] (upd H p1 (.lst (poolW.map V.str)))) := cutS_mono (.upd hp1)
    have hq1 : (upd H p1 (.lst (poolW.map V.str))) p1 = some (.lst (poolW.map V.str)) := upd_same
    show tCons _ _ _ (upd H p1 (.lst (poolW.map V.str))) _
    generalize upd H p1 (.lst (poolW.map V.str)) = H1 at hb1 hS1 hq1 ⊢
    walk_at "ev"
    refine ⟨b, (s : Int) - 1, bx, N, rfl, hb1, hB, by omega, by omega, small8000 (by omega), fun r bx1 r0 r1 hB1 => ?_⟩
    walk_at "ev"
    have hb2 : (upd H1 b (.lst bx1)) b = some (.lst bx1) := upd_same
    have hq2 : (upd H1 b (.lst bx1)) p1 = some (.lst (poolW.map V.str)) := by
      rw [upd_ne n1]
      exact hq1
    have hS2 : Same (cutS [b] H) (cutS [b] (upd H1 b (.lst bx1))) := by
      rw [cutS_upd List.mem_cons_self]
      exact hS1
    refine ⟨b, p1, 2 + r, bx1, N + 1, poolW, rfl, hb2, hB1, by show N + 1 + 10 < 2 ^ 60; omega, sql_of hq2, by decide, by omega, by omega, fun H3 p3 ts rs bx3 hperm hlen hp3 hq3 hb3 hB3 hS3 => ?_⟩
    have tl : ts.length = (2 + r).toNat := by
      rw [hlen]
      show min _ 10 = _
      omega
    have hS3' := hS2.trans hS3
    have n3 : p3 ≠ b := fun z => by
      rw [z, hb2] at hp3
      cases hp3
    have htn : ts.Nodup ∧ ∀ x ∈ ts, x ∈ poolW := by
      have hn : (ts ++ rs).Nodup := hperm.nodup_iff.mpr (by decide +kernel)
      exact ⟨(List.nodup_append.mp hn).1, fun x hx => hperm.mem_iff.mp (List.mem_append_left _ hx)⟩
    have hB3' : BoxL bx3 (N + 20) := hB3.mono (by omega)
    clear hlen hperm hB3 hS3 hB1 hB hq2 hq1 hb1 hS1 hS2 hp3 hb2
    show gName 4 (.ref p3) _ H3 _
    clear hp1 n1
    have hT3 : cutS [b] H3 p3 = some (.lst (ts.map V.str)) := cutS_at hq3 (not1 n3)
    have t3 : Trk [b] H3 := Trk.cons Trk.nil hb3
    walk_at "ev"
    intro p4 hp4
    have n4 : p4 ≠ b := fun z => by
      rw [z, hb3] at hp4
      cases hp4
    have hb4 : (upd H3 p4 (.lst (poolQ.map V.str))) b = some (.lst bx3) := (Same.upd hp4) _ _ hb3
    have hS4 : Same (cutS [b] H3) (cutS [b] (upd H3 p4 (.lst (poolQ.map V.str)))) := cutS_mono (.upd hp4)
    have hq4 : (upd H3 p4 (.lst (poolQ.map V.str))) p4 = some (.lst (poolQ.map V.str)) := upd_same
    show tCons _ _ _ (upd H3 p4 (.lst (poolQ.map V.str))) _
    generalize upd H3 p4 (.lst (poolQ.map V.str)) = H4 at hb4 hS4 hq4 ⊢
    walk_at "ev"
    refine ⟨b, p4, (m : Int), bx3, N + 20, poolQ, rfl, hb4, hB3', by show N + 20 + 14 < 2 ^ 60; omega, sql_of hq4, by decide, by omega, by omega, fun H5 p5 ms rs2 bx5 hperm2 hlen2 hp5 hq5 hb5 hB5 hS5 => ?_⟩
    have ml : ms.length = m := by
      rw [hlen2]
      show min _ 14 = _
      omega
    have hS5' := hS4.trans hS5
    have hmn : ms.Nodup ∧ ∀ x ∈ ms, x ∈ poolQ := by
      have hn : (ms ++ rs2).Nodup := hperm2.nodup_iff.mpr (by decide +kernel)
      exact ⟨(List.nodup_append.mp hn).1, fun x hx => hperm2.mem_iff.mp (List.mem_append_left _ hx)⟩
    have hB5' : BoxL bx5 (N + 40) := hB5.mono (by omega)
    clear hlen2 hperm2 hB5 hS5 hq4 hb4 hS4 hp5
    walk_at "ev"
    refine ⟨p5, ms, rfl, sql_of hq5, by omega, fun zs p6 hz1 hz2 hp6 => ?_⟩
    have zl : zs.length = m := by rw [hz1.length_eq, ml]
    have hzn : zs.Nodup ∧ ∀ x ∈ zs, x ∈ poolQ := ⟨hz1.nodup_iff.mpr hmn.1, fun x hx => hmn.2 x (hz1.mem_iff.mp hx)⟩
    have hb6 : (upd H5 p6 (.lst (zs.map V.str))) b = some (.lst bx5) := (Same.upd hp6) _ _ hb5
    have hS6 : Same (cutS [b] H3) (cutS [b] (upd H5 p6 (.lst (zs.map V.str)))) := hS5'.trans (cutS_mono (.upd hp6))
    have hq6 : (upd H5 p6 (.lst (zs.map V.str))) p6 = some (.lst (zs.map V.str)) := upd_same
    have n6 : p6 ≠ b := fun z => by
      rw [z, hb5] at hp6
      cases hp6
    clear hmn hz1 hq5 hp6 hS5' ml
    show gName 5 (.ref p6) _ (upd H5 p6 (.lst (zs.map V.str))) _
    generalize upd H5 p6 (.lst (zs.map V.str)) = H6 at hb6 hS6 hq6 ⊢
    clear hb5 hp4 n4
    walk_at "ev"
    intro p7 hp7
    have n7 : p7 ≠ b := fun z => by
      rw [z, hb6] at hp7
      cases hp7
    have hb7 : (upd H6 p7 (.lst [])) b = some (.lst bx5) := (Same.upd hp7) _ _ hb6
    have hq7 : (upd H6 p7 (.lst [])) p7 = some (.lst []) := upd_same
    have hS7 : Same (cutS [b] H3) (cutS [p7, b] (upd H6 p7 (.lst []))) := hS6.trans (cutS_cons hp7)
    have hM7 : cutS [p7, b] (upd H6 p7 (.lst [])) p6 = some (.lst (zs.map V.str)) := (cutS_cons (S := [b]) (o := .lst []) hp7) _ _ (cutS_at hq6 (not1 n6))
    show gName 6 (.ref p7) _ (upd H6 p7 (.lst [])) _
    generalize upd H6 p7 (.lst []) = H7 at hb7 hS7 hq7 hM7 ⊢
    clear hb6 hS6 hq6 hp7
    refine for_of ?_
    walk_at "ev"
    refine ⟨b, (m : Int), bx5, N + 40, rfl, hb7, hB5', by omega, by omega, small8000 (by omega), fun r8 bx8 r80 r81 hB8 => ?_⟩
    have hq8 : (upd H7 b (.lst bx8)) p7 = some (.lst []) := by
      rw [upd_ne n7]
      exact hq7
    have hb8 : (upd H7 b (.lst bx8)) b = some (.lst bx8) := upd_same
    have eS8 : cutS [p7, b] (upd H7 b (.lst bx8)) = cutS [p7, b] H7 := cutS_upd (List.mem_cons_of_mem _ List.mem_cons_self)
    rw [← eS8] at hS7 hM7
    generalize upd H7 b (.lst bx8) = H8 at hb8 hS7 hq8 hM7 ⊢
    clear hb7 hq7 eS8 hB5'
    have hSl8 : SqL K H8 p6 (zs.map V.str) := sql_of (cutS_le _ _ hM7)
    walk_at "ev"
    intro p9 hp9
    obtain ⟨k, hk⟩ : ∃ k : Nat, 1 + r8 = (k : Int) := ⟨(1 + r8).toNat, by omega⟩
    rw [hk, cutV_map]
    have kl : k ≤ zs.length := by omega
    have w0 : WSt K b p7 p9 H3 ((zs.take k).map V.str) [] [] (upd H8 p9 (.lst ((zs.take k).map V.str))) bx8 (N + 41) :=
      ⟨(Same.upd hp9) _ _ hb8, hB8, (Same.upd hp9) _ _ hq8, .nil, hS7.trans (cutS_mono (.upd hp9)), cutS_new (Trk.cons (Trk.cons Trk.nil hb8) hq8) hp9⟩
    generalize upd H8 p9 (.lst ((zs.take k).map V.str)) = H9 at w0 ⊢
    clear hp9 hb8 hS7 hq8 hM7 hSl8 hB8
    refine ⟨p9, rfl, ⟨_, sql_of (cutS_le _ _ w0.h9)⟩, ?_⟩
    refine forR_it (walk_list (K := K) (a := p9) (xs := (zs.take k).map V.str)) (fun i σ Hc => ∃ (x7 x8 x9 x10 : Option V) (fs : List V) (qs : List QD) (bxc : List V), σ = [some (.ref b), some (.int (s : Int)), some (.int (m : Int)), some (.int h), some (.ref p3), some (.ref p6), some (.ref p7), x7, x8, x9, x10] ∧
        WSt K b p7 p9 H3 ((zs.take k).map V.str) fs (qs.map (QD.d true)) Hc bxc (N + 41 + 6 * i) ∧ qs.map QD.nm = zs.take i ∧ qs.length = i ∧ ∀ q ∈ qs, q.st ∈ ts ∧ q.en ∈ ts ∧ q.st ≠ q.en ∧ 1 ≤ q.gap ∧ q.gap ≤ q.room ∧ q.room ≤ h)
      ⟨_, _, _, _, [], [], bx8, rfl, w0, rfl, rfl, fun _ hx => absurd hx List.not_mem_nil⟩ (fun i σ Hc _ hh => ?_) (fun i v σ Hc Hc' hi hh y => ?_) (fun σ Hc hh => ?_)
    · obtain ⟨_, _, _, _, _, _, _, _, hw, _⟩ := hh
      exact sql_of (cutS_le _ _ hw.h9)
    · obtain ⟨x7, x8, x9, x10, fs, qs, bxc, rfl, hw, hqn, hql, hqq⟩ := hh
      obtain ⟨rfl, hv⟩ := y
      rw [List.length_map, List.length_take, Nat.min_eq_left kl] at hi
      have hzi : i < zs.length := by omega
      have ev : v = .str zs[i] := by
        rw [List.getElem?_map, List.getElem?_take_of_lt hi, List.getElem?_eq_getElem hzi] at hv
        exact (Option.some.inj hv).symm
      subst ev
      have hTc : SqL K Hc' p3 (ts.map V.str) := sql_of (cutS_le _ _ (hw.hS _ _ hT3))
      have hTl : (ts.map V.str).length = ts.length := List.length_map ..
      walk_at "ev"
      refine ⟨b, _, bxc, _, rfl, hw.hb, hw.hB, by omega, by omega, small8000 (by omega), fun r1 bx1 r10 r11 hB1 => ?_⟩
      have w1 := hw.take n7 hB1
      have hT1 : SqL K _ p3 (ts.map V.str) := sql_of (cutS_le _ _ (w1.hS _ _ hT3))
      generalize upd Hc' b (.lst bx1) = Ha at w1 hT1 ⊢
      walk_at "ev"
      refine ⟨b, _, bx1, _, rfl, w1.hb, w1.hB, by omega, by omega, small8000 (by omega), fun r2 bx2 r20 r21 hB2 => ?_⟩
      have w2 := w1.take n7 hB2
      have hT2 : SqL K _ p3 (ts.map V.str) := sql_of (cutS_le _ _ (w2.hS _ _ hT3))
      generalize upd Ha b (.lst bx2) = Hb at w2 hT2 ⊢
      clear hw w1 hTc hT1 hB1 hB2
      walk_at "ev"
      obtain ⟨ap1, ap2, ap3⟩ := apart (ts.map V.str).length r1 r2 r10 r11 r20 r21
      refine ⟨fun σ Hd => ∃ (o t : Nat) (x10' : Option V) (bxd : List V), σ = [some (.ref b), some (.int (s : Int)), some (.int (m : Int)), some (.int h), some (.ref p3), some (.ref p6), some (.ref p7), some (.str zs[i]), some (.int (o : Int)), some (.int (t : Int)), x10'] ∧
        o < ts.length ∧ t < ts.length ∧ o ≠ t ∧ WSt K b p7 p9 H3 ((zs.take k).map V.str) fs (qs.map (QD.d true)) Hd bxd (N + 41 + 6 * i + 1 + 1 + 1), ?_, ?_⟩
      · walk_at "ev"
        obtain ⟨o, rfl⟩ : ∃ o : Nat, r1 = (o : Int) := ⟨r1.toNat, by omega⟩
        obtain ⟨t, ht⟩ : ∃ t : Nat, ((o : Int) + 1 + r2) % ((ts.map V.str).length : Int) = (t : Int) := ⟨(((o : Int) + 1 + r2) % ((ts.map V.str).length : Int)).toNat, by omega⟩
        rw [ht] at ap1 ap2 ap3
        refine ite2 (fun e => ?_) (fun e => ?_)
        · walk_at "ev"
          refine ⟨b, _, bx2, _, rfl, w2.hb, w2.hB, by omega, by omega, small8000 (by omega), fun r3 bx3' r30 r31 hB3 => ?_⟩
          have w3 := w2.take n7 hB3
          walk_at "ev"
          refine ite2 (fun e2 => ?_) (fun e2 => ?_)
          · walk_at "ev"
            exact ⟨t, o, _, bx3', by rw [← ht]; rfl, by omega, by omega, by omega, w3⟩
          · exact ⟨o, t, _, bx3', by rw [← ht]; rfl, by omega, by omega, by omega, w3⟩
        · refine iteF ?_
          exact ⟨o, t, _, bx2, by rw [← ht]; rfl, by omega, by omega, by omega, ⟨w2.hb, w2.hB.mono (by omega), w2.hf, w2.hd, w2.hS, w2.h9⟩⟩
      · rintro σ Hd ⟨o, t, x10', bxd, rfl, ho, ht, hot, w3⟩
        walk_at "ev"
        refine ⟨b, h, bxd, _, rfl, w3.hb, w3.hB, by omega, by omega, small8000 (by omega), fun r5 bx5' r50 r51 hB5 => ?_⟩
        have w5 := w3.take n7 hB5
        have hT5 : SqL K _ p3 (ts.map V.str) := sql_of (cutS_le _ _ (w5.hS _ _ hT3))
        have hF5 : SqL K _ p7 fs := sql_of w5.hf
        generalize upd Hd b (.lst bx5') = He at w5 hT5 hF5 ⊢
        walk_at "ev"
        have a1 : atI (ts.map V.str) (o : Int) = some (.str ts[o]) := at_of rfl (by rw [List.getElem?_map, List.getElem?_eq_getElem ho]; rfl)
        have a2 : atI (ts.map V.str) (t : Int) = some (.str ts[t]) := at_of rfl (by rw [List.getElem?_map, List.getElem?_eq_getElem ht]; rfl)
        refine ⟨_, _, _, _, rfl, rfl, hT5, a1, ?_⟩
        walk_at "ev"
        refine ⟨_, _, _, _, rfl, rfl, hT5, a2, ?_⟩
        walk_at "ev"
        refine ⟨b, 1 + r5, bx5', _, rfl, w5.hb, w5.hB, by omega, by omega, small8000 (by omega), fun r6 bx6' r60 r61 hB6 => ?_⟩
        have w6 := w5.take n7 hB6
        generalize upd He b (.lst bx6') = Hf at w6 ⊢
        walk_at "ev"
        intro pt hpt
        have w7 := w6.same (.upd (o := .tup [V.str zs[i], V.str ts[o], V.str ts[t], V.int (1 + r5), V.int (1 + r6)]) hpt)
        have hpt2 : cutS [p7, b] (upd Hf pt (.tup [V.str zs[i], V.str ts[o], V.str ts[t], V.int (1 + r5), V.int (1 + r6)])) pt = some (.tup [V.str zs[i], V.str ts[o], V.str ts[t], V.int (1 + r5), V.int (1 + r6)]) :=
          cutS_new (Trk.cons (Trk.cons Trk.nil w6.hb) w6.hf) hpt
        have fl : fs.length = qs.length := by rw [dpa_len w7.hd, List.length_map]
        have w8 := w7.push n7 (v := .ref pt) (d := QD.d true ⟨zs[i], ts[o], ts[t], 1 + r5, 1 + r6⟩) (.tup (sqt_of hpt2) (.cons (.str _) (.cons (.str _) (.cons (.str _) (.cons (.int _) (.cons (.int _) .nil))))))
        refine ⟨p7, fs, .ref pt, rfl, rfl, w7.hf, sz_lt (by omega), ?_⟩
        refine ⟨_, _, _, _, fs ++ [.ref pt], qs ++ [⟨zs[i], ts[o], ts[t], 1 + r5, 1 + r6⟩], bx6', rfl, ?_, ?_, ?_, ?_⟩
        · rw [List.map_append]
          exact w8.mono (by omega)
        · rw [List.map_append, hqn, List.take_add_one, List.getElem?_eq_getElem hzi]
          rfl
        · rw [List.length_append, hql]
          rfl
        · intro x hx
          rcases List.mem_append.mp hx with hx | hx
          · exact hqq x hx
          · rw [List.mem_singleton.mp hx]
            refine ⟨List.getElem_mem ho, List.getElem_mem ht, fun e => hot (nd_ix htn.1 (List.getElem?_eq_getElem ho) (by rw [List.getElem?_eq_getElem ht]; exact congrArg some e.symm)), by show 1 ≤ 1 + r6; omega, by show 1 + r6 ≤ 1 + r5; omega, by show 1 + r5 ≤ h; omega⟩
    · obtain ⟨x7, x8, x9, x10, fs, qs, bxc, rfl, hw, hqn, hql, hqq⟩ := hh
      rw [List.length_map, List.length_take, Nat.min_eq_left kl] at hw hqn hql
      have hTc : SqL K Hc p3 (ts.map V.str) := sql_of (cutS_le _ _ (hw.hS _ _ hT3))
      walk_at "ev"
      refine ⟨by omega, fun us p10 hu1 hu2 hp10 => ?_⟩
      have w10 := hw.same (.upd (o := .lst (us.map V.str)) hp10)
      refine ⟨p10, _, rfl, sql_of upd_same, fun p11 ob hp11 hoc hod => ?_⟩
      have w11 := w10.same (.upd (o := .frz ob (.tup (us.map V.str))) hp11)
      have n11 : p11 ≠ b := fun z => by
        rw [z, w10.hb] at hp11
        cases hp11
      have g11 : cutS [b] _ p11 = some (.frz ob (.tup (us.map V.str))) := cutS_at (upd_same (H := upd Hc p10 (.lst (us.map V.str))) (a := p11) (o := .frz ob (.tup (us.map V.str)))) (not1 n11)
      generalize upd (upd Hc p10 (.lst (us.map V.str))) p11 (.frz ob (.tup (us.map V.str))) = H11 at w11 g11 ⊢
      walk_at "ev"
      refine ⟨p7, fs, rfl, .inl ⟨sql_of w11.hf, fun p12 hp12 => ?_⟩⟩
      have w12 := w11.same (.upd (o := .tup fs) hp12)
      have n12 : p12 ≠ b := fun z => by
        rw [z, w11.hb] at hp12
        cases hp12
      have g12 : cutS [b] _ p12 = some (.tup fs) := cutS_at (upd_same (H := H11) (a := p12) (o := .tup fs)) (not1 n12)
      have g11' := cutS_mono (S := [b]) (.upd (o := .tup fs) hp12) _ _ g11
      generalize upd H11 p12 (.tup fs) = H12 at w12 g12 g11' ⊢
      walk_at "ev"
      intro p13 hp13
      have w13 := w12.same (.upd (o := .tup [.ref p11, .ref p12]) hp13)
      have n13 : p13 ≠ b := fun z => by
        rw [z, w12.hb] at hp13
        cases hp13
      have e13 : Same (cutS [b] H12) (cutS [b] (upd H12 p13 (.tup [.ref p11, .ref p12]))) := cutS_mono (.upd hp13)
      have htl : ts.length = us.length := hu1.length_eq.symm
      have hus : us.Nodup ∧ ∀ x, x ∈ us ↔ x ∈ ts := ⟨hu1.nodup_iff.mpr htn.1, fun x => hu1.mem_iff⟩
      refine q _ (.ref p13) us qs bxc ⟨hus.1, hu2, by omega, by omega, fun x hx => htn.2 x ((hus.2 x).mp hx), ⟨zs, hzn.1, hz2, hzn.2, k, hqn⟩, by omega, by omega, fun x hx => ?_⟩ ?_ ⟨p13, p11, p12, ob, rfl, cutS_at upd_same (not1 n13), e13 _ _ g11', hoc, hod⟩ w13.hb (w13.hB.mono (by omega)) ?_
      · obtain ⟨q1, q2, q3⟩ := hqq x hx
        exact ⟨(hus.2 _).mpr q1, (hus.2 _).mpr q2, q3⟩
      · exact .tup (sqt_of (cutS_at upd_same (not1 n13))) (.cons (.tup (.inl (.inr ⟨ob, e13 _ _ g11'⟩)) dpa_strs) (.cons (.tup (sqt_of (e13 _ _ g12)) (cutS_tail.dpa w13.hd)) .nil))
      · exact hS3'.trans (w13.hS.trans cutS_tail)
end
end Jl

set_option Elab.async false
set_option linter.all false
set_option maxRecDepth 100000
set_option maxHeartbeats 4000000
set_option pp.maxSteps 900
namespace Jl
open PySem PySem.Spec PyProof.Rows L2
open Evl (sz_of sz_lt)
local macro_rules | `(tactic| walk_at "at") => `(tactic| first | exact box0 | exact box1 | exact box2)
local macro_rules | `(tactic| walk_at "sq") => `(tactic| first | (show SqL _ _ _ _; assumption) | (show SqT _ _ _ _; assumption) | (show _ = some _; assumption))
local macro_rules | `(tactic| walk_at "side") => `(tactic| first
  | (show (0 : Int) < _; decide)
  | (show (0 : Int) < _; omega)
  | exact ⟨by decide, by decide, by decide⟩
  | exact sz_of (Nat.le_of_ble_eq_true rfl)
  | exact rfl
  | exact Or.inl (by decide)
  | exact Or.inr (by decide)
  | exact Or.inr ⟨by omega, by omega⟩
  | exact Or.inl ⟨by omega, by omega⟩
  | exact ⟨by decide, by decide +kernel⟩)
local macro_rules | `(tactic| walk_at "ev1") => `(tactic| first
  | refine ⟨_, rfl, ?_⟩
  | refine ⟨_, _, rfl, rfl, ?_⟩
  | refine ⟨_, _, _, _, rfl, rfl, (by walk_at "sq"), (by walk_at "at"), ?_⟩
  | refine ⟨_, _, rfl, (by walk_at "sq"), ?_⟩
  | refine ⟨_, _, rfl, Or.inl (by walk_at "sq"), ?_⟩
  | refine ⟨_, _, rfl, Or.inr (by walk_at "sq"), ?_⟩
  | refine Or.inl ⟨_, rfl, ?_⟩
  | refine Or.inr ⟨_, rfl, ?_⟩
  | refine ⟨(by walk_at "side"), ?_⟩
  | refine ⟨.inl ⟨rfl, _, (by walk_at "sq")⟩, ?_⟩
  | refine ⟨_, _, rfl, ?_⟩)
local macro_rules | `(tactic| walk_at "nrm") => `(tactic| dsimp only [tNil, tCons, tC, tCB])
local macro_rules | `(tactic| walk_at "ev") => `(tactic| repeat (walk_at "ev1"))

/-! ### dict comprehensions by a walk -/
section
variable {X : Cx}
inductive DcP (wi : TI) (g : TG) (tt : TT) (tk tv : TE) (vs : List Nat) (σ : L2.St) (H : Hp) (Q : VK) : Prop
  | yes (h : tDc wi g tt tk tv vs σ H Q)
  | no (h : False)
def tDcX (wi : TI) (g : TG) (tt : TT) (tk tv : TE) (vs : List Nat) : TE := fun σ H Q => DcP wi g tt tk tv vs σ H Q
theorem pe_dcX {e : Expr} {wi : TI} {g : TG} {tt : TT} {tk tv : TE} {vs : List Nat} (h : PE X e (tDc wi g tt tk tv vs)) : PE X e (tDcX wi g tt tk tv vs) := ⟨fun pins s σ H Q I q => by
  cases q with
  | yes q => exact h.run pins s σ H Q I q
  | no q => exact q.elim⟩
theorem swd_true {kx vx : Expr} {gs : List Comprehension} {scope : Scope} {pos py : Pos} {y : Str} {l : Nat} {env : Env} (h1 : env.scope.kind = .function) (h2 : env.scope.names.lookup y = some .local) (h3 : (py.line == pos.line) = true)
    (h4 : (scope.names.any fun (n, k) => n == y && (k == .local || k == .cell)) = false) : swapsWith (.DictComp kx vx gs scope pos) (some (.Name y py)) l env = pure true := by
  have g1 : env.blockKind = .function := by
    unfold Env.blockKind
    rw [h1]
    rfl
  have g2 : env.kindOf y = some .local := h2
  unfold swapsWith
  simp only [g1, g2, h4, Expr.pos, h3]
  rfl
/-- y = {k: v for ..}: the name is stored within the comprehension's block -/
theorem ps_setDc {i : Nat} {y : Str} {py : Pos} {kx vx tg iter : Expr} {ifs : List Expr} {scope : Scope} {own : List (Str × Nat)} {pos spos : Pos} {wi : TI} {g : TG} {tt : TT} {tk tv : TE} (hc : X.calm = true) (hN : X.N.Nodup) (hy : X.N[i]? = some y) (hyl : X.env.scope.names.lookup y = some .local)
    (hsw : swapsWith (.DictComp kx vx [⟨tg, iter, ifs, 0⟩] scope pos) (some (.Name y py)) spos.line X.env = pure true) (hi : PI X tg iter wi) (ok : BlkOk X.N X.env.scope scope own)
    (hg : ∀ (s : Shared) (H : Hp) (C : Addr) (cl : List (Str × Addr)) (fp : List Addr), PG (X.blk s H scope (compEnvC scope cl C X.env) fp) tg g) (ht : ∀ (s : Shared) (H : Hp) (C : Addr) (cl : List (Str × Addr)) (fp : List Addr), PTs (X.blk s H scope (compEnvC scope cl C X.env) fp) ifs tt)
    (hk : ∀ (s : Shared) (H : Hp) (C : Addr) (cl : List (Str × Addr)) (fp : List Addr), PE (X.blk s H scope (compEnvC scope cl C X.env) fp) kx tk)
    (he : ∀ (s : Shared) (H : Hp) (C : Addr) (cl : List (Str × Addr)) (fp : List Addr), PE (X.blk s H scope (compEnvC scope cl C X.env) fp) vx tv) (hs : ∀ x, foldedSetIterable iter X.env x = pure x := by intro _; rfl) :
    PS X (.Assign [.Name y py] (.DictComp kx vx [⟨tg, iter, ifs, 0⟩] scope pos) spos) (tAsg (tDc wi g tt tk tv (own.map (·.2))) (gName i)) := ⟨fun pins s σ H D I h => by
  rw [exec_Assign_Name_used _ _ _ _ hsw]
  have h' : tDc wi g tt tk tv (own.map (·.2)) σ H (fun x H1 => gName i x σ H1 D.nx) := h
  have core := dc_core (pos := pos) (pos' := firstIterPos [⟨tg, iter, ifs, 0⟩] pos) (use := some (assign (.Name y py) X.env)) (Qf := fun _ s' => SP X pins D .next s') hc hN I hi ok hg ht hk he hs h' (fun L C s' m H' I' q hn f => by
    obtain ⟨f0, f1, f2, f3, f4, f5⟩ := f
    show wpAny _ _ (assign (.Name y py) X.env (.ref L)) _ _ _
    exact wpAny_assign_Name (store_ok2 (v := V.ref L) I' hN hy (.inl hyl) rfl (fun s2 I2 ⟨a, sb, ha⟩ => ⟨m, hn.sameBut sb (by
      rcases ha with z | z
      · rw [z]
        exact f1
      · exact fun e => f4 y a z e.symm), fun h3 sb3 => ⟨_, H', I2.turned (t' := s2.toks) (fun b o hb e => (sb3.2 b hb).trans e) f0 f1 f3 f4 f5, q⟩⟩) (.inr hyl)))
  exact wpAny_bind (wpAny_standAt (wpAny_bind (wpAny_bind (thn core fun _ s' hq => wpAny_pure (wpAny_pure hq)))))⟩
theorem ps_setDcX {st : Stmt} {i : Nat} {wi : TI} {g : TG} {tt : TT} {tk tv : TE} {vs : List Nat} (h : PS X st (tAsg (tDc wi g tt tk tv vs) (gName i))) : PS X st (tAsg (tDcX wi g tt tk tv vs) (gName i)) := ⟨fun pins s σ H D I q => by
  have q : DcP wi g tt tk tv vs σ H (fun x H1 => gName i x σ H1 D.nx) := q
  cases q with
  | yes q => exact h.run pins s σ H D I q
  | no q => exact q.elim⟩
theorem dc_of {wi : TI} {g : TG} {tt : TT} {tk tv : TE} {vs : List Nat} {σ : L2.St} {H : Hp} {Q : VK} (q : tDc wi g tt tk tv vs σ H Q) : tDcX wi g tt tk tv vs σ H Q := .yes q
end
/-- {x: f x for x in a row of texts} -/
theorem dc_strs {K : PySem.W.Frag} {tl tk tv : TE} {j : Nat} {vs : List Nat} {σ : L2.St} {H H0 : Hp} {Q : VK} {a : Addr} {fb : Bool} {xs : List Str} (f : Str → V) (hn : xs.Nodup)
    (ht : ∀ R' : VK, R' (.ref a) H0 → tl σ H R') (hs : SqF fb K H0 a (xs.map V.str)) (hl : xs.length ≤ 1000) (hw : ∀ x, wipe ((wipe σ vs).set j (some x)) vs = wipe σ vs)
    (hk : ∀ (x : Str) (H1 : Hp) (Q' : VK), Q' (.str x) H1 → tk ((wipe σ vs).set j (some (.str x))) H1 Q') (hv : ∀ (x : Str) (H1 : Hp) (Q' : VK), Q' (f x) H1 → tv ((wipe σ vs).set j (some (.str x))) H1 Q')
    (q : ∀ D, H0 D = none → Q (.ref D) (upd H0 D (.dK (xs.map fun x => (.inr x, f x))))) : tDcX (iSeq K tl) (gName j) tYes tk tv vs σ H Q := by
  refine dc_of ?_
  refine iSeq_at ht hs fun J w D hD => ?_
  refine ⟨fun i m H1 => m = xs.length - i ∧ i ≤ xs.length ∧ H1 = upd H0 D (.dK ((xs.take i).map fun x => (.inr x, f x))), ⟨_, rfl, Nat.zero_le _, rfl⟩, fun i m H1 hW => ?_⟩
  obtain ⟨rfl, hi, rfl⟩ := hW
  have hG : SqF fb K (upd H0 D (.dK ((xs.take i).map fun x => (.inr x, f x)))) a (xs.map V.str) := (Same.upd hD).sqF hs
  have hxl : (xs.map V.str).length = xs.length := List.length_map ..
  by_cases hlt : i < xs.length
  · refine .inr ⟨w.goes i _ (by omega) hG, fun H2 => H2 = upd H0 D (.dK ((xs.take (i + 1)).map fun x => (.inr x, f x))), fun H2 e => ⟨xs.length - (i + 1), by omega, rfl, hlt, e⟩, fun x H2 y => ?_⟩
    obtain ⟨rfl, hx⟩ := w.yields i _ x H2 (by omega) hG y
    rw [List.getElem?_map, List.getElem?_eq_getElem hlt] at hx
    cases hx
    refine ⟨hw _, ?_⟩
    dsimp only [tYes]
    rw [if_pos rfl]
    refine hk _ _ _ (hv _ _ _ ⟨_, .inr xs[i], rfl, upd_same, ?_, ?_⟩)
    · rw [List.length_map, List.length_take]
      exact sz_lt (by omega)
    · rw [upd_upd, List.take_add_one, List.getElem?_eq_getElem hlt, List.map_append, putK_new]
      · rfl
      · have hno : ∀ ys : List Str, xs[i] ∉ ys → valV (ys.map fun x => ((.inr x : Key), f x)) (.inr xs[i]) = none := by
          intro ys
          induction ys with
          | nil => exact fun _ => rfl
          | cons y ys ih =>
            intro hy
            rw [List.map_cons, valV_neg (fun e => hy (by rw [← Sum.inr.inj e]; exact List.mem_cons_self))]
            exact ih fun h => hy (List.mem_cons_of_mem _ h)
        refine hno _ fun hm => ?_
        obtain ⟨k, hk1, hk2⟩ := List.mem_take_iff_getElem.mp hm
        have := nd_ix hn (List.getElem?_eq_getElem hlt) (by rw [List.getElem?_eq_getElem (show k < xs.length by omega)]; exact congrArg some hk2)
        omega
  · have e : i = xs.length := by omega
    subst e
    refine .inl ⟨?_, ?_⟩
    · have := w.stops _ hG
      rw [hxl] at this
      exact this
    · rw [List.take_length]
      exact q D hD
/-- tuple(x) of a list or a tuple -/
def rTupOf (K : PySem.W.Frag) : List V → Hp → VK → Prop := fun xs H Q => ∃ p ys, xs = [.ref p] ∧ ((SqL K H p ys ∧ ∀ l, H l = none → Q (.ref l) (upd H l (.tup ys))) ∨ (SqT K H p ys ∧ Q (.ref p) H))
theorem call_tup_of {X : Cx} : CallR X (.type "tuple") (rTupOf X.K) := call_tuple_of
/-! ### sorted of data -/
def rSortD (K : PySem.W.Frag) : List V → Hp → VK → Prop := fun vs H Q => ∃ (a : Addr) (bs : List (V × PyData)), vs = [.ref a] ∧ SqL K H a (bs.map (·.1)) ∧ (∀ b ∈ bs, Dp K H b.1 b.2) ∧ PySem.W.AllAlike (bs.map (·.2)) ∧ PySem.W.Sortable (bs.map (·.2)) ∧ (∀ b ∈ bs, b.2.depth ≤ 30) ∧
  ∀ p, H p = none → Q (.ref p) (upd H p (.lst ((bs.mergeSort (PySem.W.dataLe false (·.2))).map (·.1))))
section
variable {X : Cx}
theorem each_vals : ∀ {us : List Value} {bs : List (V × PyData)}, Vals (bs.map (·.1)) us → PySem.W.EachIs (fun u b => RelV b.1 u) us bs
  | _, [], .nil => .nil
  | _, _ :: _, .cons r t => .cons r (each_vals t)
theorem vals_each : ∀ {us : List Value} {bs : List (V × PyData)}, PySem.W.EachIs (fun u b => RelV b.1 u) us bs → Vals (bs.map (·.1)) us
  | _, _, .nil => .nil
  | _, _, .cons r t => .cons r (vals_each t)
theorem cr_sortedD (hc : X.calm = true) (hu : X.A.units + 64 < cLine) : CallR X (.builtin "sorted") (rSortD X.K) := by
  intro pins s σ H vs us Q I r h
  obtain ⟨a, bs, rfl, hs, hd, hal, hso, hdp, q⟩ := h
  obtain ⟨its, rv, hl, hz⟩ := I.list hs
  rw [Vals.ref1 r]
  have he := each_vals rv
  have hr : ∀ (us : List Value) (bs : List (V × PyData)), (∀ b ∈ bs, Dp X.K H b.1 b.2) → PySem.W.EachIs (fun u b => RelV b.1 u) us bs → PySem.W.EachIs (fun u b => ∃ as, Reads s.heap u b.2 as) us bs := by
    intro us bs hd he
    induction he with
    | nil => exact .nil
    | @cons u b us bs h1 h2 ih => exact .cons (Dp.reads I b.2 b.1 u (hd b List.mem_cons_self) h1) (ih fun b hb => hd b (List.mem_cons_of_mem _ hb))
  have hlen : bs.length = its.length := by have := rv.length; rw [List.length_map] at this; exact this
  refine PySem.W.sorted_data (enc := (·.2)) hl.isList he (hr _ _ hd he) hal hso (by rw [List.length_map] at hz; exact hz) (fun b hb => by have := hdp b hb; omega) fun out hol ho => ?_
  obtain ⟨ep, he'⟩ := PyProof.Rows.sortedAll_at s.heap its out.toArray
  have hlen2 : ((bs.mergeSort (PySem.W.dataLe false (·.2))).map (·.1)).length ≤ sizeLine := by
    rw [List.length_map, List.length_mergeSort]
    rw [List.length_map] at hz
    exact hz
  exact ⟨.ref _, upd H (s.heap.objs.size + 1) (.lst _), I.laid (t' := s.toks) (fun _ _ => PyProof.Rows.sortedAll_old) (Nat.le_succ _) ⟨hlen2, out, ep, vals_each ho, he'⟩, rfl, q _ (I.hok.fresh (Nat.le_succ _))⟩
end
end Jl

set_option Elab.async false
set_option linter.all false
set_option maxRecDepth 100000
set_option maxHeartbeats 4000000
set_option pp.maxSteps 900
namespace Jl
open PySem PySem.Spec PyProof.Rows L2
open Evl (sz_of sz_lt)
local macro_rules | `(tactic| walk_at "at") => `(tactic| first | exact box0 | exact box1 | exact box2)
local macro_rules | `(tactic| walk_at "sq") => `(tactic| first | (show SqL _ _ _ _; assumption) | (show SqT _ _ _ _; assumption) | (show _ = some _; assumption))
local macro_rules | `(tactic| walk_at "side") => `(tactic| first
  | (show (0 : Int) < _; decide)
  | (show (0 : Int) < _; omega)
  | exact ⟨by decide, by decide, by decide⟩
  | exact sz_of (Nat.le_of_ble_eq_true rfl)
  | exact rfl
  | exact Or.inl (by decide)
  | exact Or.inr (by decide)
  | exact Or.inr ⟨by omega, by omega⟩
  | exact Or.inl ⟨by omega, by omega⟩
  | exact ⟨by decide, by decide +kernel⟩)
local macro_rules | `(tactic| walk_at "ev1") => `(tactic| first
  | refine ⟨_, rfl, ?_⟩
  | refine ⟨_, _, rfl, rfl, ?_⟩
  | refine ⟨_, _, _, _, rfl, rfl, (by walk_at "sq"), (by walk_at "at"), ?_⟩
  | refine ⟨_, _, rfl, (by walk_at "sq"), ?_⟩
  | refine ⟨_, _, rfl, Or.inl (by walk_at "sq"), ?_⟩
  | refine ⟨_, _, rfl, Or.inr (by walk_at "sq"), ?_⟩
  | refine Or.inl ⟨_, rfl, ?_⟩
  | refine Or.inr ⟨_, rfl, ?_⟩
  | refine ⟨(by walk_at "side"), ?_⟩
  | refine ⟨.inl ⟨rfl, _, (by walk_at "sq")⟩, ?_⟩
  | refine ⟨_, _, rfl, ?_⟩)
local macro_rules | `(tactic| walk_at "nrm") => `(tactic| dsimp only [tNil, tCons, tC, tCB])
local macro_rules | `(tactic| walk_at "ev") => `(tactic| repeat (walk_at "ev1"))

theorem vals_app : ∀ {vs : List V} {us : List Value} {zs : List V} {ws : List Value}, Vals vs us → Vals zs ws → Vals (vs ++ zs) (us ++ ws)
  | _, _, _, _, .nil, h => h
  | _, _, _, _, .cons r t, h => .cons r (vals_app t h)
section
variable {X : Cx} {CX : CXT} {k : Nat} {f : Addr} {fd : FuncData} {ps ks : List Str} {sp : Sp} {E : XK} {x : Str} {p pos : Pos} {kws : List Keyword} {tk : TA} {g : List Value → List Value → List Value} {gV : List V → List V → List V}
def tCallK0 (sp : Sp) (gV : List V → List V → List V) (E : XK) (tk : TA) : TE := fun σ H Q => tk σ H fun zs H2 => sp (gV [] zs) H2 Q E
/-- f(k = e, ..), nothing by position -/
theorem pe_callK0 (F : FnOk X.prog X.w X.K X.mg X.base CX k f fd ps sp) (hr : Room k X.A) (hg : Gl X x) (hm : X.mg x = some (.ref f)) (hk : PySem.W.keepIn X.K (.ref f) = true) (hb : KBinds X.K fd ps ks g gV) (hx : Passes CX X E)
    (hkw : PK X kws tk) (hall : (backToKw pos (keywordEach kws X.env)).all (·.1.isSome) = true := by rfl) (hks : (backToKw pos (keywordEach kws X.env)).filterMap (·.1) = ks := by rfl)
    (hdb : (x == ("__debug__" : Str)) = false := by decide) (hpl : ((backTo pos (starEach [] X.env)).any (·.1) || (backToKw pos (keywordEach kws X.env)).any (·.1.isNone)) = false := by rfl) :
    PE X (.Call (.Name x p) [] kws pos) (tCallK0 sp gV E tk) := by
  refine ⟨fun pins s σ H Q I h => ?_⟩
  refine wpAny_Call_Name_kw (ld_glob I hg hm ?_ hdb)
  refine PySem.W.callWith_KW0 (h₀ := X.base) I.ok.mod.kin hk hall (thn (hkw.run pos pins s σ H _ I h) fun ws s2 ⟨zs, H2, I2, rz, q2⟩ => ⟨I2.kIn, ?_⟩) hpl
  rw [hks]
  exact run_fnk (us := []) (vs := []) F hr hb hx I2 .nil rz q2
end
/-! ### data of nets: shape, depth -/
theorem canAll : ∀ {ds : List PyData}, (∀ d ∈ ds, d.canLay0 = true) → PyData.canLayAll0 ds = true
  | [], _ => by simp [PyData.canLayAll0]
  | d :: ds, h => by
    rw [PyData.canLayAll0, h d List.mem_cons_self, canAll fun e he => h e (List.mem_cons_of_mem _ he)]
    rfl
theorem depAll {n : Nat} : ∀ {ds : List PyData}, (∀ d ∈ ds, d.depth ≤ n) → PyData.depthAll ds ≤ n
  | [], _ => by simp [PyData.depthAll]
  | d :: ds, h => by
    rw [PyData.depthAll]
    exact Nat.max_le.mpr ⟨h d List.mem_cons_self, depAll fun e he => h e (List.mem_cons_of_mem _ he)⟩
theorem poolW_ok : ∀ x ∈ poolW, PyData.strOk x = true := by decide +kernel
theorem poolQ_ok : ∀ x ∈ poolQ, PyData.strOk x = true := by decide +kernel
theorem GoodNet.nm_ok {s m : Nat} {h : Int} {ws : List Str} {qs : List QD} (g : GoodNet s m h ws qs) : ∀ q ∈ qs, PyData.strOk q.nm = true := fun q hq => by
  obtain ⟨l, _, _, hl, k, e⟩ := g.qn
  have : q.nm ∈ l.take k := by
    rw [← e]
    exact List.mem_map.mpr ⟨q, hq, rfl⟩
  exact poolQ_ok _ (hl _ (List.mem_of_mem_take this))
theorem can_seq {f : Bool} {ds : List PyData} (h : ∀ d ∈ ds, d.canLay0 = true) : (seqD f ds).canLay0 = true := by
  cases f with
  | true =>
    show (PyData.tuple ds).canLay0 = true
    rw [PyData.canLay0]
    exact canAll h
  | false =>
    show (PyData.list ds).canLay0 = true
    rw [PyData.canLay0]
    exact canAll h
theorem dep_seq {f : Bool} {n : Nat} {ds : List PyData} (h : ∀ d ∈ ds, d.depth ≤ n) : (seqD f ds).depth ≤ n + 1 := by
  cases f with
  | true =>
    show (PyData.tuple ds).depth ≤ n + 1
    rw [PyData.depth]
    have := depAll h
    omega
  | false =>
    show (PyData.list ds).depth ≤ n + 1
    rw [PyData.depth]
    have := depAll h
    omega
theorem mem2 {α : Type} {a b x : α} (h : x ∈ [a, b]) : x = a ∨ x = b := by simpa using h
theorem mem5 {α : Type} {a b c d e x : α} (h : x ∈ [a, b, c, d, e]) : x = a ∨ x = b ∨ x = c ∨ x = d ∨ x = e := by simpa using h
theorem net_shaped {f : Bool} {s m : Nat} {h : Int} {ws : List Str} {qs : List QD} (g : GoodNet s m h ws qs) : SeqAt.shaped (netD f ws qs) = true := by
  have c1 : ∀ x ∈ ws, (PyData.str x).canLay0 = true := fun x hx => by
    rw [PyData.canLay0]
    exact poolW_ok x (g.wp x hx)
  have h1 : (netD f ws qs).canLay0 = true := can_seq fun d hd => by
    rcases mem2 hd with rfl | rfl
    · refine can_seq fun d hd => ?_
      obtain ⟨x, hx, rfl⟩ := List.mem_map.mp hd
      exact c1 x hx
    · refine can_seq fun d hd => ?_
      obtain ⟨q, hq, rfl⟩ := List.mem_map.mp hd
      refine can_seq fun d hd => ?_
      have hw := g.qq q hq
      rcases mem5 hd with rfl | rfl | rfl | rfl | rfl
      · rw [PyData.canLay0]
        exact g.nm_ok q hq
      · exact c1 _ hw.1
      · exact c1 _ hw.2.1
      · simp [PyData.canLay0]
      · simp [PyData.canLay0]
  have h2 : (netD f ws qs).depth ≤ 3 := dep_seq (n := 2) fun d hd => by
    rcases mem2 hd with rfl | rfl
    · refine dep_seq (n := 1) fun d hd => ?_
      obtain ⟨x, hx, rfl⟩ := List.mem_map.mp hd
      simp [PyData.depth]
    · refine dep_seq (n := 1) fun d hd => ?_
      obtain ⟨q, hq, rfl⟩ := List.mem_map.mp hd
      refine dep_seq (n := 0) fun d hd => ?_
      rcases mem5 hd with rfl | rfl | rfl | rfl | rfl <;> simp [PyData.depth]
  unfold SeqAt.shaped
  rw [h1, decide_eq_true (show (netD f ws qs).depth ≤ 64 by omega)]
  rfl
theorem okD_str {n : Nat} {x : Str} : okD (n + 1) (.str x) := trivial
theorem okD_int {n : Nat} {i : Int} : okD (n + 1) (.int i) := trivial
theorem net_okD {f : Bool} {ws : List Str} {qs : List QD} (h1 : ws.length ≤ 60) (h2 : qs.length ≤ 60) : okD 4 (netD f ws qs) :=
  okD_seq.mpr ⟨by show 2 ≤ 4000000; decide, fun d hd => by
    rcases mem2 hd with rfl | rfl
    · refine okD_seq.mpr ⟨by rw [List.length_map]; omega, fun d hd => ?_⟩
      obtain ⟨x, hx, rfl⟩ := List.mem_map.mp hd
      exact okD_str
    · refine okD_seq.mpr ⟨by rw [List.length_map]; omega, fun d hd => ?_⟩
      obtain ⟨q, hq, rfl⟩ := List.mem_map.mp hd
      refine okD_seq.mpr ⟨by show 5 ≤ 4000000; decide, fun d hd => ?_⟩
      rcases mem5 hd with rfl | rfl | rfl | rfl | rfl
      · exact okD_str
      · exact okD_str
      · exact okD_str
      · exact okD_int
      · exact okD_int⟩
theorem net_lists {f : Bool} {ws : List Str} {qs : List QD} : listsD (netD f ws qs) = netD false ws qs := by
  unfold netD
  rw [listsD_seq]
  show PyData.list [listsD _, listsD _] = PyData.list [_, _]
  rw [listsD_seq, listsD_seq, List.map_map, List.map_map]
  have e1 : ws.map (listsD ∘ PyData.str) = ws.map PyData.str := List.map_congr_left fun _ _ => rfl
  have e2 : qs.map (listsD ∘ QD.d f) = qs.map (QD.d false) := List.map_congr_left fun q _ => by
    show listsD (seqD f _) = _
    rw [listsD_seq]
    rfl
  rw [e1, e2]
  rfl
/-- a new tuple of data -/
theorem dp_tup {K : PySem.W.Frag} {S : List Addr} {H : Hp} {p : Addr} {xs : List V} {ds : List PyData} (t : Trk S H) (hp : H p = none) (h : DpAll K (cutS S H) xs ds) : Dp K (cutS S (upd H p (.tup xs))) (.ref p) (.tuple ds) :=
  .tup (sqt_of (cutS_new t hp)) ((cutS_mono (.upd hp)).dpa h)
theorem dp_lst {K : PySem.W.Frag} {S : List Addr} {H : Hp} {p : Addr} {xs : List V} {ds : List PyData} (t : Trk S H) (hp : H p = none) (h : DpAll K (cutS S H) xs ds) : Dp K (cutS S (upd H p (.lst xs))) (.ref p) (.list ds) :=
  .lst (sql_of (cutS_new t hp)) ((cutS_mono (.upd hp)).dpa h)
theorem TupW.mono {H H' : Hp} {v : V} {xs : List V} (h : TupW H v xs) (e : Same H H') : TupW H' v xs := by
  obtain ⟨a0, a1, a2, ob, rfl, h0, h1, h2, h3⟩ := h
  exact ⟨a0, a1, a2, ob, rfl, e _ _ h0, e _ _ h1, h2, h3⟩
theorem mem3 {α : Type} {a b c x : α} (h : x ∈ [a, b, c]) : x = a ∨ x = b ∨ x = c := by simpa using h
theorem dpn_tup {K : PySem.W.Frag} {H : Hp} {p : Addr} {xs : List V} {ds : List PyData} (hp : H p = none) (h : DpAll K H xs ds) : Dp K (upd H p (.tup xs)) (.ref p) (.tuple ds) := .tup (sqt_of upd_same) ((Same.upd hp).dpa h)
theorem dpn_lst {K : PySem.W.Frag} {H : Hp} {p : Addr} {xs : List V} {ds : List PyData} (hp : H p = none) (h : DpAll K H xs ds) : Dp K (upd H p (.lst xs)) (.ref p) (.list ds) := .lst (sql_of upd_same) ((Same.upd hp).dpa h)
theorem dpn_row {K : PySem.W.Frag} {H : Hp} {p : Addr} {a b c : Str} {r g : Int} (hp : H p = none) : Dp K (upd H p (.tup [.str a, .str b, .str c, .int r, .int g])) (.ref p) (QD.d true ⟨a, b, c, r, g⟩) :=
  dpn_tup hp (.cons (.str _) (.cons (.str _) (.cons (.str _) (.cons (.int _) (.cons (.int _) .nil)))))
section
variable {K : PySem.W.Frag}
/-- a net as it is read: a list or a tuple, its rows -/
structure NetAt (K : PySem.W.Frag) (H : Hp) (fb : Bool) (a0 a1 a2 : Addr) (ws : List Str) (qs : List QD) (xq : List V) : Prop where
  h0 : SqF fb K H a0 [.ref a1, .ref a2]
  h1 : SqF fb K H a1 (ws.map V.str)
  h2 : SqF fb K H a2 xq
  hq : ∀ (i : Nat) (v : V), xq[i]? = some v → ∃ (q : QD) (a : Addr), qs[i]? = some q ∧ v = .ref a ∧ SqF fb K H a [.str q.nm, .str q.st, .str q.en, .int q.room, .int q.gap]
  ll : xq.length = qs.length
theorem NetAt.same {H H' : Hp} {fb : Bool} {a0 a1 a2 : Addr} {ws : List Str} {qs : List QD} {xq : List V} (n : NetAt K H fb a0 a1 a2 ws qs xq) (e : Same H H') : NetAt K H' fb a0 a1 a2 ws qs xq :=
  ⟨e.sqF n.h0, e.sqF n.h1, e.sqF n.h2, fun i v h => by
    obtain ⟨q, a, g1, g2, g3⟩ := n.hq i v h
    exact ⟨q, a, g1, g2, e.sqF g3⟩, n.ll⟩
theorem netAt {H : Hp} {fb : Bool} {v : V} {ws : List Str} {qs : List QD} (h : Dp K H v (netD fb ws qs)) : ∃ a0 a1 a2 xq, v = .ref a0 ∧ NetAt K H fb a0 a1 a2 ws qs xq := by
  obtain ⟨a0, x0, rfl, h0, hx⟩ := Dp.seq_of h
  cases hx with
  | cons d1 hx =>
    cases hx with
    | cons d2 hx =>
      cases hx
      obtain ⟨a1, x1, rfl, h1, hx1⟩ := Dp.seq_of d1
      obtain ⟨a2, x2, rfl, h2, hx2⟩ := Dp.seq_of d2
      rw [dpa_strs_of hx1] at h1
      refine ⟨a0, a1, a2, x2, rfl, h0, h1, h2, fun i v hv => ?_, by rw [dpa_len hx2, List.length_map]⟩
      obtain ⟨d, hd, hvd⟩ := dpa_get hx2 hv
      rw [List.getElem?_map] at hd
      cases e : qs[i]? with
      | none =>
        rw [e] at hd
        cases hd
      | some q =>
        rw [e] at hd
        cases hd
        obtain ⟨a, x, rfl, g1, g2⟩ := Dp.seq_of hvd
        cases g2 with
        | cons c1 g2 =>
          cases g2 with
          | cons c2 g2 =>
            cases g2 with
            | cons c3 g2 =>
              cases g2 with
              | cons c4 g2 =>
                cases g2 with
                | cons c5 g2 =>
                  cases g2
                  cases c1
                  cases c2
                  cases c3
                  cases c4
                  cases c5
                  exact ⟨q, a, rfl, rfl, g1⟩
end
end Jl

set_option Elab.async false
set_option linter.all false
set_option maxRecDepth 100000
set_option maxHeartbeats 1000000
namespace Jl
open PySem PySem.Spec PyProof.Rows L2
open Evl (sz_of sz_lt)
/-! ### rows that are grown, queue by queue -/
abbrev Mk := Nat × Bool
structure Gs where
  row : List Mk
  met : List Str
def tch (qs : List QD) (w : Str) (i : Nat) : Option Mk := match qs[i]? with
  | none => none
  | some q => if q.st = w then some (i, true) else if q.en = w then some (i, false) else none
def touchN (qs : List QD) (w : Str) (k : Nat) : List Mk := (List.range k).filterMap (tch qs w)
def far (qs : List QD) (m : Mk) : Str := match qs[m.1]? with
  | none => default
  | some q => if m.2 = true then q.en else q.st
def gtS (a b : Str) : Bool := decide (b.cps.toList < a.cps.toList)
def hdG (a : Gs) : Str := a.met.headD default
def lsG (a : Gs) : Str := a.met.getLastD default
abbrev Ps := List (List Mk) × List Gs
def one (qs : List QD) (a : Gs) (p : Ps) (m : Mk) : Ps :=
  if far qs m = hdG a then (if a.row ≠ [] ∧ m.1 ∉ a.row.map (·.1) then (p.1 ++ [a.row ++ [m]], p.2) else p)
  else if gtS (far qs m) (hdG a) = true ∧ far qs m ∉ a.met then (p.1, p.2 ++ [⟨a.row ++ [m], a.met ++ [far qs m]⟩]) else p
def stp (qs : List QD) (f : List (List Mk)) (o : List Gs) (a : Gs) : Ps := (touchN qs (lsG a) qs.length).foldl (one qs a) (f, o)
inductive Rn (qs : List QD) : Ps → List (List Mk) → Prop
  | done (f : List (List Mk)) : Rn qs (f, []) f
  | next (f : List (List Mk)) (o : List Gs) (a : Gs) (g : List (List Mk)) (h : Rn qs (stp qs f o a) g) : Rn qs (f, o ++ [a]) g
theorem Rn.inv0 {qs : List QD} {p : Ps} {g : List (List Mk)} (h : Rn qs p g) (e : p.2 = []) : g = p.1 := by
  cases h with
  | done f => rfl
  | next f o a g h =>
    have e : o ++ [a] = [] := e
    simp at e
theorem Rn.inv1 {qs : List QD} {p : Ps} {g : List (List Mk)} (h : Rn qs p g) {f : List (List Mk)} {o : List Gs} {a : Gs} (e : p = (f, o ++ [a])) : Rn qs (stp qs f o a) g := by
  cases h with
  | done f' =>
    have e2 : ([] : List Gs) = o ++ [a] := congrArg (·.2) e
    simp at e2
  | next f' o' a' g h =>
    have e1 : f' = f := congrArg (·.1) e
    have e2 : o' ++ [a'] = o ++ [a] := congrArg (·.2) e
    obtain ⟨e3, e4⟩ := List.append_inj' e2 rfl
    cases e4
    subst e1 e3
    exact h
theorem Rn.det {qs : List QD} {p : Ps} {g : List (List Mk)} (h : Rn qs p g) : ∀ {g' : List (List Mk)}, Rn qs p g' → g = g' := by
  induction h with
  | done f => exact fun h' => (h'.inv0 rfl).symm
  | next f o a g _ ih => exact fun h' => ih (h'.inv1 rfl)
/-- how a step lies -/
def link (qs : List QD) (m : Mk) (x y : Str) : Prop := ∃ q, qs[m.1]? = some q ∧ ((m.2 = true ∧ q.st = x ∧ q.en = y) ∨ (m.2 = false ∧ q.en = x ∧ q.st = y))
structure NetG (ws : List Str) (qs : List QD) : Prop where
  q1 : ∀ q ∈ qs, q.st ∈ ws ∧ q.en ∈ ws ∧ q.st ≠ q.en
  nn : (qs.map QD.nm).Nodup
theorem touch_link {qs : List QD} {w : Str} {k : Nat} {m : Mk} (h : m ∈ touchN qs w k) : link qs m w (far qs m) := by
  obtain ⟨i, _, hi⟩ := List.mem_filterMap.mp h
  unfold tch at hi
  cases hq : qs[i]? with
  | none =>
    rw [hq] at hi
    cases hi
  | some q =>
    rw [hq] at hi
    dsimp only at hi
    by_cases h1 : q.st = w
    · rw [if_pos h1] at hi
      cases hi
      refine ⟨q, hq, .inl ⟨rfl, h1, ?_⟩⟩
      unfold far
      rw [hq]
      rfl
    · rw [if_neg h1] at hi
      by_cases h2 : q.en = w
      · rw [if_pos h2] at hi
        cases hi
        refine ⟨q, hq, .inr ⟨rfl, h2, ?_⟩⟩
        unfold far
        rw [hq]
        rfl
      · rw [if_neg h2] at hi
        cases hi
theorem touch_len {qs : List QD} {w : Str} {k : Nat} : (touchN qs w k).length ≤ k := Nat.le_trans (List.length_filterMap_le _ _) (by rw [List.length_range]; exact Nat.le_refl _)
structure Inv (ws : List Str) (qs : List QD) (a : Gs) : Prop where
  ll : a.met.length = a.row.length + 1
  nd : a.met.Nodup
  sub : ∀ x ∈ a.met, x ∈ ws
  lk : ∀ (k : Nat) (m : Mk) (x y : Str), a.row[k]? = some m → a.met[k]? = some x → a.met[k + 1]? = some y → link qs m x y
theorem link_lt {qs : List QD} {m : Mk} {x y : Str} (h : link qs m x y) : m.1 < qs.length := by
  obtain ⟨q, hq, _⟩ := h
  exact (List.getElem?_eq_some_iff.mp hq).1
theorem far_mem {ws : List Str} {qs : List QD} {m : Mk} {x y : Str} (g : NetG ws qs) (h : link qs m x y) : y ∈ ws ∧ x ≠ y := by
  obtain ⟨q, hq, h⟩ := h
  obtain ⟨g1, g2, g3⟩ := g.q1 q (List.mem_of_getElem? hq)
  rcases h with ⟨_, h1, h2⟩ | ⟨_, h1, h2⟩
  · exact ⟨by rw [← h2]; exact g2, by rw [← h1, ← h2]; exact g3⟩
  · exact ⟨by rw [← h2]; exact g1, by rw [← h1, ← h2]; exact g3.symm⟩
theorem met_hd {a : Gs} (h : a.met.length = a.row.length + 1) : a.met[0]? = some (hdG a) := by
  unfold hdG
  cases hm : a.met with
  | nil =>
    rw [hm] at h
    cases h
  | cons x l => rfl
theorem met_ls {a : Gs} (h : a.met.length = a.row.length + 1) : a.met[a.row.length]? = some (lsG a) := by
  unfold lsG
  have hne : a.met ≠ [] := fun z => by
    rw [z] at h
    cases h
  rw [List.getLastD_eq_getLast?, List.getLast?_eq_getElem?]
  have : a.met.length - 1 = a.row.length := by omega
  rw [this]
  have h2 : a.row.length < a.met.length := by omega
  rw [List.getElem?_eq_getElem h2]
  rfl
theorem nodup_ix {l : List Str} (h : l.Nodup) {i j : Nat} {x : Str} (h1 : l[i]? = some x) (h2 : l[j]? = some x) : i = j := nd_ix h h1 h2
theorem row_ne {ws : List Str} {qs : List QD} {a : Gs} {m : Mk} {k : Nat} (g : NetG ws qs) (I : Inv ws qs a) (hm : m ∈ touchN qs (lsG a) k) (e : far qs m = hdG a) : a.row ≠ [] := fun z => by
  have hl := touch_link hm
  have h0 := met_hd I.ll
  have h1 := met_ls I.ll
  rw [z] at h1
  have : hdG a = lsG a := Option.some.inj (h0.symm.trans h1)
  rw [e, this] at hl
  exact (far_mem g hl).2 rfl
/-- back over a queue of the row: only the first one can be -/
theorem row_first {ws : List Str} {qs : List QD} {a : Gs} {m m0 : Mk} {k : Nat} (g : NetG ws qs) (I : Inv ws qs a) (hm : m ∈ touchN qs (lsG a) k) (e : far qs m = hdG a) (h0 : a.row[0]? = some m0) : m.1 ∉ a.row.map (·.1) ↔ m.1 ≠ m0.1 := by
  constructor
  · intro h z
    exact h (List.mem_map.mpr ⟨m0, List.mem_of_getElem? h0, z.symm⟩)
  · intro h z
    obtain ⟨mk, hk, ek⟩ := List.mem_map.mp z
    obtain ⟨j, hj, rfl⟩ := List.getElem_of_mem hk
    have hj1 : j + 1 < a.met.length := by have := I.ll; omega
    have hl := touch_link hm
    rw [e] at hl
    have hlk := I.lk j a.row[j] a.met[j] a.met[j + 1] (List.getElem?_eq_getElem hj) (List.getElem?_eq_getElem (by omega)) (List.getElem?_eq_getElem hj1)
    have m0' := met_hd I.ll
    have m1' := met_ls I.ll
    obtain ⟨q, hq, hq2⟩ := hl
    obtain ⟨q', hq', hq2'⟩ := hlk
    have ek : a.row[j].1 = m.1 := ek
    rw [ek, hq] at hq'
    cases hq'
    have both : (a.met[j] = lsG a ∧ a.met[j + 1] = hdG a) ∨ (a.met[j] = hdG a ∧ a.met[j + 1] = lsG a) := by
      rcases hq2 with ⟨_, h1, h2⟩ | ⟨_, h1, h2⟩ <;> rcases hq2' with ⟨_, h3, h4⟩ | ⟨_, h3, h4⟩
      · exact .inl ⟨h3.symm.trans h1, h4.symm.trans h2⟩
      · exact .inr ⟨h3.symm.trans h2, h4.symm.trans h1⟩
      · exact .inr ⟨h3.symm.trans h2, h4.symm.trans h1⟩
      · exact .inl ⟨h3.symm.trans h1, h4.symm.trans h2⟩
    rcases both with ⟨_, h2⟩ | ⟨h1, _⟩
    · have := nodup_ix I.nd (i := j + 1) (j := 0) (by rw [List.getElem?_eq_getElem hj1, h2]) m0'
      omega
    · have hj0 := nodup_ix I.nd (i := j) (j := 0) (by rw [List.getElem?_eq_getElem (by omega), h1]) m0'
      subst hj0
      rw [List.getElem?_eq_getElem hj] at h0
      cases h0
      exact h ek.symm
theorem inv_push {ws : List Str} {qs : List QD} {a : Gs} {m : Mk} {k : Nat} (g : NetG ws qs) (I : Inv ws qs a) (hm : m ∈ touchN qs (lsG a) k) (hn : far qs m ∉ a.met) : Inv ws qs ⟨a.row ++ [m], a.met ++ [far qs m]⟩ := by
  have hl := touch_link hm
  refine ⟨?_, ?_, ?_, ?_⟩
  · have := I.ll
    simp only [List.length_append, List.length_cons, List.length_nil]
    omega
  · refine List.nodup_append.mpr ⟨I.nd, by simp, fun x hx y hy => ?_⟩
    rw [List.mem_singleton.mp hy]
    exact fun z => hn (by rw [← z]; exact hx)
  · intro x hx
    rcases List.mem_append.mp hx with hx | hx
    · exact I.sub x hx
    · rw [List.mem_singleton.mp hx]
      exact (far_mem g hl).1
  · intro j m' x y h1 h2 h3
    have ll := I.ll
    dsimp only at h1 h2 h3
    by_cases hj : j < a.row.length
    · rw [List.getElem?_append_left hj] at h1
      rw [List.getElem?_append_left (by omega)] at h2 h3
      exact I.lk j m' x y h1 h2 h3
    · have hj1 := (List.getElem?_eq_some_iff.mp h1).1
      rw [List.length_append, List.length_singleton] at hj1
      have e : j = a.row.length := by omega
      subst e
      rw [List.getElem?_append_right (Nat.le_refl _), Nat.sub_self] at h1
      cases h1
      rw [List.getElem?_append_left (by omega), met_ls ll] at h2
      cases h2
      rw [List.getElem?_append_right (by omega)] at h3
      have e2 : a.row.length + 1 - a.met.length = 0 := by omega
      rw [e2] at h3
      cases h3
      exact hl
theorem inv_len {ws : List Str} {qs : List QD} {a : Gs} (I : Inv ws qs a) : a.met.length ≤ ws.length := List.Nodup.length_le_of_subset I.nd (fun x hx => I.sub x hx)
/-! ### what all that is open can come to -/
/-- one more than the most queues at an end of a queue -/
def dgr (qs : List QD) : Nat := qs.foldl (fun m q => max m (max (touchN qs q.st qs.length).length (touchN qs q.en qs.length).length)) 0 + 1
theorem fold_max {α : Type} {f : α → Nat} : ∀ {l : List α} {m : Nat}, m ≤ l.foldl (fun m q => max m (f q)) m ∧ ∀ q ∈ l, f q ≤ l.foldl (fun m q => max m (f q)) m
  | [], m => ⟨Nat.le_refl _, fun _ h => absurd h List.not_mem_nil⟩
  | x :: l, m => by
    obtain ⟨h1, h2⟩ := fold_max (f := f) (l := l) (m := max m (f x))
    rw [List.foldl_cons]
    refine ⟨by omega, fun q hq => ?_⟩
    rcases List.mem_cons.mp hq with rfl | hq
    · omega
    · exact h2 q hq
theorem fold_le {α : Type} {f : α → Nat} {k : Nat} : ∀ {l : List α} {m : Nat}, m ≤ k → (∀ q ∈ l, f q ≤ k) → l.foldl (fun m q => max m (f q)) m ≤ k
  | [], _, h, _ => h
  | x :: l, m, h, g => by
    rw [List.foldl_cons]
    exact fold_le (Nat.max_le.mpr ⟨h, g x List.mem_cons_self⟩) fun q hq => g q (List.mem_cons_of_mem _ hq)
theorem touch_dgr {qs : List QD} {w : Str} : (touchN qs w qs.length).length + 1 ≤ dgr qs := by
  unfold dgr
  obtain ⟨_, h⟩ := fold_max (f := fun q : QD => max (touchN qs q.st qs.length).length (touchN qs q.en qs.length).length) (l := qs) (m := 0)
  cases ht : touchN qs w qs.length with
  | nil => simp
  | cons m ms =>
    have hm : m ∈ touchN qs w qs.length := by rw [ht]; exact List.mem_cons_self
    obtain ⟨q, hq, hl⟩ := touch_link hm
    have hq2 := h q (List.mem_of_getElem? hq)
    try dsimp only at hq2
    have : (touchN qs w qs.length).length ≤ max (touchN qs q.st qs.length).length (touchN qs q.en qs.length).length := by
      rcases hl with ⟨_, e, _⟩ | ⟨_, e, _⟩ <;> rw [e] <;> omega
    rw [ht] at this
    omega
theorem dgr_le {qs : List QD} : dgr qs ≤ qs.length + 1 := by
  unfold dgr
  exact Nat.succ_le_succ (fold_le (Nat.zero_le _) fun q _ => Nat.max_le.mpr ⟨touch_len, touch_len⟩)
theorem dgr_pos {qs : List QD} : 1 ≤ dgr qs := Nat.succ_le_succ (Nat.zero_le _)
def wtG (c n : Nat) (a : Gs) : Nat := c ^ (n + 1 - a.met.length)
def Phi (c n : Nat) (p : Ps) : Nat := p.1.length + (p.2.map (wtG c n)).sum
structure InvP (ws : List Str) (qs : List QD) (p : Ps) : Prop where
  op : ∀ a ∈ p.2, Inv ws qs a
  fd : ∀ r ∈ p.1, r ≠ [] ∧ r.length ≤ ws.length ∧ ∀ m ∈ r, m.1 < qs.length
theorem row_lt {ws : List Str} {qs : List QD} {a : Gs} (I : Inv ws qs a) : ∀ m ∈ a.row, m.1 < qs.length := fun m hm => by
  obtain ⟨j, hj, rfl⟩ := List.getElem_of_mem hm
  have := I.ll
  exact link_lt (I.lk j a.row[j] _ _ (List.getElem?_eq_getElem hj) (List.getElem?_eq_getElem (by omega)) (List.getElem?_eq_getElem (by omega)))
theorem one_ok {ws : List Str} {qs : List QD} {a : Gs} {m : Mk} {k : Nat} {p : Ps} (g : NetG ws qs) (I : Inv ws qs a) (hm : m ∈ touchN qs (lsG a) k) (hp : InvP ws qs p) : InvP ws qs (one qs a p m) ∧ Phi (dgr qs) ws.length (one qs a p m) ≤ Phi (dgr qs) ws.length p + dgr qs ^ (ws.length - a.met.length) := by
  have pos : 1 ≤ dgr qs ^ (ws.length - a.met.length) := Nat.one_le_pow _ _ dgr_pos
  unfold one
  by_cases h1 : far qs m = hdG a
  · rw [if_pos h1]
    by_cases h2 : a.row ≠ [] ∧ m.1 ∉ a.row.map (·.1)
    · rw [if_pos h2]
      refine ⟨⟨hp.op, fun r hr => ?_⟩, ?_⟩
      · rcases List.mem_append.mp hr with hr | hr
        · exact hp.fd r hr
        · rw [List.mem_singleton.mp hr]
          have := inv_len I
          have := I.ll
          refine ⟨by simp, by rw [List.length_append, List.length_singleton]; omega, fun x hx => ?_⟩
          rcases List.mem_append.mp hx with hx | hx
          · exact row_lt I x hx
          · rw [List.mem_singleton.mp hx]
            exact link_lt (touch_link hm)
      · unfold Phi
        simp only [List.length_append, List.length_singleton]
        omega
    · rw [if_neg h2]
      exact ⟨hp, Nat.le_add_right _ _⟩
  · rw [if_neg h1]
    by_cases h2 : gtS (far qs m) (hdG a) = true ∧ far qs m ∉ a.met
    · rw [if_pos h2]
      have I2 := inv_push g I hm h2.2
      refine ⟨⟨fun b hb => ?_, hp.fd⟩, ?_⟩
      · rcases List.mem_append.mp hb with hb | hb
        · exact hp.op b hb
        · rw [List.mem_singleton.mp hb]
          exact I2
      · unfold Phi
        have hl2 := inv_len I2
        rw [List.length_append, List.length_singleton] at hl2
        have e : wtG (dgr qs) ws.length ⟨a.row ++ [m], a.met ++ [far qs m]⟩ = dgr qs ^ (ws.length - a.met.length) := by
          unfold wtG
          rw [List.length_append, List.length_singleton]
          congr 1
          omega
        simp only [List.map_append, List.sum_append, List.map_cons, List.map_nil, List.sum_cons, List.sum_nil, e]
        omega
    · rw [if_neg h2]
      exact ⟨hp, Nat.le_add_right _ _⟩
theorem fold_ok {ws : List Str} {qs : List QD} {a : Gs} {k : Nat} (g : NetG ws qs) (I : Inv ws qs a) : ∀ (ms : List Mk) (p : Ps), (∀ m ∈ ms, m ∈ touchN qs (lsG a) k) → InvP ws qs p → InvP ws qs (ms.foldl (one qs a) p) ∧ Phi (dgr qs) ws.length (ms.foldl (one qs a) p) ≤ Phi (dgr qs) ws.length p + ms.length * dgr qs ^ (ws.length - a.met.length)
  | [], p, _, hp => ⟨hp, Nat.le_add_right _ _⟩
  | m :: ms, p, hm, hp => by
    obtain ⟨h1, h2⟩ := one_ok g I (hm m List.mem_cons_self) hp
    obtain ⟨h3, h4⟩ := fold_ok g I ms (one qs a p m) (fun x hx => hm x (List.mem_cons_of_mem _ hx)) h1
    refine ⟨h3, ?_⟩
    rw [List.foldl_cons, List.length_cons, Nat.add_mul, Nat.one_mul]
    omega
theorem stp_ok {ws : List Str} {qs : List QD} {f : List (List Mk)} {o : List Gs} {a : Gs} (g : NetG ws qs) (hp : InvP ws qs (f, o ++ [a])) : InvP ws qs (stp qs f o a) ∧ Phi (dgr qs) ws.length (stp qs f o a) < Phi (dgr qs) ws.length (f, o ++ [a]) := by
  have I := hp.op a (List.mem_append_right _ List.mem_cons_self)
  have hp2 : InvP ws qs (f, o) := ⟨fun b hb => hp.op b (List.mem_append_left _ hb), hp.fd⟩
  obtain ⟨h1, h2⟩ := fold_ok (k := qs.length) g I (touchN qs (lsG a) qs.length) (f, o) (fun m hm => hm) hp2
  refine ⟨h1, ?_⟩
  have hl := inv_len I
  have e : wtG (dgr qs) ws.length a = dgr qs * dgr qs ^ (ws.length - a.met.length) := by
    unfold wtG
    have : ws.length + 1 - a.met.length = (ws.length - a.met.length) + 1 := by omega
    rw [this, Nat.pow_succ, Nat.mul_comm]
  have e2 : Phi (dgr qs) ws.length (f, o ++ [a]) = Phi (dgr qs) ws.length (f, o) + dgr qs * dgr qs ^ (ws.length - a.met.length) := by
    unfold Phi
    simp only [List.map_append, List.sum_append, List.map_cons, List.map_nil, List.sum_cons, List.sum_nil, e]
    omega
  have pos : 1 ≤ dgr qs ^ (ws.length - a.met.length) := Nat.one_le_pow _ _ dgr_pos
  have l9 : (touchN qs (lsG a) qs.length).length * dgr qs ^ (ws.length - a.met.length) + dgr qs ^ (ws.length - a.met.length) ≤ dgr qs * dgr qs ^ (ws.length - a.met.length) := by
    rw [← Nat.succ_mul]
    exact Nat.mul_le_mul_right _ touch_dgr
  rw [e2]
  have h2 : Phi (dgr qs) ws.length (stp qs f o a) ≤ Phi (dgr qs) ws.length (f, o) + (touchN qs (lsG a) qs.length).length * dgr qs ^ (ws.length - a.met.length) := h2
  omega
theorem take_phi {ws : List Str} {qs : List QD} {f : List (List Mk)} {o : List Gs} {a : Gs} (k : Nat) (g : NetG ws qs) (hp : InvP ws qs (f, o ++ [a])) : Phi (dgr qs) ws.length (((touchN qs (lsG a) qs.length).take k).foldl (one qs a) (f, o)) ≤ Phi (dgr qs) ws.length (f, o ++ [a]) := by
  have I := hp.op a (List.mem_append_right _ List.mem_cons_self)
  have hp2 : InvP ws qs (f, o) := ⟨fun b hb => hp.op b (List.mem_append_left _ hb), hp.fd⟩
  obtain ⟨h1, h2⟩ := fold_ok (k := qs.length) g I ((touchN qs (lsG a) qs.length).take k) (f, o) (fun m hm => List.mem_of_mem_take hm) hp2
  have hl := inv_len I
  have e : wtG (dgr qs) ws.length a = dgr qs * dgr qs ^ (ws.length - a.met.length) := by
    unfold wtG
    have : ws.length + 1 - a.met.length = (ws.length - a.met.length) + 1 := by omega
    rw [this, Nat.pow_succ, Nat.mul_comm]
  have e2 : Phi (dgr qs) ws.length (f, o ++ [a]) = Phi (dgr qs) ws.length (f, o) + dgr qs * dgr qs ^ (ws.length - a.met.length) := by
    unfold Phi
    simp only [List.map_append, List.sum_append, List.map_cons, List.map_nil, List.sum_cons, List.sum_nil, e]
    omega
  have l9 : ((touchN qs (lsG a) qs.length).take k).length * dgr qs ^ (ws.length - a.met.length) ≤ dgr qs * dgr qs ^ (ws.length - a.met.length) := Nat.mul_le_mul_right _ (by
    have := touch_dgr (qs := qs) (w := lsG a)
    rw [List.length_take]
    omega)
  rw [e2]
  omega
theorem len_phi {c : Nat} (hc : 1 ≤ c) (n : Nat) (p : Ps) : p.1.length ≤ Phi c n p ∧ p.2.length ≤ Phi c n p := by
  have h : ∀ l : List Gs, l.length ≤ (l.map (wtG c n)).sum := fun l => by
    induction l with
    | nil => exact Nat.zero_le _
    | cons a l ih =>
      rw [List.length_cons, List.map_cons, List.sum_cons]
      have : 1 ≤ wtG c n a := Nat.one_le_pow _ _ hc
      omega
  have := h p.2
  unfold Phi
  omega
def startP (ws : List Str) : Ps := ([], ws.map fun w => ⟨[], [w]⟩)
theorem start_ok {ws : List Str} {qs : List QD} : InvP ws qs (startP ws) := by
  refine ⟨fun a ha => ?_, fun r hr => absurd hr List.not_mem_nil⟩
  obtain ⟨w, hw, rfl⟩ := List.mem_map.mp ha
  refine ⟨rfl, by simp, fun x hx => ?_, fun k m x y h => ?_⟩
  · rw [List.mem_singleton.mp hx]
    exact hw
  · cases h
/-- few enough workers and queues at a worker -/
def Small (ws : List Str) (qs : List QD) : Prop := ws.length * dgr qs ^ ws.length ≤ 3200000
theorem start_phi {ws : List Str} {qs : List QD} (h : Small ws qs) : Phi (dgr qs) ws.length (startP ws) ≤ 3200000 := by
  have e : Phi (dgr qs) ws.length (startP ws) = ws.length * dgr qs ^ ws.length := by
    unfold Phi startP
    rw [List.length_nil, Nat.zero_add, List.map_map]
    have : ((wtG (dgr qs) ws.length) ∘ fun w : Str => (⟨[], [w]⟩ : Gs)) = fun _ => dgr qs ^ ws.length := by
      funext w
      show dgr qs ^ (ws.length + 1 - 1) = _
      rw [Nat.add_sub_cancel]
    rw [this]
    generalize dgr qs ^ ws.length = c
    clear h this
    induction ws with
    | nil => simp
    | cons w ws ih =>
      rw [List.map_cons, List.sum_cons, List.length_cons, Nat.add_mul, Nat.one_mul, ih]
      omega
  rw [e]
  exact h
theorem small_68 {ws : List Str} {qs : List QD} (h6 : ws.length ≤ 6) (h8 : qs.length ≤ 8) : Small ws qs := by
  have h1 : dgr qs ≤ 9 := Nat.le_trans dgr_le (by omega)
  have h2 : dgr qs ^ ws.length ≤ 9 ^ ws.length := Nat.pow_le_pow_left h1 _
  have h3 : 9 ^ ws.length ≤ 9 ^ 6 := Nat.pow_le_pow_right (by decide) h6
  unfold Small
  calc ws.length * dgr qs ^ ws.length ≤ 6 * 9 ^ 6 := Nat.mul_le_mul h6 (Nat.le_trans h2 h3)
    _ ≤ 3200000 := by decide
theorem Rn.total {ws : List Str} {qs : List QD} (g : NetG ws qs) : ∀ (N : Nat) (p : Ps), Phi (dgr qs) ws.length p < N → InvP ws qs p → ∃ r, Rn qs p r
  | 0, _, h, _ => absurd h (Nat.not_lt_zero _)
  | N + 1, (f, o), h, hp => by
    rcases List.eq_nil_or_concat o with e | ⟨o', a, e⟩
    · rw [e]
      exact ⟨f, .done f⟩
    · rw [List.concat_eq_append] at e
      rw [e] at h hp ⊢
      obtain ⟨h1, h2⟩ := stp_ok g hp
      obtain ⟨r, hr⟩ := Rn.total g N (stp qs f o' a) (by omega) h1
      exact ⟨r, .next f o' a r hr⟩
theorem Rn.rows {ws : List Str} {qs : List QD} (g : NetG ws qs) {p : Ps} {r : List (List Mk)} (h : Rn qs p r) : InvP ws qs p → InvP ws qs (r, []) ∧ r.length ≤ Phi (dgr qs) ws.length p := by
  induction h with
  | done f => exact fun hp => ⟨hp, by unfold Phi; simp⟩
  | next f o a r _ ih =>
    intro hp
    obtain ⟨h1, h2⟩ := stp_ok g hp
    obtain ⟨h3, h4⟩ := ih h1
    exact ⟨h3, by omega⟩
end Jl

set_option Elab.async false
set_option linter.all false
set_option maxRecDepth 100000
set_option maxHeartbeats 1000000
namespace Jl
open PySem PySem.Spec PyProof.Rows L2
open Evl (sz_of sz_lt)
section
variable {X : Cx}
/-! ### a, b = a list or a tuple -/
theorem pg_or {tg : Expr} {w1 w2 : TG} (h1 : PG X tg w1) (h2 : PG X tg w2) : PG X tg (fun v σ H Q => w1 v σ H Q ∨ w2 v σ H Q) := ⟨fun pins s σ H v u Q I r h => by
  rcases h with h | h
  · exact h1.run pins s σ H v u Q I r h
  · exact h2.run pins s σ H v u Q I r h⟩
def gSeq (K : PySem.W.Frag) (n : Nat) (t : TGs) : TG := fun v σ H Q => gTup K n t v σ H Q ∨ gLst K n t v σ H Q
theorem gSeq_at {K : PySem.W.Frag} {n : Nat} {t : TGs} {σ : L2.St} {H : Hp} {Q : L2.St → Hp → Prop} {a : Addr} {f : Bool} {xs : List V} (h : SqF f K H a xs) (hl : xs.length = n) (q : t xs σ H Q) : gSeq K n t (.ref a) σ H Q := by
  cases f with
  | true => exact .inl ⟨a, xs, rfl, h, hl, q⟩
  | false => exact .inr ⟨a, xs, rfl, h, hl, q⟩
theorem pg_seq {es : List Expr} {k n : Nat} {t : TGs} {pos : Pos} (h1 : PG X (.Tuple es k pos) (gTup X.K n t)) (h2 : PG X (.Tuple es k pos) (gLst X.K n t)) : PG X (.Tuple es k pos) (gSeq X.K n t) := pg_or h1 h2
/-! ### min(xs, default=None) of whole numbers -/
def rMinN (K : PySem.W.Frag) : List V → List V → Hp → VK → Prop := fun vs zs H Q => ∃ (a : Addr) (ns : List Int), vs = [V.ref a] ∧ zs = [V.non] ∧ SqL K H a (ns.map V.int) ∧ (ns = [] → Q .non H) ∧ ∀ n ms, ns = n :: ms → Q (.int (ms.foldl min n)) H
theorem reads_ints {h : Heap} : ∀ {ns : List Int} {us : List Value}, Vals (ns.map V.int) us → ∃ as, ReadsAll h us (ns.map PyData.int) as
  | [], _, .nil => ⟨[], .nil⟩
  | n :: ns, _, .cons r t => by
    obtain ⟨k, rfl⟩ := r
    obtain ⟨as, ha⟩ := reads_ints (ns := ns) t
    exact ⟨_, .cons (.int n k) ha⟩
theorem ck_minN (hc : X.calm = true) (hu : X.A.units + 64 < cLine) : CallRK X (.builtin "min") [Str.ofString "default"] (rMinN X.K) := by
  intro pins s σ H vs zs us ws Q I r rz h
  obtain ⟨a, ns, rfl, rfl, hs, q0, q⟩ := h
  obtain rfl := Vals.ref1 r
  obtain ⟨w1, rfl, e1⟩ := vals1 rz
  obtain rfl : w1 = Value.none := e1
  obtain ⟨its, rv, hl, hz⟩ := I.list hs
  obtain ⟨as, hr⟩ := reads_ints (h := s.heap) rv
  have hd0 : ∀ l : List Int, PyData.depthAll (l.map PyData.int) = 0 := fun l => by
    induction l with
    | nil => simp [PyData.depthAll]
    | cons x l ih => simp [PyData.depthAll, PyData.depth, ih]
  show wpAny _ _ (call (.builtin "min") [.ref a] [(Str.ofString "default", Value.none)]) _ _ _
  refine PySem.W.min_list_default (vs := its.toArray) (I.ok.hd hc) hl.isList (by simpa using hr) ⟨fun x hx y hy => ?_, fun x hx => ?_⟩ (by rw [hd0]; omega) (fun e h' tk hk => ?_) (fun y ys i v h' tk bs e hv hrd hk => ?_)
  · obtain ⟨i, _, rfl⟩ := List.mem_map.mp hx
    obtain ⟨j, _, rfl⟩ := List.mem_map.mp hy
    simp [PySem.W.alike]
  · obtain ⟨i, _, rfl⟩ := List.mem_map.mp hx
    simp
  · have e0 : ns = [] := List.map_eq_nil_iff.mp e
    exact ⟨.non, H, I.kept (t' := tk) hk, rfl, q0 e0⟩
  · cases ns with
    | nil => cases e
    | cons n ms =>
      cases e
      rw [PySem.W.minD_ints] at hrd
      cases hrd with
      | int i t => exact ⟨.int _, H, I.kept (t' := tk) hk, ⟨t, rfl⟩, q n ms rfl⟩
end
end Jl

set_option Elab.async false
set_option linter.all false
set_option maxRecDepth 100000
set_option maxHeartbeats 1000000
set_option pp.maxSteps 300
namespace Jl
open PySem PySem.Spec PyProof.Rows L2
open Evl (sz_of sz_lt)
local macro_rules | `(tactic| walk_at "at") => `(tactic| first | exact box0 | exact box1 | exact box2)
local macro_rules | `(tactic| walk_at "sq") => `(tactic| first | (show SqL _ _ _ _; assumption) | (show SqT _ _ _ _; assumption) | (show _ = some _; assumption))
local macro_rules | `(tactic| walk_at "side") => `(tactic| first
  | (show (0 : Int) < _; decide)
  | (show (0 : Int) < _; omega)
  | exact ⟨by decide, by decide, by decide⟩
  | exact sz_of (Nat.le_of_ble_eq_true rfl)
  | exact rfl
  | exact Or.inl (by decide)
  | exact Or.inr (by decide)
  | exact Or.inr ⟨by omega, by omega⟩
  | exact Or.inl ⟨by omega, by omega⟩
  | exact ⟨by decide, by decide +kernel⟩)
local macro_rules | `(tactic| walk_at "ev1") => `(tactic| first
  | refine ⟨_, rfl, ?_⟩
  | refine ⟨_, _, rfl, rfl, ?_⟩
  | refine ⟨_, _, _, _, rfl, rfl, (by walk_at "sq"), (by walk_at "at"), ?_⟩
  | refine ⟨_, _, rfl, (by walk_at "sq"), ?_⟩
  | refine ⟨_, _, rfl, Or.inl (by walk_at "sq"), ?_⟩
  | refine ⟨_, _, rfl, Or.inr (by walk_at "sq"), ?_⟩
  | refine Or.inl ⟨_, rfl, ?_⟩
  | refine Or.inr ⟨_, rfl, ?_⟩
  | refine ⟨(by walk_at "side"), ?_⟩
  | refine ⟨.inl ⟨rfl, _, (by walk_at "sq")⟩, ?_⟩
  | refine ⟨_, _, rfl, ?_⟩)
local macro_rules | `(tactic| walk_at "nrm") => `(tactic| dsimp only [tNil, tCons, tC, tCB])
local macro_rules | `(tactic| walk_at "ev") => `(tactic| repeat (walk_at "ev1"))

abbrev sc_step_over_N : List Str := ["queue", "place", "name", "start", "end", "room", "notice"]
abbrev s_step_over : Stmt := topS 9
theorem sc_step_over : FnScope ["queue", "place", "name", "start", "end", "room", "notice"] ["queue", "place"] (defScope s_step_over) := ⟨rfl, rfl, rfl, by decide +kernel, rfl, by decide +kernel, by decide +kernel⟩
/-! ### steps as data -/
def alS : Str := Str.ofString "along"
def agS : Str := Str.ofString "against"
def mvd (nm : Str) (al : Bool) (to : Str) (pr : Int) : PyData := .tuple [.tuple [.str nm, .str (if al = true then alS else agS)], .str to, .int pr]
section
variable {P : Program} {w : World} {K : PySem.W.Frag} {mg : Str → Option Value} {base : Heap}
def spStep (K : PySem.W.Frag) : Sp := fun vs H Q _ => ∃ (a : Addr) (fb : Bool) (nm st en : Str) (room gap : Int) (w : Str) (S : List Addr), vs = [.ref a, .str w] ∧ SqF fb K H a [.str nm, .str st, .str en, .int room, .int gap] ∧ Trk S H ∧ st ≠ en ∧ (w = st ∨ w = en) ∧
  ∀ H' v, Same H H' → Dp K (cutS S H') v (if w = st then mvd nm true en room else mvd nm false st (1 - gap)) → Q v H'
theorem ok_step_over {f : Addr} {fd : FuncData} {k : Nat} (F : Fun K "step_over" "step_over" s_step_over f fd) : FnOk P w K mg base CX0 (k + 1) f fd ["queue", "place"] (spStep K) := by
  refine F.ok sc_step_over (fun vs H Q E h => ?_) (fun cdv A outer s0 H vs Q E hr h => ?_)
  · obtain ⟨a, fb, nm, st, en, room, gap, w, S, rfl, _⟩ := h
    rfl
  · obtain ⟨a, fb, nm, st, en, room, gap, w, S, rfl, hs, hT, hne, hw, q⟩ := h
    refine ⟨_, (pss_cons (ps_asg (pv 0) (pg_seq (pg_tup rfl (pgs_cons (pg_name (i := 2) sc_step_over.nd rfl (Or.inl rfl)) (pgs_cons (pg_name (i := 3) sc_step_over.nd rfl (Or.inl rfl)) (pgs_cons (pg_name (i := 4) sc_step_over.nd rfl (Or.inl rfl)) (pgs_cons (pg_name (i := 5) sc_step_over.nd rfl (Or.inl rfl)) (pgs_cons (pg_name (i := 6) sc_step_over.nd rfl (Or.inl rfl)) pgs_nil)))))) (pg_lst rfl (pgs_cons (pg_name (i := 2) sc_step_over.nd rfl (Or.inl rfl)) (pgs_cons (pg_name (i := 3) sc_step_over.nd rfl (Or.inl rfl)) (pgs_cons (pg_name (i := 4) sc_step_over.nd rfl (Or.inl rfl)) (pgs_cons (pg_name (i := 5) sc_step_over.nd rfl (Or.inl rfl)) (pgs_cons (pg_name (i := 6) sc_step_over.nd rfl (Or.inl rfl)) pgs_nil)))))))) 
    (pss_cons (ps_if (pt_cmpR op_eq (pv 1) (pv 3) (nomark _)) (pss_one (ps_ret (pe_tup (pa_cons (pe_tup (pa_cons (pv 2) (pa_cons pe_str pa_nil))) (pa_cons (pv 4) (pa_cons (pv 5) pa_nil)))))) pss_nil) 
    (pss_cons (ps_if (pt_cmpR op_eq (pv 1) (pv 4) (nomark _)) (pss_one (ps_ret (pe_tup (pa_cons (pe_tup (pa_cons (pv 2) (pa_cons pe_str pa_nil))) (pa_cons (pv 3) (pa_cons (pe_op op_sub pe_int (pv 6)) pa_nil)))))) pss_nil) 
    (pss_one (ps_ret pe_non))))), ?_⟩
    refine ⟨_, rfl, ?_⟩
    refine gSeq_at hs rfl ?_
    refine ⟨_, _, rfl, ?_⟩
    refine ⟨_, _, rfl, ?_⟩
    refine ⟨_, _, rfl, ?_⟩
    refine ⟨_, _, rfl, ?_⟩
    refine ⟨_, _, rfl, rfl, ?_⟩
    walk_at "ev"
    have ed : ∀ x y : Str, decide (V.str x = V.str y) = decide (x = y) := fun x y => decide_eq_decide.mpr ⟨V.str.inj, congrArg _⟩
    rw [ed]
    have tup : ∀ (H0 : Hp) (al : Bool) (to : Str) (pr : Int) (p1 p2 : Addr), Trk S H0 → H0 p1 = none → (upd H0 p1 (.tup [.str nm, .str (if al = true then alS else agS)])) p2 = none →
        Dp K (cutS S (upd (upd H0 p1 (.tup [.str nm, .str (if al = true then alS else agS)])) p2 (.tup [.ref p1, .str to, .int pr]))) (.ref p2) (mvd nm al to pr) := fun H0 al to pr p1 p2 t h1 h2 =>
      dp_tup (t.mono (.upd h1)) h2 (.cons (dp_tup t h1 (.cons (.str _) (.cons (.str _) .nil))) (.cons (.str _) (.cons (.int _) .nil)))
    by_cases e1 : w = st
    · rw [decide_eq_true e1]
      rw [if_pos e1] at q
      refine iteT ?_
      walk_at "ev"
      intro p1 h1
      walk_at "ev"
      intro p2 h2
      exact q _ _ ((Same.upd h1).trans (.upd h2)) (tup H true en room p1 p2 hT h1 h2)
    · rw [decide_eq_false e1]
      rw [if_neg e1] at q
      refine iteF ?_
      have e2 : w = en := hw.resolve_left e1
      walk_at "ev"
      rw [ed, decide_eq_true e2]
      refine iteT ?_
      walk_at "ev"
      intro p1 h1
      walk_at "ev"
      intro p2 h2
      exact q _ _ ((Same.upd h1).trans (.upd h2)) (tup H false st (1 - gap) p1 p2 hT h1 h2)
end
end Jl

set_option Elab.async false
set_option linter.all false
set_option maxRecDepth 100000
set_option maxHeartbeats 1000000
set_option pp.maxSteps 300
namespace Jl
open PySem PySem.Spec PyProof.Rows L2
open Evl (sz_of sz_lt)
local macro_rules | `(tactic| walk_at "at") => `(tactic| first | exact box0 | exact box1 | exact box2)
local macro_rules | `(tactic| walk_at "sq") => `(tactic| first | (show SqL _ _ _ _; assumption) | (show SqT _ _ _ _; assumption) | (show _ = some _; assumption))
local macro_rules | `(tactic| walk_at "side") => `(tactic| first
  | (show (0 : Int) < _; decide)
  | (show (0 : Int) < _; omega)
  | exact ⟨by decide, by decide, by decide⟩
  | exact sz_of (Nat.le_of_ble_eq_true rfl)
  | exact rfl
  | exact Or.inl (by decide)
  | exact Or.inr (by decide)
  | exact Or.inr ⟨by omega, by omega⟩
  | exact Or.inl ⟨by omega, by omega⟩
  | exact ⟨by decide, by decide +kernel⟩)
local macro_rules | `(tactic| walk_at "ev1") => `(tactic| first
  | refine ⟨_, rfl, ?_⟩
  | refine ⟨_, _, rfl, rfl, ?_⟩
  | refine ⟨_, _, _, _, rfl, rfl, (by walk_at "sq"), (by walk_at "at"), ?_⟩
  | refine ⟨_, _, rfl, (by walk_at "sq"), ?_⟩
  | refine ⟨_, _, rfl, Or.inl (by walk_at "sq"), ?_⟩
  | refine ⟨_, _, rfl, Or.inr (by walk_at "sq"), ?_⟩
  | refine Or.inl ⟨_, rfl, ?_⟩
  | refine Or.inr ⟨_, rfl, ?_⟩
  | refine ⟨(by walk_at "side"), ?_⟩
  | refine ⟨.inl ⟨rfl, _, (by walk_at "sq")⟩, ?_⟩
  | refine ⟨_, _, rfl, ?_⟩)
local macro_rules | `(tactic| walk_at "nrm") => `(tactic| dsimp only [tNil, tCons, tC, tCB])
local macro_rules | `(tactic| walk_at "ev") => `(tactic| repeat (walk_at "ev1"))

/-! ### a dict of new lists -/
def kvl (ks : List Str) (ls : List Addr) : List (Key × V) := (ks.zip ls).map fun p => ((.inr p.1 : Key), V.ref p.2)
theorem valV_kvl : ∀ {ks : List Str} {ls : List Addr} {i : Nat} {k : Str} {l : Addr}, ks.Nodup → ks[i]? = some k → ls[i]? = some l → valV (kvl ks ls) (.inr k) = some (.ref l)
  | [], _, i, _, _, _, h, _ => by simp at h
  | _ :: _, [], i, _, _, _, _, h => by simp at h
  | x :: ks, y :: ls, 0, k, l, _, h1, h2 => by
    simp at h1 h2
    subst h1 h2
    exact valV_pos rfl
  | x :: ks, y :: ls, i + 1, k, l, hn, h1, h2 => by
    have h1' : ks[i]? = some k := by simpa using h1
    have h2' : ls[i]? = some l := by simpa using h2
    have hn' := List.nodup_cons.mp hn
    have ne : x ≠ k := fun e => hn'.1 (by rw [e]; exact List.mem_of_getElem? h1')
    show valV ((.inr x, .ref y) :: kvl ks ls) (.inr k) = _
    rw [valV_neg (fun e => ne (Sum.inr.inj e))]
    exact valV_kvl hn'.2 h1' h2'
theorem valV_kvl_no : ∀ {ks : List Str} {ls : List Addr} {k : Str}, k ∉ ks → valV (kvl ks ls) (.inr k) = none
  | [], _, _, _ => rfl
  | _ :: _, [], _, _ => rfl
  | x :: ks, y :: ls, k, h => by
    show valV ((.inr x, .ref y) :: kvl ks ls) (.inr k) = _
    rw [valV_neg (fun e => h (by rw [← Sum.inr.inj e]; exact List.mem_cons_self))]
    exact valV_kvl_no fun z => h (List.mem_cons_of_mem _ z)
theorem dget_kvl {H : Hp} {M : Addr} {ks : List Str} {ls : List Addr} {i : Nat} {k : Str} {l : Addr} (hn : ks.Nodup) (h1 : ks[i]? = some k) (h2 : ls[i]? = some l) (hM : H M = some (.dK (kvl ks ls))) : DGet H M (V.str k) (some (.ref l)) := by
  have := DGet.k (k := .inr k) hM
  rw [valV_kvl hn h1 h2] at this
  exact this
theorem kvl_push {ks : List Str} {ls : List Addr} {k : Str} {l : Addr} (h : ks.length = ls.length) : kvl (ks ++ [k]) (ls ++ [l]) = kvl ks ls ++ [(.inr k, .ref l)] := by
  unfold kvl
  rw [List.zip_append h, List.map_append]
  rfl
theorem dc_new {K : PySem.W.Frag} {tl tk tv : TE} {j : Nat} {vs : List Nat} {σ : L2.St} {H H0 : Hp} {Q : VK} {a : Addr} {fb : Bool} {xs : List V} {ks : List Str} (hn : ks.Nodup) (hlen : xs.length = ks.length)
    (ht : ∀ R' : VK, R' (.ref a) H0 → tl σ H R') (hs : SqF fb K H0 a xs) (hl : xs.length ≤ 1000) (hw : ∀ x, wipe ((wipe σ vs).set j (some x)) vs = wipe σ vs)
    (hk : ∀ (i : Nat) (x : V) (z : Str) (H1 : Hp) (Q' : VK), xs[i]? = some x → ks[i]? = some z → Same H0 H1 → Q' (.str z) H1 → tk ((wipe σ vs).set j (some x)) H1 Q') (hv : ∀ (x : V) (H1 : Hp) (Q' : VK), (∀ l, H1 l = none → Q' (.ref l) (upd H1 l (.lst []))) → tv ((wipe σ vs).set j (some x)) H1 Q')
    (q : ∀ (D : Addr) (ls : List Addr) (H1 : Hp), Same H0 H1 → H0 D = none → ls.length = ks.length → ls.Nodup → D ∉ ls → (∀ l ∈ ls, H0 l = none ∧ H1 l = some (.lst [])) → H1 D = some (.dK (kvl ks ls)) → Q (.ref D) H1) : tDcX (iSeq K tl) (gName j) tYes tk tv vs σ H Q := by
  refine dc_of ?_
  refine iSeq_at ht hs fun J w D hD => ?_
  refine ⟨fun i m H1 => m = xs.length - i ∧ i ≤ xs.length ∧ ∃ ls : List Addr, ls.length = i ∧ Same H0 H1 ∧ ls.Nodup ∧ D ∉ ls ∧ (∀ l ∈ ls, H0 l = none ∧ H1 l = some (.lst [])) ∧ H1 D = some (.dK (kvl (ks.take i) ls)), ⟨_, rfl, Nat.zero_le _, [], rfl, .upd hD, List.nodup_nil, List.not_mem_nil, fun l h => absurd h List.not_mem_nil, upd_same⟩, fun i m H1 hW => ?_⟩
  obtain ⟨rfl, hi, ls, w1, w2, w3, w4, w5, w6⟩ := hW
  have hG : SqF fb K H1 a xs := w2.sqF hs
  by_cases hlt : i < xs.length
  · refine .inr ⟨w.goes i _ (by omega) hG, fun H2 => i + 1 ≤ xs.length ∧ ∃ ls : List Addr, ls.length = i + 1 ∧ Same H0 H2 ∧ ls.Nodup ∧ D ∉ ls ∧ (∀ l ∈ ls, H0 l = none ∧ H2 l = some (.lst [])) ∧ H2 D = some (.dK (kvl (ks.take (i + 1)) ls)), fun H2 e => ⟨xs.length - (i + 1), by omega, rfl, e.1, e.2⟩, fun x H2 y => ?_⟩
    obtain ⟨rfl, hx⟩ := w.yields i _ x H2 (by omega) hG y
    have hlt2 : i < ks.length := by omega
    refine ⟨hw _, ?_⟩
    dsimp only [tYes]
    rw [if_pos rfl]
    refine hk i x ks[i] _ _ hx (List.getElem?_eq_getElem hlt2) w2 (hv _ _ _ fun l hl0 => ?_)
    have nD : D ≠ l := ne_of_none w6 hl0
    have ek : ks.take (i + 1) = ks.take i ++ [ks[i]] := by rw [List.take_add_one, List.getElem?_eq_getElem hlt2]; rfl
    refine ⟨_, .inr ks[i], rfl, by rw [upd_ne nD]; exact w6, ?_, ?_⟩
    · unfold kvl
      rw [List.length_map, List.length_zip, List.length_take]
      exact sz_lt (by omega)
    · have hno : valV (kvl (ks.take i) ls) (.inr ks[i]) = none := valV_kvl_no fun hm => by
        obtain ⟨k, hk1, hk2⟩ := List.mem_take_iff_getElem.mp hm
        have := nd_ix hn (List.getElem?_eq_getElem hlt2) (by rw [List.getElem?_eq_getElem (show k < ks.length by omega)]; exact congrArg some hk2)
        omega
      have hl0' : H0 l = none := w2.free hl0
      have hnl : l ∉ ls := fun z => by
        have := (w5 l z).2
        rw [hl0] at this
        cases this
      refine ⟨by omega, ls ++ [l], by rw [List.length_append, w1]; rfl, ?_, ?_, ?_, fun z hz => ?_, ?_⟩
      · exact (w2.trans (.upd hl0)).mut hD
      · refine List.nodup_append.mpr ⟨w3, by simp, fun x hx y hy => ?_⟩
        rw [List.mem_singleton.mp hy]
        exact fun e => hnl (by rw [← e]; exact hx)
      · intro z
        rcases List.mem_append.mp z with z | z
        · exact w4 z
        · exact nD (List.mem_singleton.mp z)
      · rcases List.mem_append.mp hz with hz | hz
        · have hzD : z ≠ D := fun e => w4 (by rw [← e]; exact hz)
          have hzl : z ≠ l := fun e => hnl (by rw [← e]; exact hz)
          refine ⟨(w5 z hz).1, ?_⟩
          rw [upd_ne hzD, upd_ne hzl]
          exact (w5 z hz).2
        · rw [List.mem_singleton.mp hz]
          refine ⟨hl0', ?_⟩
          rw [upd_ne nD.symm, upd_same]
      · rw [upd_same, putK_new _ hno, ek, kvl_push (by rw [List.length_take, w1]; omega)]
  · have e : i = xs.length := by omega
    subst e
    refine .inl ⟨w.stops _ hG, ?_⟩
    rw [hlen, List.take_length] at w6
    exact q D ls H1 w2 hD (by rw [w1, hlen]) w3 w4 w5 w6
/-! ### the lists of a dict, as they grow -/
structure MvS (K : PySem.W.Frag) (H0 : Hp) (M : Addr) (ws : List Str) (ls : List Addr) (ms : Str → List PyData) (H : Hp) : Prop where
  s0 : Same H0 H
  hM : H M = some (.dK (kvl ws ls))
  hl : ∀ (i : Nat) (w : Str) (l : Addr), ws[i]? = some w → ls[i]? = some l → ∃ vs, H l = some (.lst vs) ∧ DpAll K (cutS ls H) vs (ms w)
theorem MvS.same {K : PySem.W.Frag} {H0 : Hp} {M : Addr} {ws : List Str} {ls : List Addr} {ms : Str → List PyData} {H H' : Hp} (m : MvS K H0 M ws ls ms H) (e : Same H H') : MvS K H0 M ws ls ms H' :=
  ⟨m.s0.trans e, e _ _ m.hM, fun i w l h1 h2 => by
    obtain ⟨vs, g1, g2⟩ := m.hl i w l h1 h2
    exact ⟨vs, e _ _ g1, (cutS_mono e).dpa g2⟩⟩
theorem MvS.push {K : PySem.W.Frag} {H0 : Hp} {M : Addr} {ws : List Str} {ls : List Addr} {ms : Str → List PyData} {H : Hp} {i : Nat} {w : Str} {l : Addr} {vs : List V} {v : V} {d : PyData} (m : MvS K H0 M ws ls ms H) (hn : ws.Nodup) (hnl : ls.Nodup) (hM : M ∉ ls) (hf : ∀ l ∈ ls, H0 l = none)
    (hi : ws[i]? = some w) (hl : ls[i]? = some l) (hv : H l = some (.lst vs)) (hva : DpAll K (cutS ls H) vs (ms w)) (hd : Dp K (cutS ls H) v d) : MvS K H0 M ws ls (fun x => if x = w then ms x ++ [d] else ms x) (upd H l (.lst (vs ++ [v]))) := by
  have hml := List.mem_of_getElem? hl
  have eC : cutS ls (upd H l (.lst (vs ++ [v]))) = cutS ls H := cutS_upd hml
  refine ⟨m.s0.mut (hf l hml), ?_, fun i' w' l' h1 h2 => ?_⟩
  · rw [upd_ne (fun e => hM (by rw [e]; exact hml))]
    exact m.hM
  · rw [eC]
    by_cases e : i' = i
    · subst e
      rw [hi] at h1
      rw [hl] at h2
      cases h1
      cases h2
      refine ⟨_, upd_same, ?_⟩
      try dsimp only
      rw [if_pos rfl]
      exact dpa_app hva (dpa_one hd)
    · have nl : l' ≠ l := fun z => e (nd_ix hnl h2 (by rw [z]; exact hl))
      have nw : w' ≠ w := fun z => e (nd_ix hn h1 (by rw [z]; exact hi))
      obtain ⟨us, g1, g2⟩ := m.hl i' w' l' h1 h2
      refine ⟨us, by rw [upd_ne nl]; exact g1, ?_⟩
      try dsimp only
      rw [if_neg nw]
      exact g2
/-- a comprehension over data, its element told by a function of data -/
theorem lc_dataD {K : PySem.W.Frag} {tl te : TE} {j : Nat} {vs : List Nat} {σ : L2.St} {H H0 : Hp} {Q : VK} {a : Addr} {fb : Bool} {xs : List V} {ds : List PyData} {S : List Addr} (g : PyData → PyData)
    (ht : ∀ R' : VK, R' (.ref a) H0 → tl σ H R') (hs : SqF fb K H0 a xs) (ha : DpAll K (cutS S H0) xs ds) (hT : Trk S H0) (hl : ds.length ≤ 4000000)
    (hw : ∀ x, wipe ((wipe σ vs).set j (some x)) vs = wipe σ vs)
    (he : ∀ (x : V) (d : PyData) (H1 : Hp) (T : List Addr), d ∈ ds → Trk T H1 → Dp K (cutS T H1) x d → ∀ Q' : VK, (∀ H2 y, Same H1 H2 → Dp K (cutS T H2) y (g d) → Q' y H2) → te ((wipe σ vs).set j (some x)) H1 Q')
    (q : ∀ D ys H', Same H0 H' → H0 D = none → H' D = some (.lst ys) → DpAll K (cutS (D :: S) H') ys (ds.map g) → Q (.ref D) H') : tLcX (iSeq K tl) (gName j) tYes te vs σ H Q := by
  have ll := dpa_len ha
  refine lc_of ?_
  refine iSeq_at ht hs fun J w D hD => ?_
  refine lc_it w (fun i H1 => ∃ ys, Same H0 H1 ∧ H1 D = some (.lst ys) ∧ DpAll K (cutS (D :: S) H1) ys ((ds.take i).map g)) ⟨[], .upd hD, upd_same, .nil⟩ (fun i H1 _ p => ?_) (fun i x H1 H1' hi p y => ?_) (fun H1 p => ?_)
  · obtain ⟨ys, e1, _⟩ := p
    exact e1.sqF hs
  · obtain ⟨ys, e1, e2, e3⟩ := p
    obtain ⟨rfl, hx⟩ := y
    obtain ⟨d, hd, hxd⟩ := dpa_get ha hx
    refine ⟨hw x, ?_⟩
    dsimp only [tYes]
    rw [if_pos rfl]
    have s3 : Same (cutS S H0) (cutS (D :: S) H1') := cutS_into e1 hD
    have hxd1 : Dp K (cutS (D :: S) H1') x d := s3.dp hxd
    refine he x d H1' (D :: S) (List.mem_of_getElem? hd) ((hT.mono e1).cons e2) hxd1 _ fun H2 y s2 hy => ?_
    refine ⟨ys, s2 _ _ e2, ?_, ys ++ [y], ?_, upd_same, ?_⟩
    · have := dpa_len e3
      rw [this, List.length_map, List.length_take]
      exact szL (by omega)
    · exact (e1.trans s2).mut hD
    · rw [cutS_upd List.mem_cons_self, List.take_add_one, hd, List.map_append]
      exact dpa_app ((cutS_mono s2).dpa e3) (dpa_one hy)
  · obtain ⟨ys, e1, e2, e3⟩ := p
    refine q D ys H1 e1 hD e2 ?_
    have e4 : (ds.take xs.length).map g = ds.map g := by rw [List.take_of_length_le (by omega)]
    rw [e4] at e3
    exact e3
/-! ### two lists that grow -/
structure W2 (K : PySem.W.Frag) (Hs : Hp) (F O : Addr) (H : Hp) (fv ov : List V) (fd od : List PyData) : Prop where
  hF : H F = some (.lst fv)
  hO : H O = some (.lst ov)
  dF : DpAll K (cutS [F, O] H) fv fd
  dO : DpAll K (cutS [F, O] H) ov od
  hS : Same Hs (cutS [F, O] H)
theorem W2.same {K : PySem.W.Frag} {Hs : Hp} {F O : Addr} {H H' : Hp} {fv ov : List V} {fd od : List PyData} (w : W2 K Hs F O H fv ov fd od) (e : Same H H') : W2 K Hs F O H' fv ov fd od := ⟨e _ _ w.hF, e _ _ w.hO, (cutS_mono e).dpa w.dF, (cutS_mono e).dpa w.dO, w.hS.trans (cutS_mono e)⟩
theorem W2.trk {K : PySem.W.Frag} {Hs : Hp} {F O : Addr} {H : Hp} {fv ov : List V} {fd od : List PyData} (w : W2 K Hs F O H fv ov fd od) : Trk [F, O] H := Trk.cons (Trk.cons Trk.nil w.hO) w.hF
theorem W2.pushF {K : PySem.W.Frag} {Hs : Hp} {F O : Addr} {H : Hp} {fv ov : List V} {fd od : List PyData} {v : V} {d : PyData} (w : W2 K Hs F O H fv ov fd od) (ne : F ≠ O) (h : Dp K (cutS [F, O] H) v d) : W2 K Hs F O (upd H F (.lst (fv ++ [v]))) (fv ++ [v]) ov (fd ++ [d]) od := by
  have e : cutS [F, O] (upd H F (.lst (fv ++ [v]))) = cutS [F, O] H := cutS_upd List.mem_cons_self
  exact ⟨upd_same, by rw [upd_ne ne.symm]; exact w.hO, by rw [e]; exact dpa_app w.dF (dpa_one h), by rw [e]; exact w.dO, by rw [e]; exact w.hS⟩
theorem W2.setO {K : PySem.W.Frag} {Hs : Hp} {F O : Addr} {H : Hp} {fv ov ov' : List V} {fd od od' : List PyData} (w : W2 K Hs F O H fv ov fd od) (ne : F ≠ O) (h : DpAll K (cutS [F, O] H) ov' od') : W2 K Hs F O (upd H O (.lst ov')) fv ov' fd od' := by
  have e : cutS [F, O] (upd H O (.lst ov')) = cutS [F, O] H := cutS_upd (List.mem_cons_of_mem _ List.mem_cons_self)
  exact ⟨by rw [upd_ne ne]; exact w.hF, upd_same, by rw [e]; exact w.dF, by rw [e]; exact h, by rw [e]; exact w.hS⟩
theorem cut_upd2 {F O : Addr} {H : Hp} {o : HO} : cutS [F, O] (upd H F o) = cutS [F, O] H ∧ cutS [F, O] (upd H O o) = cutS [F, O] H := ⟨cutS_upd List.mem_cons_self, cutS_upd (List.mem_cons_of_mem _ List.mem_cons_self)⟩
/-! ### data written out, beside a cut -/
def IsC (K : PySem.W.Frag) (S : List Addr) (H0 : Hp) (te : TE) (d : PyData) (σ : L2.St) : Prop := ∀ (H : Hp) (Q : VK), Same H0 H → Trk S H → (∀ H' v, Same H H' → Dp K (cutS S H') v d → Q v H') → te σ H Q
def AreC (K : PySem.W.Frag) (S : List Addr) (H0 : Hp) (t : TA) (ds : List PyData) (σ : L2.St) : Prop := ∀ (H : Hp) (Q : List V → Hp → Prop), Same H0 H → Trk S H → (∀ H' vs, Same H H' → DpAll K (cutS S H') vs ds → Q vs H') → t σ H Q
def RdL (K : PySem.W.Frag) (S : List Addr) (H0 : Hp) (te : TE) (ds : List PyData) (σ : L2.St) : Prop := ∀ (H : Hp) (Q : VK), Same H0 H → Trk S H → (∀ H' p vs, Same H H' → H' p = some (.lst vs) → DpAll K (cutS S H') vs ds → Q (.ref p) H') → te σ H Q
def NwL (K : PySem.W.Frag) (S : List Addr) (H0 : Hp) (te : TE) (ds : List PyData) (σ : L2.St) : Prop := ∀ (H : Hp) (Q : VK), Same H0 H → Trk S H → (∀ H' p vs, Same H H' → H p = none → H' p = some (.lst vs) → DpAll K (cutS (p :: S) H') vs ds → Q (.ref p) H') → te σ H Q
section
variable {K : PySem.W.Frag} {S : List Addr} {H0 : Hp} {σ : L2.St}
theorem ic_int {i : Int} : IsC K S H0 (tC (.int i)) (.int i) σ := fun H Q _ _ q => q H _ (fun _ _ e => e) (.int i)
theorem ic_str {x : Str} : IsC K S H0 (tC (.str x)) (.str x) σ := fun H Q _ _ q => q H _ (fun _ _ e => e) (.str x)
theorem ic_bl {b : Bool} : IsC K S H0 (tC (.bl b)) (.bool b) σ := fun H Q _ _ q => q H _ (fun _ _ e => e) (.bl b)
theorem ic_non : IsC K S H0 (tC .non) .none σ := fun H Q _ _ q => q H _ (fun _ _ e => e) .non
theorem ic_neg {i : Int} : IsC K S H0 (tUn (rU fun i => .int (-i)) (tC (.int i))) (.int (-i)) σ := fun H Q _ _ q => ⟨i, rfl, q H _ (fun _ _ e => e) (.int (-i))⟩
theorem ic_pow {i j : Int} (h : CPow i j) : IsC K S H0 (tOp (rI CPow fun i j => .int (i ^ j.toNat)) (tC (.int i)) (tC (.int j))) (.int (i ^ j.toNat)) σ := fun H Q _ _ q => ⟨i, j, rfl, rfl, h, q H _ (fun _ _ e => e) (.int _)⟩
theorem ac_nil : AreC K S H0 tNil [] σ := fun H Q _ _ q => q H _ (fun _ _ e => e) .nil
theorem ac_cons {te : TE} {t : TA} {d : PyData} {ds : List PyData} (h1 : IsC K S H0 te d σ) (h2 : AreC K S H0 t ds σ) : AreC K S H0 (tCons te t) (d :: ds) σ := fun H Q e tr q =>
  h1 H _ e tr fun H1 v s1 d1 => h2 H1 _ (e.trans s1) (tr.mono s1) fun H2 vs s2 d2 => q H2 (v :: vs) (s1.trans s2) (.cons ((cutS_mono s2).dp d1) d2)
theorem ic_tup {t : TA} {ds : List PyData} (h : AreC K S H0 t ds σ) (hl : ds.length ≤ 1000) : IsC K S H0 (tTup t) (.tuple ds) σ := fun H Q e tr q =>
  h H _ e tr fun H1 vs s1 d1 => ⟨Nat.le_of_lt (sz_lt (by rw [dpa_len d1]; omega)), fun p hp => q _ _ (s1.trans (.upd hp)) (dp_tup (tr.mono s1) hp d1)⟩
theorem ic_lst {t : TA} {ds : List PyData} (h : AreC K S H0 t ds σ) (hl : ds.length ≤ 1000) : IsC K S H0 (tLst t) (.list ds) σ := fun H Q e tr q =>
  h H _ e tr fun H1 vs s1 d1 => ⟨Nat.le_of_lt (sz_lt (by rw [dpa_len d1]; omega)), fun p hp => q _ _ (s1.trans (.upd hp)) (dp_lst (tr.mono s1) hp d1)⟩
theorem nw_lst {t : TA} {ds : List PyData} (h : AreC K S H0 t ds σ) (hl : ds.length ≤ 1000) : NwL K S H0 (tLst t) ds σ := fun H Q e tr q =>
  h H _ e tr fun H1 vs s1 d1 => ⟨Nat.le_of_lt (sz_lt (by rw [dpa_len d1]; omega)), fun p hp => q _ p vs (s1.trans (.upd hp)) (s1.free hp) upd_same ((cutS_into (.upd hp) hp).dpa d1)⟩
theorem rd_nw {te : TE} {ds : List PyData} (h : NwL K S H0 te ds σ) : RdL K S H0 te ds σ := fun H Q e tr q => h H Q e tr fun H' p vs s1 _ h1 d1 => q H' p vs s1 h1 (cutS_tail.dpa d1)
theorem rd_var {i : Nat} {p : Addr} {vs : List V} {ds : List PyData} (hi : σ[i]? = some (some (.ref p))) (hp : H0 p = some (.lst vs)) (hd : DpAll K (cutS S H0) vs ds) : RdL K S H0 (tVar i) ds σ := fun H Q e _ q =>
  ⟨_, hi, q H p vs (fun _ _ e => e) (e _ _ hp) ((cutS_mono e).dpa hd)⟩
theorem nw_cat {ta tb : TE} {ds es : List PyData} (h1 : RdL K S H0 ta ds σ) (h2 : RdL K S H0 tb es σ) (hl : ds.length + es.length ≤ 1000) : NwL K S H0 (tOp rCat ta tb) (ds ++ es) σ := fun H Q e tr q =>
  h1 H _ e tr fun H1 p1 v1 s1 g1 d1 => h2 H1 _ (e.trans s1) (tr.mono s1) fun H2 p2 v2 s2 g2 d2 => ⟨p1, p2, v1, v2, rfl, rfl, s2 _ _ g1, g2, Nat.le_of_lt (sz_lt (by rw [dpa_len d1, dpa_len d2]; omega)), fun p hp =>
    q _ p _ ((s1.trans s2).trans (.upd hp)) ((s1.trans s2).free hp) upd_same ((cutS_into (.upd hp) hp).dpa (dpa_app ((cutS_mono s2).dpa d1) d2))⟩
theorem ic_var {i : Nat} {v : V} {d : PyData} (hi : σ[i]? = some (some v)) (hd : Dp K (cutS S H0) v d) : IsC K S H0 (tVar i) d σ := fun H Q e _ q => ⟨v, hi, q H v (fun _ _ e => e) ((cutS_mono e).dp hd)⟩
theorem ic_add {ta tb : TE} {i j : Int} (h1 : IsC K S H0 ta (.int i) σ) (h2 : IsC K S H0 tb (.int j) σ) : IsC K S H0 (tOp (rI0 fun i j => .int (i + j)) ta tb) (.int (i + j)) σ := fun H Q e tr k =>
  h1 H _ e tr fun H1 v s1 d1 => h2 H1 _ (e.trans s1) (tr.mono s1) fun H2 u s2 d2 => by
    cases d1
    cases d2
    exact ⟨_, _, rfl, rfl, k H2 _ (s1.trans s2) (.int _)⟩
/-- tuples, one behind another -/
theorem ic_catT {ta tb : TE} {ds es : List PyData} (h1 : IsC K S H0 ta (.tuple ds) σ) (h2 : IsC K S H0 tb (.tuple es) σ) (hl : ds.length + es.length ≤ 1000) : IsC K S H0 (tOp (rCatA K) ta tb) (.tuple (ds ++ es)) σ := fun H Q e tr k =>
  h1 H _ e tr fun H1 v s1 d1 => h2 H1 _ (e.trans s1) (tr.mono s1) fun H2 u s2 d2 => by
    obtain ⟨c, xs, rfl, hc, hx⟩ := Dp.seq_of (f := true) ((cutS_mono s2).dp d1)
    obtain ⟨d, ys, rfl, hd, hy⟩ := Dp.seq_of (f := true) d2
    have lx := dpa_len hx
    have ly := dpa_len hy
    have s12 := s1.trans s2
    refine ⟨c, d, xs, ys, rfl, rfl, cutS_le.sqT hc, cutS_le.sqT hd, Nat.le_of_lt (sz_lt (by omega)), fun e0 => k H2 _ s12 ?_, fun _ e0 => k H2 _ s12 ?_, fun _ _ p hp => k _ _ (s12.trans (.upd hp)) ?_⟩
    · have : ds = [] := by rw [e0] at lx; exact List.eq_nil_of_length_eq_zero lx.symm
      rw [this]
      exact Dp.seq (f := true) hd hy
    · have : es = [] := by rw [e0] at ly; exact List.eq_nil_of_length_eq_zero ly.symm
      rw [this, List.append_nil]
      exact Dp.seq (f := true) hc hx
    · exact dp_tup (tr.mono s12) hp (dpa_app hx hy)
end
theorem dpa_snoc {K : PySem.W.Frag} {H : Hp} : ∀ {vs : List V} {v : V} {ds : List PyData} {d : PyData}, DpAll K H (vs ++ [v]) (ds ++ [d]) → DpAll K H vs ds ∧ Dp K H v d
  | [], v, [], d, h => by
    cases h with
    | cons h1 h2 => exact ⟨.nil, h1⟩
  | [], v, e :: ds, d, h => by
    cases h with
    | cons h1 h2 =>
      have := dpa_len h2
      simp at this
  | u :: vs, v, [], d, h => by
    cases h with
    | cons h1 h2 =>
      have := dpa_len h2
      simp at this
  | u :: vs, v, e :: ds, d, h => by
    cases h with
    | cons h1 h2 =>
      obtain ⟨g1, g2⟩ := dpa_snoc h2
      exact ⟨.cons h1 g1, g2⟩
theorem atI_end {xs : List V} (h : 1 ≤ xs.length) {v : V} (hv : xs[xs.length - 1]? = some v) : atI xs (-1) = some v := by
  have hne : xs ≠ [] := fun z => by rw [z] at h; exact absurd h (by decide)
  have := atI_last xs.dropLast (xs.getLast hne)
  rw [List.dropLast_concat_getLast] at this
  rw [this, ← hv, List.getLast_eq_getElem, List.getElem?_eq_getElem (by omega)]
theorem in_strs {x : Str} {ks : List Str} : inV (.str x) (ks.map V.str) = decide (x ∈ ks) := by
  unfold inV
  rw [List.any_map, Bool.eq_iff_iff, List.any_eq_true, decide_eq_true_eq]
  refine ⟨fun ⟨r, hr, e⟩ => ?_, fun h => ⟨x, h, ?_⟩⟩
  · have e : (r == x) = true := e
    rw [← eq_of_beq e]
    exact hr
  · show (x == x) = true
    exact beq_self_eq_true _
/-! ### grown rows as data -/
def nmQ (qs : List QD) (m : Mk) : Str := match qs[m.1]? with
  | none => default
  | some q => q.nm
def prQ (qs : List QD) (m : Mk) : Int := match qs[m.1]? with
  | none => 0
  | some q => if m.2 = true then q.room else 1 - q.gap
def stD (qs : List QD) (m : Mk) : PyData := .tuple [.str (nmQ qs m), .str (if m.2 = true then alS else agS)]
def stepsD (qs : List QD) (r : List Mk) : PyData := .tuple (r.map (stD qs))
def costQ (qs : List QD) (r : List Mk) : Int := (r.map (prQ qs)).sum
def gsD (qs : List QD) (a : Gs) : PyData := .tuple [stepsD qs a.row, .tuple (a.met.map PyData.str), .int (costQ qs a.row)]
def fndD (qs : List QD) (r : List Mk) : PyData := .tuple [stepsD qs r, .int (costQ qs r)]
def mvD (qs : List QD) (m : Mk) : PyData := .tuple [stD qs m, .str (far qs m), .int (prQ qs m)]
theorem costQ_push {qs : List QD} {r : List Mk} {m : Mk} : costQ qs (r ++ [m]) = costQ qs r + prQ qs m := by
  unfold costQ
  rw [List.map_append, List.sum_append]
  simp
theorem stepsD_push {qs : List QD} {r : List Mk} {m : Mk} : stepsD qs (r ++ [m]) = .tuple (r.map (stD qs) ++ [stD qs m]) := by
  unfold stepsD
  rw [List.map_append]
  rfl
theorem mvd_at {qs : List QD} {i : Nat} {q : QD} (h : qs[i]? = some q) : mvd q.nm true q.en q.room = mvD qs (i, true) ∧ mvd q.nm false q.st (1 - q.gap) = mvD qs (i, false) := by
  unfold mvD stD nmQ far prQ
  rw [h]
  exact ⟨rfl, rfl⟩
theorem touch_next {qs : List QD} {w : Str} {k : Nat} {q : QD} (h : qs[k]? = some q) : touchN qs w (k + 1) = touchN qs w k ++ (if q.st = w then [(k, true)] else if q.en = w then [(k, false)] else []) := by
  unfold touchN
  rw [List.range_succ, List.filterMap_append]
  congr 1
  have : tch qs w k = if q.st = w then some (k, true) else if q.en = w then some (k, false) else none := by
    unfold tch
    rw [h]
  rw [List.filterMap_cons, this]
  by_cases h1 : q.st = w
  · rw [if_pos h1, if_pos h1]
    rfl
  · rw [if_neg h1, if_neg h1]
    by_cases h2 : q.en = w
    · rw [if_pos h2, if_pos h2]
      rfl
    · rw [if_neg h2, if_neg h2]
      rfl
theorem nm_inj {ws : List Str} {qs : List QD} {m m0 : Mk} (g : NetG ws qs) (h1 : m.1 < qs.length) (h2 : m0.1 < qs.length) : nmQ qs m = nmQ qs m0 ↔ m.1 = m0.1 := by
  unfold nmQ
  rw [List.getElem?_eq_getElem h1, List.getElem?_eq_getElem h2]
  constructor
  · intro e
    have e : qs[m.1].nm = qs[m0.1].nm := e
    exact nd_ix g.nn (by rw [List.getElem?_map, List.getElem?_eq_getElem h1]; rfl) (by rw [List.getElem?_map, List.getElem?_eq_getElem h2]; exact congrArg some e.symm)
  · intro e
    simp only [e]
end Jl

set_option Elab.async false
set_option linter.all false
set_option maxRecDepth 100000
set_option maxHeartbeats 1000000
set_option pp.maxSteps 300
namespace Jl
open PySem PySem.Spec PyProof.Rows L2
open Evl (sz_of sz_lt)
local macro_rules | `(tactic| walk_at "at") => `(tactic| first | exact box0 | exact box1 | exact box2)
local macro_rules | `(tactic| walk_at "sq") => `(tactic| first | (show SqL _ _ _ _; assumption) | (show SqT _ _ _ _; assumption) | (show _ = some _; assumption))
local macro_rules | `(tactic| walk_at "side") => `(tactic| first
  | (show (0 : Int) < _; decide)
  | (show (0 : Int) < _; omega)
  | exact ⟨by decide, by decide, by decide⟩
  | exact sz_of (Nat.le_of_ble_eq_true rfl)
  | exact rfl
  | exact Or.inl (by decide)
  | exact Or.inr (by decide)
  | exact Or.inr ⟨by omega, by omega⟩
  | exact Or.inl ⟨by omega, by omega⟩
  | exact ⟨by decide, by decide +kernel⟩)
local macro_rules | `(tactic| walk_at "ev1") => `(tactic| first
  | refine ⟨_, rfl, ?_⟩
  | refine ⟨_, _, rfl, rfl, ?_⟩
  | refine ⟨_, _, _, _, rfl, rfl, (by walk_at "sq"), (by walk_at "at"), ?_⟩
  | refine ⟨_, _, rfl, (by walk_at "sq"), ?_⟩
  | refine ⟨_, _, rfl, Or.inl (by walk_at "sq"), ?_⟩
  | refine ⟨_, _, rfl, Or.inr (by walk_at "sq"), ?_⟩
  | refine Or.inl ⟨_, rfl, ?_⟩
  | refine Or.inr ⟨_, rfl, ?_⟩
  | refine ⟨(by walk_at "side"), ?_⟩
  | refine ⟨.inl ⟨rfl, _, (by walk_at "sq")⟩, ?_⟩
  | refine ⟨_, _, rfl, ?_⟩)
local macro_rules | `(tactic| walk_at "nrm") => `(tactic| dsimp only [tNil, tCons, tC, tCB])
local macro_rules | `(tactic| walk_at "ev") => `(tactic| repeat (walk_at "ev1"))

/-- a comprehension over pairs -/
theorem lc_pair {K : PySem.W.Frag} {wi : TI} {te : TE} {j1 j2 : Nat} {vs : List Nat} {σ : L2.St} {H : Hp} {Q : VK} {S : Addr → List Addr} {α : Type} (Pa : Addr → List V → Hp → Prop) (zs : List α) (f g h : α → PyData)
    (hgo : ∀ R : It → Hp → Prop, (∀ a xs H0, Pa a xs H0 → ∀ J, Walk J xs.length (fun H => SqF false K H a xs) (YAt xs) → R J H0) → wi σ H R)
    (hs : ∀ a xs H0, Pa a xs H0 → SqF false K H0 a xs ∧ DpAll K (cutS (S a) H0) xs (zs.map fun z => .tuple [f z, g z]) ∧ Trk (S a) H0) (hl : zs.length ≤ 4000000)
    (hw : ∀ x y, wipe (((wipe σ vs).set j1 (some x)).set j2 (some y)) vs = wipe σ vs)
    (he : ∀ (x y : V) (z : α) (H1 : Hp) (T : List Addr), z ∈ zs → Trk T H1 → Dp K (cutS T H1) x (f z) → Dp K (cutS T H1) y (g z) → ∀ Q' : VK, (∀ H2 u, Same H1 H2 → Dp K (cutS T H2) u (h z) → Q' u H2) → te (((wipe σ vs).set j1 (some x)).set j2 (some y)) H1 Q')
    (q : ∀ a xs H0, Pa a xs H0 → ∀ D ys H', Same H0 H' → H0 D = none → H' D = some (.lst ys) → DpAll K (cutS (D :: S a) H') ys (zs.map h) → Q (.ref D) H') : tLcX wi (gTup K 2 (gCons (gName j1) (gCons (gName j2) gNil))) tYes te vs σ H Q := by
  refine lc_of (hgo _ fun a xs H0 hP J w => ?_)
  obtain ⟨hs, ha, hT⟩ := hs a xs H0 hP
  replace q := q a xs H0 hP
  generalize S a = S at ha hT q
  have ll := dpa_len ha
  rw [List.length_map] at ll
  refine fun D hD => ?_
  refine lc_it w (fun i H1 => ∃ ys, Same H0 H1 ∧ H1 D = some (.lst ys) ∧ DpAll K (cutS (D :: S) H1) ys ((zs.take i).map h)) ⟨[], .upd hD, upd_same, .nil⟩ (fun i H1 _ p => ?_) (fun i x H1 H1' hi p y => ?_) (fun H1 p => ?_)
  · obtain ⟨ys, e1, _⟩ := p
    exact e1.sqF hs
  · obtain ⟨ys, e1, e2, e3⟩ := p
    obtain ⟨rfl, hx⟩ := y
    obtain ⟨d, hd, hxd⟩ := dpa_get ha hx
    rw [List.getElem?_map] at hd
    cases hz : zs[i]? with
    | none =>
      rw [hz] at hd
      cases hd
    | some z =>
      rw [hz] at hd
      cases hd
      have s3 : Same (cutS S H0) (cutS (D :: S) H1') := cutS_into e1 hD
      have hxd1 := s3.dp hxd
      obtain ⟨t, xt, rfl, hts, hta⟩ := Dp.seq_of (f := true) hxd1
      cases hta with
      | cons k1 hta =>
        cases hta with
        | cons k2 hta =>
          cases hta
          refine ⟨t, _, rfl, cutS_le.sqT hts, rfl, _, _, rfl, _, _, rfl, rfl, hw _ _, ?_⟩
          dsimp only [tYes]
          rw [if_pos rfl]
          refine he _ _ z H1' (D :: S) (List.mem_of_getElem? hz) ((hT.mono e1).cons e2) k1 k2 _ fun H2 u s2 hy => ?_
          refine ⟨ys, s2 _ _ e2, ?_, ys ++ [u], ?_, upd_same, ?_⟩
          · have := dpa_len e3
            rw [this, List.length_map, List.length_take]
            exact szL (by omega)
          · exact (e1.trans s2).mut hD
          · rw [cutS_upd List.mem_cons_self, List.take_add_one, hz, List.map_append]
            exact dpa_app ((cutS_mono s2).dpa e3) (dpa_one hy)
  · obtain ⟨ys, e1, e2, e3⟩ := p
    refine q D ys H1 e1 hD e2 ?_
    have e4 : (zs.take xs.length).map h = zs.map h := by rw [List.take_of_length_le (by omega)]
    rw [e4] at e3
    exact e3
def sortD (ds : List PyData) : List PyData := ds.mergeSort (PySem.W.dataLe false fun d => d)
def ringsD (qs : List QD) (g : List (List Mk)) : List PyData := sortD (g.map (stepsD qs))
theorem sort_data {bs : List (V × PyData)} : ((bs.mergeSort (PySem.W.dataLe false (·.2))).map (·.2)) = sortD (bs.map (·.2)) := by
  unfold sortD
  exact List.map_mergeSort (r := PySem.W.dataLe false (·.2)) (s := PySem.W.dataLe false fun d => d) (f := fun b : V × PyData => b.2) (l := bs) (fun a _ b _ => by
    rw [PySem.W.dataLe_eq, PySem.W.dataLe_eq])
theorem dpa_of_all {K : PySem.W.Frag} {H : Hp} : ∀ {bs : List (V × PyData)}, (∀ b ∈ bs, Dp K H b.1 b.2) → DpAll K H (bs.map (·.1)) (bs.map (·.2))
  | [], _ => .nil
  | b :: bs, h => .cons (h b List.mem_cons_self) (dpa_of_all fun x hx => h x (List.mem_cons_of_mem _ hx))
theorem all_of_dpa {K : PySem.W.Frag} {H : Hp} : ∀ {vs : List V} {ds : List PyData}, DpAll K H vs ds → ∀ b ∈ vs.zip ds, Dp K H b.1 b.2
  | _, _, .nil, b, hb => absurd hb List.not_mem_nil
  | _, _, .cons h1 h2, b, hb => by
    rcases List.mem_cons.mp hb with e | hb
    · rw [e]
      exact h1
    · exact all_of_dpa h2 b hb
theorem zip_fst {vs : List V} {ds : List PyData} (h : vs.length = ds.length) : (vs.zip ds).map (·.1) = vs := List.map_fst_zip (Nat.le_of_eq h)
theorem zip_snd {vs : List V} {ds : List PyData} (h : vs.length = ds.length) : (vs.zip ds).map (·.2) = ds := List.map_snd_zip (Nat.le_of_eq h.symm)
theorem alike_st {qs : List QD} : ∀ r r' : List Mk, PySem.W.alikeAll (r.map (stD qs)) (r'.map (stD qs)) = true
  | [], _ => by simp [PySem.W.alikeAll]
  | _ :: _, [] => by simp [PySem.W.alikeAll]
  | m :: r, m' :: r' => by
    rw [List.map_cons, List.map_cons]
    simp only [PySem.W.alikeAll, Bool.and_eq_true]
    exact ⟨by simp [stD, PySem.W.alike, PySem.W.alikeAll], alike_st r r'⟩
theorem steps_alike {qs : List QD} {g : List (List Mk)} : PySem.W.AllAlike (g.map (stepsD qs)) := fun d hd d' hd' => by
  obtain ⟨r, _, rfl⟩ := List.mem_map.mp hd
  obtain ⟨r', _, rfl⟩ := List.mem_map.mp hd'
  simp only [stepsD, PySem.W.alike]
  exact alike_st r r'
theorem steps_sortable {qs : List QD} {g : List (List Mk)} (h : ∀ r ∈ g, r ≠ []) : PySem.W.Sortable (g.map (stepsD qs)) := .inl fun d hd => by
  obtain ⟨r, hr, rfl⟩ := List.mem_map.mp hd
  cases r with
  | nil => exact absurd rfl (h _ hr)
  | cons m r => exact ⟨_, _, rfl⟩
theorem steps_depth {qs : List QD} {r : List Mk} : (stepsD qs r).depth ≤ 2 := dep_seq (f := true) (n := 1) fun d hd => by
  obtain ⟨m, _, rfl⟩ := List.mem_map.mp hd
  exact dep_seq (f := true) (n := 0) fun d hd => by
    rcases mem2 hd with rfl | rfl <;> simp [PyData.depth]
theorem dpa_ints_of {K : PySem.W.Frag} {H : Hp} : ∀ {is : List Int} {vs : List V}, DpAll K H vs (is.map PyData.int) → vs = is.map V.int
  | [], _, h => by
    cases h
    rfl
  | i :: is, _, h => by
    cases h with
    | cons h1 h2 =>
      cases h1
      rw [dpa_ints_of h2]
      rfl
def minV : List Int → V
  | [] => .non
  | n :: ms => .int (ms.foldl min n)
/-- what the law's rings are asked of -/
structure NetR (ws : List Str) (qs : List QD) (g : List (List Mk)) : Prop where
  nd : ws.Nodup
  ng : NetG ws qs
  w6 : ws.length ≤ 40
  sm : Small ws qs
  q6 : qs.length ≤ 60
  rn : Rn qs (startP ws) g
theorem NetR.rows {ws : List Str} {qs : List QD} {g : List (List Mk)} (n : NetR ws qs g) : (∀ r ∈ g, r ≠ [] ∧ r.length ≤ 40 ∧ ∀ m ∈ r, m.1 < qs.length) ∧ g.length ≤ 3200000 := by
  obtain ⟨h1, h2⟩ := n.rn.rows n.ng start_ok
  have := start_phi n.sm
  exact ⟨fun r hr => ⟨(h1.fd r hr).1, Nat.le_trans (h1.fd r hr).2.1 n.w6, (h1.fd r hr).2.2⟩, by omega⟩
end Jl

set_option Elab.async false
set_option linter.all false
set_option maxRecDepth 100000
set_option maxHeartbeats 1000000
namespace Jl
open PySem PySem.Spec PyProof.Rows L2
open Evl (sz_of sz_lt)
/-! ### enumerate(a tuple) -/
theorem enumT_meets (a : Addr) (cells : Array Value) : Meets (Builtin.«enumerate.__new__» ⟨[.type "enumerate", .ref a], []⟩) (fun _ R st => st.heap.IsTuple a cells ∧
    R (.ok (.ret (.ref (st.heap.push { cls := .type "tuple_iterator", data := .fields #[.ref a, .int 0 0] }).objs.size))) { st with heap := (st.heap.push { cls := .type "tuple_iterator", data := .fields #[.ref a, .int 0 0] }).push { cls := .type "enumerate", data := .fields #[.none, .bool false, .ref st.heap.objs.size, rawInt 0, .none, .none] } }) :=
  .of_wp fun prog w Ar R st hyp => by
    obtain ⟨hh, g0, d0, t0, o0⟩ := st
    obtain ⟨ht, hyp⟩ := hyp
    have hsub := sub_enumerate
    have q1 : ∀ {A' : Around} {E' : Value → Shared → Prop} {Q' : Value → Shared → Prop}, Q' (.ref hh.objs.size) ⟨hh.push { cls := .type "tuple_iterator", data := .fields #[.ref a, .int 0 0] }, g0, d0, t0, o0⟩ → wpAny (model prog w) A' (pyIter (.ref a)) Q' E' ⟨hh, g0, d0, t0, o0⟩ :=
      fun q => wpAny_pyIter_tuple ht q
    obtain ⟨ob, hob, hcl, n0, hda⟩ := id ht
    have hlp : ∀ {A' : Around} {E' : Value → Shared → Prop} {Q' : Value → Shared → Prop}, Q' (.ref hh.objs.size) ⟨hh.push { cls := .type "tuple_iterator", data := .fields #[.ref a, .int 0 0] }, g0, d0, t0, o0⟩ → wpAny (model prog w) A' (pyIter (.ref a)) Q' E' ⟨hh, g0, d0, t0, o0⟩ := q1
    wp_walk using q1, wpAny_loadPart' hob
    refine wpAny_stack_any fun _ => wpAny_pure ?_
    split
    · rename_i c _ _ _ _ _
      by_cases hc : (c == Value.type "enumerate") = true
      · simp only [hc]
        wp_walk using q1, wpAny_loadPart' hob
        exact ⟨_, rfl, hyp⟩
      · simp only [hc]
        wp_walk using q1, wpAny_loadPart' hob
        exact ⟨_, rfl, hyp⟩
    · wp_walk using q1, wpAny_loadPart' hob
      exact ⟨_, rfl, hyp⟩

section
variable {prog : Program} {w : World} {Ar : Around} {E' : Value → Shared → Prop} {st : Shared}
/-- its two new cells -/
theorem enumT_made {a : Addr} {cells : Array Value} {Q' : Value → Shared → Prop} (ht : st.heap.IsTuple a cells)
    (q : ∀ hh, IsEnum hh (st.heap.objs.size + 1) st.heap.objs.size 0 .none → hh.IsTupleIter st.heap.objs.size a 0 → hh.objs.size = st.heap.objs.size + 2 → (∀ b o, st.heap.get? b = some o → hh.get? b = some o) → Q' (.ref (st.heap.objs.size + 1)) { st with heap := hh }) :
    wpAny (model prog w) Ar (call (.type "enumerate") [.ref a]) Q' E' st := by
  refine callType_new F.called_enumerate (by decide) (F.typeCall_enumerate_1 (.ref a)) (F.newCall_enumerate_1 (.ref a)) (fun ob => F.args_object_init_2 ob (.ref a)) F.entry_enumerate_new (enumT_meets a cells) ⟨ht, ?_⟩
  have hz : (st.heap.push { cls := .type "tuple_iterator", data := .fields #[.ref a, .int 0 0] }).objs.size = st.heap.objs.size + 1 := Heap.size_push ..
  have g1 := Heap.get?_push_size (st.heap.push { cls := .type "tuple_iterator", data := .fields #[.ref a, .int 0 0] }) (o := { cls := .type "enumerate", data := .fields #[.none, .bool false, .ref st.heap.objs.size, rawInt 0, .none, .none] }) rfl
  rw [hz] at g1
  show _ ∧ _
  rw [hz]
  exact ⟨⟨_, g1, rfl⟩, q _ g1 ⟨_, Heap.get?_push_of_some _ (Heap.get?_push_size _ rfl), rfl, rfl⟩ (by rw [Heap.size_push, hz]) fun b o e => Heap.get?_push_of_some _ (Heap.get?_push_of_some _ e)⟩
end
/-- the tuple at a, each item in a new pair -/
def IteT (K : PySem.W.Frag) (a : Addr) : It :=
  ⟨fun i H => ∃ (xs : List V) (x : V), SqT K H a xs ∧ xs[i]? = some x, fun i H v H' => ∃ T x, v = .ref T ∧ H T = none ∧ H' = upd H T (.tup [.int (i : Nat), x]) ∧ ∀ xs, SqT K H a xs → xs[i]? = some x, fun i H => ∃ xs : List V, SqT K H a xs ∧ xs.length = i⟩
theorem enum_ne_tup {h : Heap} {e it a : Addr} {k : Int} {old : Value} {cells : Array Value} (he : IsEnum h e it k old) (ht : h.IsTuple a cells) : e ≠ a := fun z => by
  obtain ⟨o, ho, hc, _⟩ := ht
  have he2 : h.get? e = some _ := he
  rw [z, ho] at he2
  cases he2
  simp at hc
theorem iter_ne_tup {h : Heap} {it a b : Addr} {i : Nat} {cells : Array Value} (hi : h.IsTupleIter it b i) (ht : h.IsTuple a cells) : a ≠ it := fun z => by
  obtain ⟨o, ho, hc, _⟩ := ht
  obtain ⟨o', ho', hc', _⟩ := hi
  rw [z, ho'] at ho
  cases ho
  rw [hc'] at hc
  simp at hc
theorem turn_enumT {P : Program} {w : World} {K : PySem.W.Frag} {elts : List Expr} {kk : Nat} {tpos : Pos} (a e it : Addr) :
    Turn P w K (.Tuple elts kk tpos) (IteT K a) [e, it] e (fun i h => (∃ old, IsEnum h e it ((i : Nat) : Int) old) ∧ h.IsTupleIter it a i ∧ e ≠ it) where
  mem := List.mem_cons_self
  obj := fun i h st b hb => by
    obtain ⟨⟨old, he⟩, hit, _⟩ := st
    rcases mem2 hb with z | z
    · subst z
      exact ⟨_, he, fun _ hv => by cases hv⟩
    · obtain ⟨o, ho, hc, hd⟩ := hit
      exact ⟨o, by rw [z]; exact ho, fun v q => by rw [hd] at q; cases q⟩
  keep := fun i h h' st kp => ⟨st.1.elim fun old he => ⟨old, kp e List.mem_cons_self _ he⟩, st.2.1.at fun o q => kp it (List.mem_cons_of_mem _ List.mem_cons_self) o q, st.2.2⟩
  item := by
    intro X hP hw hK hc i pins s σ H E I hf st hg
    cases hP
    cases hw
    cases hK
    obtain ⟨⟨old, he⟩, hit, hne⟩ := st
    obtain ⟨xs, x, hq, hx⟩ := hg
    obtain ⟨its, rv, pt, _⟩ := I.tuple hq
    obtain ⟨u, hu, ru⟩ := rv.get hx
    have pt' : s.heap.IsTuple a its.toArray := pt
    have hel : e < s.heap.objs.size := Heap.lt_size he
    have hil : it < s.heap.objs.size := hit.elim fun o q => Heap.lt_size q.1
    have hea := enum_ne_tup he pt'
    have hai := iter_ne_tup hit pt'
    have hD := Draws.tuple (prog := X.prog) (w := X.w) (A := X.A.in1) (I.ok.hd hc) it a hai its.toArray
    have hsz : its.toArray.size = its.length := List.size_toArray
    have hlt : i < its.toArray.size := by
      rw [hsz]
      exact (List.getElem?_eq_some_iff.mp hu).1
    refine wpAny_pyNext_enum_itemD hD he ⟨hit, pt'⟩ hlt hne (fun z => by rcases mem2 z with z | z; exact hne z; exact hea z) fun y h1 tk hy ho hst hT hz2 hk => ?_
    have eu : y = u := by
      have hy2 : its[i]? = some y := by simpa using hy
      rw [hu] at hy2
      exact (Option.some.inj hy2).symm
    subst eu
    refine ⟨_, rfl, wpAny_letOwnedTupleGo_enum (s := { s with heap := h1, toks := tk + 1 }) ho fun h2 he2 sb => ?_⟩
    have hT2 : h2.get? s.heap.objs.size = some { cls := .type "tuple", data := .seq #[.int i tk, y] } := (sb.2 _ (Nat.ne_of_gt hel)).trans hT
    have hnew : ObjOk X.prog X.w (upd H s.heap.objs.size (.tup [.int (i : Nat), x])) h2 s.heap.objs.size (.tup [.int (i : Nat), x]) := ⟨by show 2 ≤ sizeLine; decide, [.int i tk, y], .cons ⟨_, rfl⟩ (.cons ru .nil), ⟨_, hT2, rfl, _, rfl⟩⟩
    have I2 : L2.Inv X pins σ (upd H s.heap.objs.size (.tup [.int (i : Nat), x])) { s with heap := h2, toks := tk + 1 } :=
      I.turnedNew (ch := [e, it]) (fun b ob hb q => (sb.2 b (fun z => hb (by rw [z]; exact List.mem_cons_self))).trans (hk b ob (fun z => hb (by rw [z]; exact List.mem_cons_self)) (fun z => hb (by rw [z]; exact List.mem_cons_of_mem _ List.mem_cons_self)) q)) hf (Nat.le_refl _) hnew
    refine ⟨.ref s.heap.objs.size, _, I2, rfl, ⟨_, x, rfl, I.hok.fresh (Nat.le_refl _), rfl, fun ys hy => by rw [I.tuple_inj hy hq]; exact hx⟩, ⟨⟨y, ?_⟩, hst.1.at fun o q => (sb.2 it (Ne.symm hne)).trans q, hne⟩, fun b hb => ?_⟩
    · rw [show ((i + 1 : Nat) : Int) = (i : Int) + 1 by omega]
      exact he2
    · have hbs : b < s.heap.objs.size := by
        rcases mem2 hb with z | z <;> rw [z]
        · exact hel
        · exact hil
      rw [upd_ne (Nat.ne_of_lt hbs)]
      exact (hf b hb).1
  done := by
    intro X hP hw hK hc i pins s σ H E I hf st hg
    cases hP
    cases hw
    cases hK
    obtain ⟨⟨old, he⟩, hit, hne⟩ := st
    obtain ⟨xs, hq, hx⟩ := hg
    obtain ⟨its, rv, pt, _⟩ := I.tuple hq
    have pt' : s.heap.IsTuple a its.toArray := pt
    obtain ⟨f0, f1, f2, f3, f4, f5⟩ := hf it (List.mem_cons_of_mem _ List.mem_cons_self)
    have hD := Draws.tuple (prog := X.prog) (w := X.w) (A := X.A.in1) (I.ok.hd hc) it a (iter_ne_tup hit pt') its.toArray
    have hn : its.toArray.size = i := by
      rw [List.size_toArray, ← rv.length, hx]
    rw [← hn] at hit
    exact wpAny_pyNext_enum_endD hD he ⟨hit, pt'⟩ fun hh eb => ⟨rfl, I.turned (t' := s.toks) (fun b o hb q => eb b o hb q) f0 f1 f3 f4 f5⟩
  self := fun A i s Q E st h => st.1.elim fun _ he => wpAny_pyIter_enum he h
theorem walk_enumT {K : PySem.W.Frag} {a : Addr} {xs : List V} : Walk (IteT K a) xs.length (fun H => SqT K H a xs) (YPair (fun i => some (.int (i : Nat))) (fun i => xs[i]?)) := by
  refine ⟨fun i _ hi q => ⟨xs, xs[i], q, List.getElem?_eq_getElem hi⟩, fun _ q => ⟨xs, q, rfl⟩, fun i H v H' _ q y => ?_⟩
  obtain ⟨T, x, h1, h2, h3, h4⟩ := y
  exact ⟨T, .int (i : Nat), x, h1, h2, h3, rfl, h4 xs q⟩
def iEnumT (K : PySem.W.Frag) (ta : TA) : TI := fun σ H R => ta σ H fun vs H1 => ∃ a xs, vs = [.ref a] ∧ SqT K H1 a xs ∧ R (IteT K a) H1
theorem pi_enumT {X : Cx} {e : Expr} {ta : TA} {p pos tpos : Pos} {elts : List Expr} {kk : Nat} (hg : Gl X "enumerate") (hm : X.mg "enumerate" = none) (ha : PA X [e] ta) (hs : starEach [e] X.env = [(false, eval e X.env)] := by rfl) :
    PI X (.Tuple elts kk tpos) (.Call (.Name "enumerate" p) [e] [] pos) (iEnumT X.K ta) := ⟨fun pins s σ H R I h => by
  refine Call_ (ld_blt I hg hm boot_enumerate (PyProof.Rows.callWith_type1 (thn (ha.run pos pins s σ H _ I h) fun us s1 g => ?_) hs rfl))
  obtain ⟨vs, H1, I1, r1, a, xs, ev, hq, q⟩ := g
  subst ev
  cases r1 with
  | cons r rr =>
    cases rr
    cases r
    obtain ⟨its, rv, pt, _⟩ := I1.tuple hq
    refine enumT_made (show s1.heap.IsTuple a its.toArray from pt) fun hh he hit hsz hk => wpAny_pyIter_enum he ?_
    have I2 : L2.Inv X pins σ H1 { s1 with heap := hh } := I1.kept (t' := s1.toks) hk
    exact ⟨s1.heap.objs.size + 1, [s1.heap.objs.size + 1, s1.heap.objs.size], _, _, H1, rfl, I2, turn_enumT a (s1.heap.objs.size + 1) s1.heap.objs.size, ⟨⟨.none, he⟩, hit, Nat.succ_ne_self _⟩, fun b hb => by
      have hle : s1.heap.objs.size ≤ b := by
        rcases mem2 hb with z | z <;> rw [z]
        · exact Nat.le_add_right _ _
        · exact Nat.le_refl _
      exact I1.fpOk hle (I1.hok.fresh hle), q⟩⟩

def iEnumA (K : PySem.W.Frag) (ta : TA) : TI := fun σ H R => iEnum K ta σ H R ∨ iEnumT K ta σ H R
theorem pi_enumA {X : Cx} {e : Expr} {ta : TA} {p pos tpos : Pos} {elts : List Expr} {kk : Nat} (hg : Gl X "enumerate") (hm : X.mg "enumerate" = none) (ha : PA X [e] ta) (hs : starEach [e] X.env = [(false, eval e X.env)] := by rfl) :
    PI X (.Tuple elts kk tpos) (.Call (.Name "enumerate" p) [e] [] pos) (iEnumA X.K ta) := pi_or (pi_enum hg hm ha hs) (pi_enumT hg hm ha hs)
theorem iEnumA_at {K : PySem.W.Frag} {ta : TA} {σ : L2.St} {H H1 : Hp} {R : It → Hp → Prop} {a : Addr} {f : Bool} {xs : List V} (ht : ∀ R' : List V → Hp → Prop, R' [.ref a] H1 → ta σ H R') (hs : SqF f K H1 a xs)
    (q : ∀ J, Walk J xs.length (fun H => SqF f K H a xs) (YPair (fun i => some (.int (i : Nat))) (fun i => xs[i]?)) → R J H1) : iEnumA K ta σ H R := by
  cases f with
  | false => exact .inl (ht _ ⟨a, xs, rfl, hs, q _ walk_enum⟩)
  | true => exact .inr (ht _ ⟨a, xs, rfl, hs, q _ walk_enumT⟩)
end Jl

set_option Elab.async false
set_option linter.all false
set_option maxRecDepth 100000
set_option maxHeartbeats 1000000
namespace Jl
open PySem PySem.Spec PyProof.Rows L2
open Evl (sz_of sz_lt)
/-! ### lists, one behind another, however they stand -/
def rCatL (K : PySem.W.Frag) : R2 := fun x y H Q => ∃ (l b : Addr) (xs zs : List V), x = .ref l ∧ y = .ref b ∧ SqL K H l xs ∧ SqL K H b zs ∧ xs.length + zs.length ≤ sizeLine ∧ ∀ p, H p = none → Q (.ref p) (upd H p (.lst (xs ++ zs)))
theorem op_catL {X : Cx} : OpR X (binaryOp .Add) (rCatL X.K) := by
  intro pins s σ H x y v u Q I rx ry hyp
  obtain ⟨l, b, xs, zs, ex, ey, h1, h2, hz, q⟩ := hyp
  subst ex ey
  cases rx
  cases ry
  obtain ⟨i1, r1, p1, _⟩ := I.list h1
  obtain ⟨i2, r2, p2, _⟩ := I.list h2
  obtain ⟨⟨c1, d1, t1, s1⟩, g1, k1, n1, e1⟩ := p1.isList
  obtain ⟨⟨c2, d2, t2, s2⟩, g2, k2, n2, e2⟩ := p2.isList
  have k1 : c1 = .type "list" := k1
  have e1 : t1 = .seq i1.toArray n1 := e1
  have k2 : c2 = .type "list" := k2
  have e2 : t2 = .seq i2.toArray n2 := e2
  subst k1 e1 k2 e2
  have l1 := r1.length
  have l2 := r2.length
  refine concat_meets ⟨_, g1, rfl⟩ ⟨_, g2, rfl⟩ noFill_list_add seq_list_add PySem.F.slot_list_add PySem.F.entry_list_add (PySem.F.args_list_add_2 (.ref l) (.ref b)) (list_addW l b i1.toArray i2.toArray n1 n2 d1 d2 s1 s2 (by rw [List.size_toArray, List.size_toArray]; omega)) ⟨g1, g2, ?_⟩
  have ea : i1.toArray ++ i2.toArray = (i1 ++ i2).toArray := by simp only [List.append_toArray]
  rw [ea]
  have I2 := I.lnew (t' := s.toks) (r1.append r2) (by rw [List.length_append]; omega)
  exact ⟨.ref _, _, I2, rfl, q _ I.fresh⟩
theorem ic_catL {K : PySem.W.Frag} {S : List Addr} {H0 : Hp} {σ : L2.St} {ta tb : TE} {ds es : List PyData} (h1 : IsC K S H0 ta (.list ds) σ) (h2 : IsC K S H0 tb (.list es) σ) (hl : ds.length + es.length ≤ 1000) : IsC K S H0 (tOp (rCatL K) ta tb) (.list (ds ++ es)) σ := fun H Q e tr k =>
  h1 H _ e tr fun H1 v s1 d1 => h2 H1 _ (e.trans s1) (tr.mono s1) fun H2 u s2 d2 => by
    obtain ⟨c, xs, rfl, hc, hx⟩ := Dp.seq_of (f := false) ((cutS_mono s2).dp d1)
    obtain ⟨d, ys, rfl, hd, hy⟩ := Dp.seq_of (f := false) d2
    have lx := dpa_len hx
    have ly := dpa_len hy
    have s12 := s1.trans s2
    exact ⟨c, d, xs, ys, rfl, rfl, cutS_le.sqL hc, cutS_le.sqL hd, Nat.le_of_lt (sz_lt (by omega)), fun p hp => k _ _ (s12.trans (.upd hp)) (dp_lst (tr.mono s12) hp (dpa_app hx hy))⟩
end Jl

set_option Elab.async false
set_option linter.all false
set_option maxRecDepth 100000
set_option maxHeartbeats 1000000
set_option pp.maxSteps 300
namespace Jl
open PySem PySem.Spec PyProof.Rows L2
open Evl (sz_of sz_lt)

/-! ### what the pile of rings comes to -/
inductive Ext (qs : List QD) : Gs → List Mk → Prop
  | close (a : Gs) (m : Mk) (hm : m ∈ touchN qs (lsG a) qs.length) (h1 : far qs m = hdG a) (h2 : a.row ≠ []) (h3 : m.1 ∉ a.row.map (·.1)) : Ext qs a (a.row ++ [m])
  | step (a : Gs) (m : Mk) (r : List Mk) (hm : m ∈ touchN qs (lsG a) qs.length) (h1 : far qs m ≠ hdG a) (h2 : gtS (far qs m) (hdG a) = true) (h3 : far qs m ∉ a.met) (h : Ext qs ⟨a.row ++ [m], a.met ++ [far qs m]⟩ r) : Ext qs a r
theorem one_mem {qs : List QD} {a : Gs} : ∀ {l : List Mk} {p : Ps},
    (∀ r, r ∈ (l.foldl (one qs a) p).1 ↔ r ∈ p.1 ∨ ∃ m ∈ l, far qs m = hdG a ∧ a.row ≠ [] ∧ m.1 ∉ a.row.map (·.1) ∧ r = a.row ++ [m]) ∧
    (∀ b, b ∈ (l.foldl (one qs a) p).2 ↔ b ∈ p.2 ∨ ∃ m ∈ l, far qs m ≠ hdG a ∧ gtS (far qs m) (hdG a) = true ∧ far qs m ∉ a.met ∧ b = ⟨a.row ++ [m], a.met ++ [far qs m]⟩)
  | [], p => ⟨fun r => ⟨.inl, fun h => h.elim id fun ⟨m, hm, _⟩ => absurd hm List.not_mem_nil⟩, fun b => ⟨.inl, fun h => h.elim id fun ⟨m, hm, _⟩ => absurd hm List.not_mem_nil⟩⟩
  | z :: l, p => by
    obtain ⟨g1, g2⟩ := one_mem (qs := qs) (a := a) (l := l) (p := one qs a p z)
    rw [List.foldl_cons]
    have h1 : ∀ r, r ∈ (one qs a p z).1 ↔ r ∈ p.1 ∨ (far qs z = hdG a ∧ a.row ≠ [] ∧ z.1 ∉ a.row.map (·.1) ∧ r = a.row ++ [z]) := fun r => by
      unfold one
      by_cases e : far qs z = hdG a
      · rw [if_pos e]
        by_cases c : a.row ≠ [] ∧ z.1 ∉ a.row.map (·.1)
        · rw [if_pos c, List.mem_append, List.mem_singleton]
          exact ⟨fun h => h.imp id fun h => ⟨e, c.1, c.2, h⟩, fun h => h.imp id fun h => h.2.2.2⟩
        · rw [if_neg c]
          exact ⟨.inl, fun h => h.elim id fun h => absurd ⟨h.2.1, h.2.2.1⟩ c⟩
      · rw [if_neg e]
        split
        · exact ⟨.inl, fun h => h.elim id fun h => absurd h.1 e⟩
        · exact ⟨.inl, fun h => h.elim id fun h => absurd h.1 e⟩
    have h2 : ∀ b, b ∈ (one qs a p z).2 ↔ b ∈ p.2 ∨ (far qs z ≠ hdG a ∧ gtS (far qs z) (hdG a) = true ∧ far qs z ∉ a.met ∧ b = ⟨a.row ++ [z], a.met ++ [far qs z]⟩) := fun b => by
      unfold one
      by_cases e : far qs z = hdG a
      · rw [if_pos e]
        split
        · exact ⟨.inl, fun h => h.elim id fun h => absurd e h.1⟩
        · exact ⟨.inl, fun h => h.elim id fun h => absurd e h.1⟩
      · rw [if_neg e]
        by_cases c : gtS (far qs z) (hdG a) = true ∧ far qs z ∉ a.met
        · rw [if_pos c, List.mem_append, List.mem_singleton]
          exact ⟨fun h => h.imp id fun h => ⟨e, c.1, c.2, h⟩, fun h => h.imp id fun h => h.2.2.2⟩
        · rw [if_neg c]
          exact ⟨.inl, fun h => h.elim id fun h => absurd ⟨h.2.1, h.2.2.1⟩ c⟩
    refine ⟨fun r => ?_, fun b => ?_⟩
    · rw [g1, h1]
      constructor
      · rintro ((h | h) | ⟨m, hm, h⟩)
        · exact .inl h
        · exact .inr ⟨z, List.mem_cons_self, h⟩
        · exact .inr ⟨m, List.mem_cons_of_mem _ hm, h⟩
      · rintro (h | ⟨m, hm, h⟩)
        · exact .inl (.inl h)
        · rcases List.mem_cons.mp hm with rfl | hm
          · exact .inl (.inr h)
          · exact .inr ⟨m, hm, h⟩
    · rw [g2, h2]
      constructor
      · rintro ((h | h) | ⟨m, hm, h⟩)
        · exact .inl h
        · exact .inr ⟨z, List.mem_cons_self, h⟩
        · exact .inr ⟨m, List.mem_cons_of_mem _ hm, h⟩
      · rintro (h | ⟨m, hm, h⟩)
        · exact .inl (.inl h)
        · rcases List.mem_cons.mp hm with rfl | hm
          · exact .inl (.inr h)
          · exact .inr ⟨m, hm, h⟩
theorem ext_iff {qs : List QD} {a : Gs} {r : List Mk} : Ext qs a r ↔ (∃ m ∈ touchN qs (lsG a) qs.length, far qs m = hdG a ∧ a.row ≠ [] ∧ m.1 ∉ a.row.map (·.1) ∧ r = a.row ++ [m]) ∨ ∃ m ∈ touchN qs (lsG a) qs.length, far qs m ≠ hdG a ∧ gtS (far qs m) (hdG a) = true ∧ far qs m ∉ a.met ∧ Ext qs ⟨a.row ++ [m], a.met ++ [far qs m]⟩ r := by
  constructor
  · intro h
    match h with
    | .close _ m hm h1 h2 h3 => exact .inl ⟨m, hm, h1, h2, h3, rfl⟩
    | .step _ m _ hm h1 h2 h3 h => exact .inr ⟨m, hm, h1, h2, h3, h⟩
  · rintro (⟨m, hm, h1, h2, h3, rfl⟩ | ⟨m, hm, h1, h2, h3, h⟩)
    · exact .close a m hm h1 h2 h3
    · exact .step a m r hm h1 h2 h3 h
theorem rn_mem {qs : List QD} {p : Ps} {g : List (List Mk)} (h : Rn qs p g) : ∀ r, r ∈ g ↔ r ∈ p.1 ∨ ∃ a ∈ p.2, Ext qs a r := by
  induction h with
  | done f => exact fun r => ⟨.inl, fun h => h.elim id fun ⟨a, ha, _⟩ => absurd ha List.not_mem_nil⟩
  | next f o a g _ ih =>
    intro r
    obtain ⟨s1, s2⟩ := one_mem (qs := qs) (a := a) (l := touchN qs (lsG a) qs.length) (p := (f, o))
    rw [ih]
    unfold stp
    rw [s1]
    constructor
    · rintro ((h | ⟨m, hm, h1, h2, h3, h4⟩) | ⟨b, hb, hx⟩)
      · exact .inl h
      · exact .inr ⟨a, List.mem_append_right _ (List.mem_singleton.mpr rfl), ext_iff.mpr (.inl ⟨m, hm, h1, h2, h3, h4⟩)⟩
      · rcases (s2 b).mp hb with hb | ⟨m, hm, h1, h2, h3, rfl⟩
        · exact .inr ⟨b, List.mem_append_left _ hb, hx⟩
        · exact .inr ⟨a, List.mem_append_right _ (List.mem_singleton.mpr rfl), ext_iff.mpr (.inr ⟨m, hm, h1, h2, h3, hx⟩)⟩
    · rintro (h | ⟨b, hb, hx⟩)
      · exact .inl (.inl h)
      · rcases List.mem_append.mp hb with hb | hb
        · exact .inr ⟨b, (s2 b).mpr (.inl hb), hx⟩
        · rw [List.mem_singleton] at hb
          subst hb
          rcases ext_iff.mp hx with h | ⟨m, hm, h1, h2, h3, hx⟩
          · exact .inl (.inr h)
          · exact .inr ⟨_, (s2 _).mpr (.inr ⟨m, hm, h1, h2, h3, rfl⟩), hx⟩
/-! ### rings as rows of workers -/
def fl (m : Mk) : Mk := (m.1, !m.2)
/-- along these workers -/
def path (qs : List QD) : List Str → List Mk → Prop
  | [_], [] => True
  | v :: u :: vs, m :: ms => link qs m v u ∧ path qs (u :: vs) ms
  | _, _ => False
theorem link_touch {qs : List QD} {m : Mk} {x y : Str} (hne : ∀ q ∈ qs, q.st ≠ q.en) (h : link qs m x y) : m ∈ touchN qs x qs.length ∧ far qs m = y := by
  obtain ⟨q, hq, h⟩ := h
  have hlt := (List.getElem?_eq_some_iff.mp hq).1
  have hn := hne q (List.mem_of_getElem? hq)
  obtain ⟨i, b⟩ := m
  refine ⟨List.mem_filterMap.mpr ⟨i, List.mem_range.mpr hlt, ?_⟩, ?_⟩
  · unfold tch
    rw [show qs[i]? = some q from hq]
    rcases h with ⟨h1, h2, _⟩ | ⟨h1, h2, _⟩
    · have h1 : b = true := h1
      subst h1
      exact if_pos h2
    · have h1 : b = false := h1
      subst h1
      show (if q.st = x then some (i, true) else if q.en = x then some (i, false) else none) = some (i, false)
      rw [if_neg (by rw [← h2]; exact hn), if_pos h2]
  · unfold far
    rw [show qs[(i, b).1]? = some q from hq]
    rcases h with ⟨h1, _, h2⟩ | ⟨h1, _, h2⟩
    · have h1 : b = true := h1
      subst h1
      exact h2
    · have h1 : b = false := h1
      subst h1
      exact h2
theorem link_fl {qs : List QD} {m : Mk} {x y : Str} (h : link qs m x y) : link qs (fl m) y x := by
  obtain ⟨q, hq, h⟩ := h
  refine ⟨q, hq, ?_⟩
  rcases h with ⟨h1, h2, h3⟩ | ⟨h1, h2, h3⟩
  · exact .inr ⟨by unfold fl; rw [h1]; rfl, h3, h2⟩
  · exact .inl ⟨by unfold fl; rw [h1]; rfl, h3, h2⟩
theorem link_same {qs : List QD} {m m' : Mk} {x y x' y' : Str} (e : m.1 = m'.1) (h : link qs m x y) (h' : link qs m' x' y') : (x = x' ∧ y = y') ∨ (x = y' ∧ y = x') := by
  obtain ⟨q, hq, h⟩ := h
  obtain ⟨q', hq', h'⟩ := h'
  rw [e, hq'] at hq
  cases hq
  rcases h with ⟨_, h2, h3⟩ | ⟨_, h2, h3⟩ <;> rcases h' with ⟨_, g2, g3⟩ | ⟨_, g2, g3⟩
  · exact .inl ⟨h2.symm.trans g2, h3.symm.trans g3⟩
  · exact .inr ⟨h2.symm.trans g3, h3.symm.trans g2⟩
  · exact .inr ⟨h2.symm.trans g3, h3.symm.trans g2⟩
  · exact .inl ⟨h2.symm.trans g2, h3.symm.trans g3⟩
theorem path_snoc {qs : List QD} {v u : Str} {m : Mk} (hm : link qs m v u) : ∀ {vs : List Str} {ms : List Mk}, path qs (vs ++ [v]) ms → path qs (vs ++ [v, u]) (ms ++ [m])
  | [], [], _ => ⟨hm, trivial⟩
  | [], _ :: _, h => absurd h id
  | [x], [], h => absurd h id
  | x :: y :: vs, [], h => absurd h id
  | [x], m0 :: ms, h => ⟨h.1, path_snoc hm (vs := []) h.2⟩
  | x :: y :: vs, m0 :: ms, h => ⟨h.1, path_snoc hm (vs := y :: vs) h.2⟩
theorem path_rev {qs : List QD} : ∀ {vs : List Str} {ms : List Mk}, path qs vs ms → path qs vs.reverse (ms.map fl).reverse
  | [v], [], _ => trivial
  | v :: u :: vs, m :: ms, h => by
    have h2 := path_rev h.2
    rw [List.reverse_cons] at h2
    have h3 := path_snoc (link_fl h.1) h2
    rw [List.map_cons, List.reverse_cons, List.reverse_cons, List.reverse_cons, List.append_assoc]
    exact h3
/-- a ring from w: the workers between, the steps -/
structure RingW (qs : List QD) (w : Str) (us : List Str) (r : List Mk) : Prop where
  pa : path qs (w :: us ++ [w]) r
  ne : us ≠ []
  nd : us.Nodup
  gt : ∀ u ∈ us, u ≠ w ∧ gtS u w = true
  la : ∀ (pre : List Mk) (m : Mk), r = pre ++ [m] → m.1 ∉ pre.map (·.1)
theorem ext_of {qs : List QD} (hne : ∀ q ∈ qs, q.st ≠ q.en) {w : Str} : ∀ (us : List Str) (ms : List Mk) (a : Gs), hdG a = w → path qs (lsG a :: us ++ [w]) ms → us.Nodup → (∀ u ∈ us, u ≠ w ∧ gtS u w = true ∧ u ∉ a.met) → (a.row = [] → us ≠ []) → (∀ (pre : List Mk) (m : Mk), a.row ++ ms = pre ++ [m] → m.1 ∉ pre.map (·.1)) → a.met ≠ [] → Ext qs a (a.row ++ ms)
  | [], [], a, _, h, _, _, _, _, _ => absurd h id
  | [], [m], a, hw, h, _, _, hr, hl, _ => by
    obtain ⟨h1, h2⟩ := link_touch hne h.1
    exact .close a m h1 (h2.trans hw.symm) (fun e => hr e rfl) (hl a.row m rfl)
  | [], m :: m' :: ms, a, _, h, _, _, _, _, _ => absurd h.2 id
  | u :: us, [], a, _, h, _, _, _, _, _ => absurd h id
  | u :: us, m :: ms, a, hw, h, hn, hg, hr, hl, hm => by
    obtain ⟨h1, h2⟩ := link_touch hne h.1
    obtain ⟨k1, k2, k3⟩ := hg u List.mem_cons_self
    rw [List.nodup_cons] at hn
    have hd2 : hdG ⟨a.row ++ [m], a.met ++ [u]⟩ = w := by
      rw [← hw]
      unfold hdG
      cases hmet : a.met with
      | nil => exact absurd hmet hm
      | cons x xs => rfl
    have ls2 : lsG ⟨a.row ++ [m], a.met ++ [u]⟩ = u := by
      unfold lsG
      simp
    have ih := ext_of hne us ms ⟨a.row ++ [m], a.met ++ [u]⟩ hd2 (by rw [ls2]; exact h.2) hn.2 (fun x hx => by
      obtain ⟨q1, q2, q3⟩ := hg x (List.mem_cons_of_mem _ hx)
      refine ⟨q1, q2, fun hz => ?_⟩
      rcases List.mem_append.mp hz with hz | hz
      · exact q3 hz
      · rw [List.mem_singleton] at hz
        rw [hz] at hx
        exact hn.1 hx) (fun e => absurd (congrArg List.length e) (by simp)) (fun pre m2 e => hl pre m2 (by rw [← e]; simp)) (by simp)
    have e : a.row ++ m :: ms = (a.row ++ [m]) ++ ms := by simp
    rw [e]
    refine .step a m _ h1 (by rw [h2, hw]; exact k1) (by rw [h2, hw]; exact k2) (by rw [h2]; exact k3) ?_
    rw [h2]
    exact ih
theorem ext_to {qs : List QD} {w : Str} {a : Gs} {r : List Mk} (h : Ext qs a r) : hdG a = w → a.met ≠ [] → ∃ us ms, r = a.row ++ ms ∧ path qs (lsG a :: us ++ [w]) ms ∧ us.Nodup ∧ (∀ u ∈ us, u ≠ w ∧ gtS u w = true ∧ u ∉ a.met) ∧ (a.row = [] → us ≠ []) ∧ (∀ (pre : List Mk) (m : Mk), r = pre ++ [m] → m.1 ∉ pre.map (·.1)) := by
  induction h with
  | close a m hm h1 h2 h3 =>
    intro hw _
    have hl := touch_link hm
    rw [h1, hw] at hl
    refine ⟨[], [m], rfl, ⟨hl, trivial⟩, List.nodup_nil, fun u hu => absurd hu List.not_mem_nil, fun e => absurd e h2, fun pre m2 e => ?_⟩
    obtain ⟨e1, e2⟩ := List.append_inj' e rfl
    cases e2
    rw [← e1]
    exact h3
  | step a m r hm h1 h2 h3 h ih =>
    intro hw hmet
    have hd2 : hdG ⟨a.row ++ [m], a.met ++ [far qs m]⟩ = w := by
      rw [← hw]
      unfold hdG
      cases hm2 : a.met with
      | nil => exact absurd hm2 hmet
      | cons x xs => rfl
    have ls2 : lsG ⟨a.row ++ [m], a.met ++ [far qs m]⟩ = far qs m := by
      unfold lsG
      simp
    obtain ⟨us, ms, e, hp, hn, hg, hr, hl⟩ := ih hd2 (by simp)
    rw [ls2] at hp
    refine ⟨far qs m :: us, m :: ms, by rw [e]; simp, ⟨touch_link hm, hp⟩, List.nodup_cons.mpr ⟨fun hz => ?_, hn⟩, fun u hu => ?_, fun _ => List.cons_ne_nil _ _, hl⟩
    · exact (hg _ hz).2.2 (List.mem_append_right _ (List.mem_singleton.mpr rfl))
    · rcases List.mem_cons.mp hu with rfl | hu
      · rw [hw] at h1 h2
        exact ⟨h1, h2, h3⟩
      · obtain ⟨q1, q2, q3⟩ := hg u hu
        exact ⟨q1, q2, fun z => q3 (List.mem_append_left _ z)⟩
/-- the rings that are listed -/
theorem ring_mem {ws : List Str} {qs : List QD} {g : List (List Mk)} (hne : ∀ q ∈ qs, q.st ≠ q.en) (h : Rn qs (startP ws) g) : ∀ r, r ∈ g ↔ ∃ w ∈ ws, ∃ us, RingW qs w us r := by
  intro r
  rw [rn_mem h]
  constructor
  · rintro (h | ⟨a, ha, hx⟩)
    · exact absurd h List.not_mem_nil
    · obtain ⟨w, hw, rfl⟩ := List.mem_map.mp ha
      obtain ⟨us, ms, e, hp, hn, hg, hr, hl⟩ := ext_to (w := w) hx rfl (List.cons_ne_nil _ _)
      have e : r = ms := e
      subst e
      exact ⟨w, hw, us, hp, hr rfl, hn, fun u hu => ⟨(hg u hu).1, (hg u hu).2.1⟩, hl⟩
  · rintro ⟨w, hw, us, hR⟩
    refine .inr ⟨⟨[], [w]⟩, List.mem_map.mpr ⟨w, hw, rfl⟩, ?_⟩
    exact ext_of hne us r ⟨[], [w]⟩ rfl hR.pa hR.nd (fun u hu => ⟨(hR.gt u hu).1, (hR.gt u hu).2, fun z => (hR.gt u hu).1 (List.mem_singleton.mp z)⟩) (fun _ => hR.ne) hR.la (List.cons_ne_nil _ _)
/-! ### rings the other way round -/
def revR (r : List Mk) : List Mk := (r.map fl).reverse
theorem fl_fl (m : Mk) : fl (fl m) = m := by
  obtain ⟨i, b⟩ := m
  cases b <;> rfl
theorem revR_revR (r : List Mk) : revR (revR r) = r := by
  unfold revR
  rw [List.map_reverse, List.reverse_reverse, List.map_map]
  have : fl ∘ fl = id := funext fl_fl
  rw [this, List.map_id]
/-- a later step of a ring over the queue of the first one -/
theorem path_in {qs : List QD} : ∀ {vs : List Str} {ms : List Mk} {m : Mk}, path qs vs ms → m ∈ ms → ∃ x y, link qs m x y ∧ x ∈ vs.dropLast ∧ y ∈ vs.tail
  | [_], [], _, _, h => absurd h List.not_mem_nil
  | v :: u :: vs, m0 :: ms, m, h, hm => by
    rcases List.mem_cons.mp hm with rfl | hm
    · exact ⟨v, u, h.1, by simp, by simp⟩
    · obtain ⟨x, y, h1, h2, h3⟩ := path_in h.2 hm
      refine ⟨x, y, h1, ?_, ?_⟩
      · rw [List.dropLast_cons₂]
        exact List.mem_cons_of_mem _ h2
      · exact List.mem_cons_of_mem _ h3
end Jl

set_option Elab.async false
set_option linter.all false
set_option maxRecDepth 100000
set_option maxHeartbeats 1000000
set_option pp.maxSteps 300
namespace Jl
open PySem PySem.Spec PyProof.Rows L2
open Evl (sz_of sz_lt)
local macro_rules | `(tactic| walk_at "at") => `(tactic| first | exact box0 | exact box1 | exact box2)
local macro_rules | `(tactic| walk_at "sq") => `(tactic| first | (show SqL _ _ _ _; assumption) | (show SqT _ _ _ _; assumption) | (show _ = some _; assumption))
local macro_rules | `(tactic| walk_at "side") => `(tactic| first
  | (show (0 : Int) < _; decide)
  | (show (0 : Int) < _; omega)
  | exact ⟨by decide, by decide, by decide⟩
  | exact sz_of (Nat.le_of_ble_eq_true rfl)
  | exact rfl
  | exact Or.inl (by decide)
  | exact Or.inr (by decide)
  | exact Or.inr ⟨by omega, by omega⟩
  | exact Or.inl ⟨by omega, by omega⟩
  | exact ⟨by decide, by decide +kernel⟩)
local macro_rules | `(tactic| walk_at "ev1") => `(tactic| first
  | refine ⟨_, rfl, ?_⟩
  | refine ⟨_, _, rfl, rfl, ?_⟩
  | refine ⟨_, _, _, _, rfl, rfl, (by walk_at "sq"), (by walk_at "at"), ?_⟩
  | refine ⟨_, _, rfl, (by walk_at "sq"), ?_⟩
  | refine ⟨_, _, rfl, Or.inl (by walk_at "sq"), ?_⟩
  | refine ⟨_, _, rfl, Or.inr (by walk_at "sq"), ?_⟩
  | refine Or.inl ⟨_, rfl, ?_⟩
  | refine Or.inr ⟨_, rfl, ?_⟩
  | refine ⟨(by walk_at "side"), ?_⟩
  | refine ⟨.inl ⟨rfl, _, (by walk_at "sq")⟩, ?_⟩
  | refine ⟨_, _, rfl, ?_⟩)
local macro_rules | `(tactic| walk_at "nrm") => `(tactic| dsimp only [tNil, tCons, tC, tCB])
local macro_rules | `(tactic| walk_at "ev") => `(tactic| repeat (walk_at "ev1"))
/-! ### a statement that is never come to -/
def tNo : TS := fun _ _ _ => False
theorem ps_no {X : Cx} {st : Stmt} : PS X st tNo := ⟨fun _ _ _ _ _ _ h => h.elim⟩
/-! ### sum of a tuple -/
section
variable {prog : Program} {w : World} {A : Around} {E : Value → Shared → Prop} {s : Shared} {l : Addr} {xs : Array (Int × Tok)}
theorem sum_intTupG {Q : Value → Shared → Prop} (hh : A.handled = none) (hl : s.heap.IsTuple l (intItems xs))
    (h : ∀ h' tk t', (∀ b o, s.heap.get? b = some o → h'.get? b = some o) → Q (.int (preSum (numAt xs) xs.size) t') { s with heap := h', toks := tk }) :
    wpAny (model prog w) A (call (.builtin "sum") [.ref l]) Q E s := by
  refine call_sum_walkG (wpAny_pyIter_tuple hl ?_)
  have hlt : l < s.heap.objs.size := by
    obtain ⟨_, e, _⟩ := id hl
    exact Heap.lt_size e
  refine ⟨_, [s.heap.objs.size, l], [s.heap.objs.size], _, _, _, numAt xs, rfl, Walks.tuple (A := A.in1) hh s.heap.objs.size l (Nat.ne_of_lt hlt) (intItems xs),
    ⟨⟨_, Heap.get?_push_size _ rfl, rfl, rfl⟩, hl.at fun o e => Heap.get?_push_of_some _ e⟩, fun c hc => ?_, (fun _ _ => intItems_at), fun h' tk t' hk => ?_⟩
  · show c < (s.heap.push _).objs.size
    rw [Heap.size_push]
    rcases List.mem_cons.mp hc with rfl | hc
    · exact Nat.lt_succ_self _
    · rw [List.mem_singleton.mp hc]
      exact Nat.lt_succ_of_lt hlt
  · have hold : ∀ c o, s.heap.get? c = some o → h'.get? c = some o := fun c o e => by
      refine hk c o (fun hm => ?_) (Heap.get?_push_of_some _ e)
      have := Heap.lt_size e
      rw [List.mem_singleton.mp hm] at this
      exact Nat.lt_irrefl _ this
    have := h h' tk t' hold
    simpa [intItems] using this
theorem sum_rawT {its : List Value} {ns : List Int} {Q : Value → Shared → Prop} (hh : A.handled = none) (hl : s.heap.IsTuple l its.toArray) (hi : IntsAre its ns)
    (h : ∀ h' tk t', (∀ b o, s.heap.get? b = some o → h'.get? b = some o) → Q (.int ns.sum t') { s with heap := h', toks := tk }) : wpAny (model prog w) A (call (.builtin "sum") [.ref l]) Q E s := by
  obtain ⟨xs, e⟩ := hi.allInts.items
  have hn : numsOf (intItems xs).toList = ns := by rw [← e]; exact hi.numsOf
  rw [nums_intItems] at hn
  rw [e] at hl
  refine sum_intTupG hh hl fun h' tk t' hk => ?_
  have := h h' tk t' hk
  rw [preSum_eq, List.take_of_length_le (by simp), hn]; exact this
end
def rSumT (K : PySem.W.Frag) : List V → Hp → VK → Prop := fun vs H Q => ∃ (a : Addr) (ns : List Int), vs = [V.ref a] ∧ SqT K H a (ns.map V.int) ∧ Q (.int ns.sum) H
theorem cr_sumT {X : Cx} (hc : X.calm = true) : CallR X (.builtin "sum") (rSumT X.K) := by
  intro pins s σ H vs us Q I r h
  obtain ⟨a, ns, rfl, hs, q⟩ := h
  obtain ⟨its, rv, hl, _⟩ := I.tuple hs
  rw [Vals.ref1 r]
  exact sum_rawT (I.ok.hd hc) hl rv.ints fun h' tk t' hk => ⟨.int _, H, I.kept hk, ⟨_, rfl⟩, q⟩
end Jl

set_option Elab.async false
set_option linter.all false
set_option maxRecDepth 100000
set_option maxHeartbeats 1000000
set_option pp.maxSteps 300
namespace Jl
open PySem PySem.Spec PyProof.Rows L2
open Evl (sz_of sz_lt)
local macro_rules | `(tactic| walk_at "at") => `(tactic| first | exact box0 | exact box1 | exact box2)
local macro_rules | `(tactic| walk_at "sq") => `(tactic| first | (show SqL _ _ _ _; assumption) | (show SqT _ _ _ _; assumption) | (show _ = some _; assumption))
local macro_rules | `(tactic| walk_at "side") => `(tactic| first
  | (show (0 : Int) < _; decide)
  | (show (0 : Int) < _; omega)
  | exact ⟨by decide, by decide, by decide⟩
  | exact sz_of (Nat.le_of_ble_eq_true rfl)
  | exact rfl
  | exact Or.inl (by decide)
  | exact Or.inr (by decide)
  | exact Or.inr ⟨by omega, by omega⟩
  | exact Or.inl ⟨by omega, by omega⟩
  | exact ⟨by decide, by decide +kernel⟩)
local macro_rules | `(tactic| walk_at "ev1") => `(tactic| first
  | refine ⟨_, rfl, ?_⟩
  | refine ⟨_, _, rfl, rfl, ?_⟩
  | refine ⟨_, _, _, _, rfl, rfl, (by walk_at "sq"), (by walk_at "at"), ?_⟩
  | refine ⟨_, _, rfl, (by walk_at "sq"), ?_⟩
  | refine ⟨_, _, rfl, Or.inl (by walk_at "sq"), ?_⟩
  | refine ⟨_, _, rfl, Or.inr (by walk_at "sq"), ?_⟩
  | refine Or.inl ⟨_, rfl, ?_⟩
  | refine Or.inr ⟨_, rfl, ?_⟩
  | refine ⟨(by walk_at "side"), ?_⟩
  | refine ⟨.inl ⟨rfl, _, (by walk_at "sq")⟩, ?_⟩
  | refine ⟨_, _, rfl, ?_⟩)
local macro_rules | `(tactic| walk_at "nrm") => `(tactic| dsimp only [tNil, tCons, tC, tCB])
local macro_rules | `(tactic| walk_at "ev") => `(tactic| repeat (walk_at "ev1"))

def bdQ (q : QD) : Prop := 0 ≤ q.gap ∧ q.gap ≤ 10 ^ 60 ∧ 0 ≤ q.room ∧ q.room ≤ 10 ^ 60
theorem seq_byC {t u : TS} {D : Ends} {σ : L2.St} {H : Hp} (M : L2.St → Hp → Prop) (h1 : ∀ σ H, M σ H → u D σ H) (h2 : ∀ D' : Ends, (∀ σ H, M σ H → D'.nx σ H) → t D' σ H) : tSeq t u D σ H := h2 { D with nx := u D } h1
structure NW (ws : List Str) (qs : List QD) : Prop where
  wn : ws.Nodup
  w1 : 1 ≤ ws.length
  wl : ws.length ≤ 60
  ql : qs.length ≤ 60
  qw : ∀ q ∈ qs, q.st ∈ ws ∧ q.en ∈ ws
  ok : ∀ x ∈ ws, PyData.strOk x = true
  bd : ∀ q ∈ qs, bdQ q
def tgT : List Str := [Str.ofString "s", Str.ofString "m", Str.ofString "n", Str.ofString "o", Str.ofString "t"]
def nmT : List Str := [Str.ofString "m", Str.ofString "q1", Str.ofString "s"]
/-- the bounds of drawn rows -/
def bdT (h : Int) (q : QD) : Prop := 1 ≤ q.gap ∧ q.gap ≤ q.room ∧ q.room ≤ h
theorem tw_in {z i : Nat} (h : i < z) (hz : z ≤ 3) : tgT.getD i default ∈ Str.ofString "t" :: tgT.take z := by
  refine List.mem_cons_of_mem _ ?_
  have : (tgT.take z)[i]? = some (tgT.getD i default) := by
    rw [List.getElem?_take_of_lt h, List.getD_eq_getElem?_getD, List.getElem?_eq_getElem (show i < tgT.length by show i < 5; omega)]
    rfl
  exact List.mem_of_getElem? this
theorem tw_nd : ∀ z : Nat, 1 ≤ z → z ≤ 3 → (Str.ofString "t" :: tgT.take z).Nodup ∧ (∀ x ∈ Str.ofString "t" :: tgT.take z, PyData.strOk x = true) ∧ (Str.ofString "t" :: tgT.take z).length ≤ 4 ∧ Str.ofString "s" ∈ tgT.take z
  | 1, _, _ => by decide +kernel
  | 2, _, _ => by decide +kernel
  | 3, _, _ => by decide +kernel
  | 0, h, _ => absurd h (by decide)
  | n + 4, _, h => absurd h (by omega)
theorem q_alike {q2 : List QD} : PySem.W.AllAlike (q2.map (QD.d true)) := fun d hd d' hd' => by
  obtain ⟨r, _, rfl⟩ := List.mem_map.mp hd
  obtain ⟨r', _, rfl⟩ := List.mem_map.mp hd'
  simp [QD.d, seqD, PySem.W.alike, PySem.W.alikeAll]
theorem q_sortable {q2 : List QD} : PySem.W.Sortable (q2.map (QD.d true)) := .inl fun d hd => by
  obtain ⟨r, hr, rfl⟩ := List.mem_map.mp hd
  exact ⟨_, _, rfl⟩
theorem q_depth {q : QD} : (QD.d true q).depth ≤ 1 := by
  simp [QD.d, seqD, PyData.depth, PyData.depthAll]
theorem qd_inj {q q' : QD} (h : QD.d true q = QD.d true q') : q = q' := by
  cases q
  cases q'
  simp [QD.d, seqD] at h
  obtain ⟨h1, h2, h3, h4, h5⟩ := h
  subst h1 h2 h3 h4 h5
  rfl
theorem perm_rows {l : List PyData} {q2 : List QD} (h : l.Perm (q2.map (QD.d true))) : ∃ q3 : List QD, l = q3.map (QD.d true) ∧ q3.length = q2.length ∧ ∀ q ∈ q3, q ∈ q2 := by
  have hl : ∀ d ∈ l, ∃ q ∈ q2, QD.d true q = d := fun d hd => List.mem_map.mp (h.mem_iff.mp hd)
  have len := h.length_eq
  rw [List.length_map] at len
  rw [← len]
  clear h len
  induction l with
  | nil => exact ⟨[], rfl, rfl, fun q hq => absurd hq List.not_mem_nil⟩
  | cons d l ih =>
    obtain ⟨q, hq, e⟩ := hl d List.mem_cons_self
    obtain ⟨q3, h1, h2, h3⟩ := ih fun d hd => hl d (List.mem_cons_of_mem _ hd)
    refine ⟨q :: q3, by rw [List.map_cons, e, ← h1], by rw [List.length_cons, List.length_cons, h2], fun x hx => ?_⟩
    rcases List.mem_cons.mp hx with rfl | hx
    · exact hq
    · exact h3 x hx
/-- the rows of the one way, as they come -/
def TwQ (z : Nat) (qs : List QD) : Prop := (∀ q ∈ qs, (q.st ∈ Str.ofString "t" :: tgT.take z ∧ q.en ∈ Str.ofString "t" :: tgT.take z) ∧ bdT (10 ^ 8) q) ∧ (∀ q ∈ qs, q.st ≠ q.en) ∧ qs.map QD.nm = nmT.take qs.length
theorem tg_ne : ∀ i, i < 3 → tgT.getD i default ≠ tgT.getD (i + 1) default ∧ tgT.getD i default ≠ Str.ofString "t" := by decide +kernel
theorem st_ne : Str.ofString "s" ≠ Str.ofString "t" := by decide +kernel
theorem nm_nd : ∀ z, 1 ≤ z → z ≤ 3 → (nmT.take z ++ [Str.ofString "r"]).Nodup := by
  intro z h1 h2
  have h : z = 1 ∨ z = 2 ∨ z = 3 := by omega
  rcases h with rfl | rfl | rfl <;> decide +kernel
theorem nmT_ok : ∀ x ∈ nmT, PyData.strOk x = true := by decide +kernel
theorem rs_ok : PyData.strOk (Str.ofString "r") = true := by decide +kernel
def nameD : PyData → Str
  | .tuple (.str x :: _) => x
  | _ => default
theorem name_d (q : QD) : nameD (QD.d true q) = q.nm := rfl
theorem TwQ.push {z i : Nat} {qs : List QD} {q : QD} (h : TwQ z qs) (hl : qs.length = i) (i3 : i < 3) (h1 : (q.st ∈ Str.ofString "t" :: tgT.take z ∧ q.en ∈ Str.ofString "t" :: tgT.take z) ∧ bdT (10 ^ 8) q) (h2 : q.st ≠ q.en) (h3 : q.nm = nmT.getD i default) : TwQ z (qs ++ [q]) := by
  refine ⟨fun x hx => ?_, fun x hx => ?_, ?_⟩
  · rcases List.mem_append.mp hx with hx | hx
    · exact h.1 x hx
    · rw [List.mem_singleton.mp hx]
      exact h1
  · rcases List.mem_append.mp hx with hx | hx
    · exact h.2.1 x hx
    · rw [List.mem_singleton.mp hx]
      exact h2
  · rw [List.map_append, List.length_append, h.2.2, hl]
    show nmT.take i ++ [q.nm] = nmT.take (i + 1)
    rw [h3, List.take_add_one, List.getElem?_eq_getElem (show i < nmT.length from i3), List.getD_eq_getElem?_getD, List.getElem?_eq_getElem (show i < nmT.length from i3)]
    rfl
end Jl

set_option Elab.async false
set_option linter.all false
set_option maxRecDepth 100000
set_option maxHeartbeats 1000000
set_option pp.maxSteps 300
namespace Jl
open PySem PySem.Spec PyProof.Rows L2
open Evl (sz_of sz_lt)
local macro_rules | `(tactic| walk_at "at") => `(tactic| first | exact box0 | exact box1 | exact box2)
local macro_rules | `(tactic| walk_at "sq") => `(tactic| first | (show SqL _ _ _ _; assumption) | (show SqT _ _ _ _; assumption) | (show _ = some _; assumption))
local macro_rules | `(tactic| walk_at "side") => `(tactic| first
  | (show (0 : Int) < _; decide)
  | (show (0 : Int) < _; omega)
  | exact ⟨by decide, by decide, by decide⟩
  | exact sz_of (Nat.le_of_ble_eq_true rfl)
  | exact rfl
  | exact Or.inl (by decide)
  | exact Or.inr (by decide)
  | exact Or.inr ⟨by omega, by omega⟩
  | exact Or.inl ⟨by omega, by omega⟩
  | exact ⟨by decide, by decide +kernel⟩)
local macro_rules | `(tactic| walk_at "ev1") => `(tactic| first
  | refine ⟨_, rfl, ?_⟩
  | refine ⟨_, _, rfl, rfl, ?_⟩
  | refine ⟨_, _, _, _, rfl, rfl, (by walk_at "sq"), (by walk_at "at"), ?_⟩
  | refine ⟨_, _, rfl, (by walk_at "sq"), ?_⟩
  | refine ⟨_, _, rfl, Or.inl (by walk_at "sq"), ?_⟩
  | refine ⟨_, _, rfl, Or.inr (by walk_at "sq"), ?_⟩
  | refine Or.inl ⟨_, rfl, ?_⟩
  | refine Or.inr ⟨_, rfl, ?_⟩
  | refine ⟨(by walk_at "side"), ?_⟩
  | refine ⟨.inl ⟨rfl, _, (by walk_at "sq")⟩, ?_⟩
  | refine ⟨_, _, rfl, ?_⟩)
local macro_rules | `(tactic| walk_at "nrm") => `(tactic| dsimp only [tNil, tCons, tC, tCB])
local macro_rules | `(tactic| walk_at "ev") => `(tactic| repeat (walk_at "ev1"))
/-! ### a display of a tuple, tuple of a text: tuples whose object is known -/
section
variable {X : Cx} {es : List Expr} {t : TA} {pos : Pos}
def tTupF (t : TA) : TE := fun σ H Q => t σ H fun xs H1 => xs.length ≤ sizeLine ∧ ∀ (p : Addr) (ob : Obj), H1 p = none → ob.cls = .type "tuple" → ob.dict = none → Q (.ref p) (upd H1 p (.frz ob (.tup xs)))
theorem pe_tupF {x1} (h : PA X es t) : PE X (.Tuple es x1 pos) (tTupF t) := by
  refine ⟨fun pins s σ H Q I hq => ?_⟩
  refine wpAny_Tuple_spliced (thn (h.run pos pins s σ H _ I hq) fun us s1 ⟨xs, H1, I1, r, z, q⟩ => ⟨by rw [← r.length]; exact z, ?_⟩)
  have hf : H1 s1.heap.objs.size = none := I1.hok.fresh (Nat.le_refl _)
  have hget : (s1.heap.push { cls := .type "tuple", data := .seq us.toArray }).get? s1.heap.objs.size = some { cls := .type "tuple", data := .seq us.toArray } := Heap.get?_push_size _ rfl
  exact ⟨.ref s1.heap.objs.size, _, I1.laid (o := .frz { cls := .type "tuple", data := .seq us.toArray } (.tup xs)) (t' := s1.toks) (fun b u e => Heap.get?_push_of_some _ e) (Nat.le_refl _) ⟨hget, z, us, r, ⟨_, hget, rfl, _, rfl⟩⟩, rfl, q _ _ hf rfl rfl⟩
def chS (x : Str) : List Str := x.cps.toList.map fun c => ⟨#[c]⟩
def rTupS : List V → Hp → VK → Prop := fun xs H Q => ∃ x : Str, xs = [.str x] ∧ x.cps.size ≤ sizeLine ∧ ∀ (l : Addr) (ob : Obj), H l = none → ob.cls = .type "tuple" → ob.dict = none → Q (.ref l) (upd H l (.frz ob (.tup ((chS x).map V.str))))
theorem cr_tupS (hc : X.calm = true) : CallR X (.type "tuple") rTupS := fun pins s σ H xs us Q I r h => by
  obtain ⟨x, rfl, hz, q⟩ := h
  obtain ⟨u, rfl, rx⟩ := vals1 r
  obtain ⟨t, rfl⟩ := rx
  refine call_tuple_str (I.ok.hd hc) x t (fun h' tk acc hk hi => ?_) hz
  obtain ⟨h1, h2⟩ := hi
  have hl : acc.toList.length = x.cps.size := by rw [Array.length_toList]; exact h1
  have hv : Vals ((chS x).map V.str) acc.toList := by
    have g := vals_from (f := fun i => V.str ((chS x).getD i default)) (us := acc.toList) 0 fun i v hv => by
      rw [Nat.zero_add]
      obtain ⟨c, u, hc, e⟩ := h2 i v (by simpa using hv)
      refine ⟨u, ?_⟩
      rw [e]
      congr 1
      unfold chS
      rw [List.getD_eq_getElem?_getD, List.getElem?_map, show x.cps.toList[i]? = some c by simpa using hc]
      rfl
    have e : (List.range acc.toList.length).map (fun i => V.str ((chS x).getD (0 + i) default)) = (chS x).map V.str := by
      refine List.ext_getElem (by unfold chS; simp [hl]) fun i h1 h2 => ?_
      have h3 : i < (chS x).length := by rw [List.length_map] at h2; exact h2
      rw [List.getElem_map, List.getElem_map, List.getElem_range, Nat.zero_add, List.getD_eq_getElem?_getD, List.getElem?_eq_getElem h3]
      rfl
    rw [← e]
    exact g
  have hget : (h'.push { cls := .type "tuple", data := .seq acc }).get? h'.objs.size = some { cls := .type "tuple", data := .seq acc } := Heap.get?_push_size _ rfl
  have ez : (chS x).length = x.cps.size := by unfold chS; simp
  have I1 : L2.Inv X pins σ H { s with heap := h', toks := tk } := I.kept (t' := tk) hk
  exact ⟨.ref h'.objs.size, _, I1.laid (o := .frz { cls := .type "tuple", data := .seq acc } (.tup ((chS x).map V.str))) (t' := tk) (fun b o e => Heap.get?_push_of_some _ e) (Nat.le_refl _) ⟨hget, by rw [List.length_map, ez]; exact hz, acc.toList, hv, ⟨_, hget, rfl, 0, by simp⟩⟩, rfl, q _ _ (I1.hok.fresh (Nat.le_refl _)) rfl rfl⟩
end
/-! ### two rows side by side -/
inductive A2 {α β : Type} (R : α → β → Prop) : List α → List β → Prop
  | nil : A2 R [] []
  | cons {x y xs ys} (h : R x y) (t : A2 R xs ys) : A2 R (x :: xs) (y :: ys)
section
variable {α β : Type} {R R' : α → β → Prop}
theorem a2_len : ∀ {xs : List α} {ys : List β}, A2 R xs ys → xs.length = ys.length
  | _, _, .nil => rfl
  | _, _, .cons _ h => by rw [List.length_cons, List.length_cons, a2_len h]
theorem a2_app : ∀ {xs xs' : List α} {ys ys' : List β}, A2 R xs ys → A2 R xs' ys' → A2 R (xs ++ xs') (ys ++ ys')
  | _, _, _, _, .nil, h => h
  | _, _, _, _, .cons a b, h => .cons a (a2_app b h)
theorem a2_imp (i : ∀ x y, R x y → R' x y) : ∀ {xs : List α} {ys : List β}, A2 R xs ys → A2 R' xs ys
  | _, _, .nil => .nil
  | _, _, .cons a b => .cons (i _ _ a) (a2_imp i b)
theorem a2_get : ∀ {xs : List α} {ys : List β} {i : Nat} {x : α} {y : β}, A2 R xs ys → xs[i]? = some x → ys[i]? = some y → R x y
  | _, _, _, _, _, .nil, h, _ => by simp at h
  | _, _, 0, _, _, .cons a _, h, g => by
    simp at h g
    rw [← h, ← g]
    exact a
  | _, _, i + 1, _, _, .cons _ b, h, g => a2_get (i := i) b (by simpa using h) (by simpa using g)
end
theorem a2_dpa {K : PySem.W.Frag} {H : Hp} {α : Type} {h : α → PyData} : ∀ {xs : List V} {zs : List α}, A2 (fun u z => Dp K H u (h z)) xs zs → DpAll K H xs (zs.map h)
  | _, _, .nil => .nil
  | _, _, .cons a b => .cons a (a2_dpa b)
theorem dpa_a2 {K : PySem.W.Frag} {H : Hp} {α : Type} {h : α → PyData} : ∀ {xs : List V} {zs : List α}, DpAll K H xs (zs.map h) → A2 (fun u z => Dp K H u (h z)) xs zs
  | _, [], .nil => .nil
  | _, z :: zs, .cons a b => .cons a (dpa_a2 b)
/-- the cut is a list that is being made -/
def LstT (T : List Addr) (H : Hp) : Prop := ∀ a ∈ T, ∃ acc : List V, H a = some (.lst acc)
theorem LstT.same {T : List Addr} {H H' : Hp} (h : LstT T H) (e : Same H H') : LstT T H' := fun a ha => by
  obtain ⟨acc, e2⟩ := h a ha
  exact ⟨acc, e _ _ e2⟩
theorem LstT.one {D : Addr} {acc : List V} {H : Hp} (h : H D = some (.lst acc)) : LstT [D] H := fun a ha => ⟨acc, by rw [List.mem_singleton.mp ha]; exact h⟩
theorem LstT.cons {D : Addr} {acc : List V} {T : List Addr} {H : Hp} (h : H D = some (.lst acc)) (g : LstT T H) : LstT (D :: T) H := fun a ha => by
  rcases List.mem_cons.mp ha with rfl | ha
  · exact ⟨acc, h⟩
  · exact g a ha
theorem LstT.not {T : List Addr} {H : Hp} {a : Addr} {o : HO} (g : LstT T H) (h : H a = some o) (hn : ∀ acc, o ≠ .lst acc) : a ∉ T := fun ha => by
  obtain ⟨acc, e⟩ := g a ha
  rw [h] at e
  exact hn acc (Option.some.inj e)
mutual
def tupD : PyData → Bool
  | .list _ => false
  | .dict _ => false
  | .tuple ds => tupA ds
  | _ => true
def tupA : List PyData → Bool
  | [] => true
  | d :: ds => tupD d && tupA ds
end
theorem sqt_cutL {K : PySem.W.Frag} {H : Hp} {a : Addr} {T : List Addr} {xs : List V} (h : SqT K H a xs) (hF : LstT T H) : SqT K (cutS T H) a xs := by
  rcases h with (h | ⟨o, h⟩) | h
  · exact .inl (.inl (cutS_at h (hF.not h fun _ => nofun)))
  · exact .inl (.inr ⟨o, cutS_at h (hF.not h fun _ => nofun)⟩)
  · exact .inr h
mutual
theorem dpT_cut {K : PySem.W.Frag} {H : Hp} {T : List Addr} (hF : LstT T H) : ∀ (d : PyData) (v : V), tupD d = true → Dp K H v d → Dp K (cutS T H) v d
  | .none, _, _, h => by cases h; exact .non
  | .bool b, _, _, h => by cases h; exact .bl b
  | .int i, _, _, h => by cases h; exact .int i
  | .str x, _, _, h => by cases h; exact .str x
  | .list ds, _, z, _ => by simp [tupD] at z
  | .dict ds, _, z, _ => by simp [tupD] at z
  | .tuple ds, _, z, h => by
    rw [tupD] at z
    cases h with
    | tup hs ha => exact .tup (sqt_cutL hs hF) (dpaT_cut hF ds _ z ha)
theorem dpaT_cut {K : PySem.W.Frag} {H : Hp} {T : List Addr} (hF : LstT T H) : ∀ (ds : List PyData) (vs : List V), tupA ds = true → DpAll K H vs ds → DpAll K (cutS T H) vs ds
  | [], _, _, h => by cases h; exact .nil
  | d :: ds, _, z, h => by
    rw [tupA, Bool.and_eq_true] at z
    cases h with
    | cons h1 h2 => exact .cons (dpT_cut hF d _ z.1 h1) (dpaT_cut hF ds _ z.2 h2)
end
theorem tupA_map {α : Type} {f : α → PyData} : ∀ {zs : List α}, (∀ z ∈ zs, tupD (f z) = true) → tupA (zs.map f) = true
  | [], _ => by simp [tupA]
  | z :: zs, h => by
    rw [List.map_cons, tupA, h z List.mem_cons_self, tupA_map fun y hy => h y (List.mem_cons_of_mem _ hy)]
    rfl
theorem tup_net {ws : List Str} {qs : List QD} : tupD (netD true ws qs) = true := by
  have e1 : tupA (ws.map PyData.str) = true := tupA_map fun z _ => by simp [tupD]
  have e2 : tupA (qs.map (QD.d true)) = true := tupA_map fun z _ => by simp [QD.d, seqD, tupD, tupA]
  show tupD (.tuple [.tuple (ws.map PyData.str), .tuple (qs.map (QD.d true))]) = true
  simp [tupD, tupA, e1, e2]
/-- a comprehension by any walk: what is made stands in R2 to what it is made of -/
theorem lcg {K : PySem.W.Frag} {J : It} {g : TG} {te : TE} {tt : TT} {vs : List Nat} {σ : L2.St} {H0 : Hp} {Q : VK} {n : Nat} {G : Hp → Prop} {Y : Nat → Hp → V → Hp → Prop} {α : Type} (zs : List α) (Rel : V → α → Prop) (R2 : Hp → V → α → Prop) (t : α → Bool) (B : α → L2.St → Prop)
    (w : Walk J n G Y) (hn : n = zs.length) (hG : ∀ H', Same H0 H' → G H') (hY : ∀ i H x H', Y i H x H' → H' = H ∧ ∀ z, zs[i]? = some z → Rel x z) (hl : zs.length ≤ 4000000) (hm : ∀ H H' u z, Same H H' → R2 H u z → R2 H' u z)
    (hg : ∀ (x : V) (z : α) (H1 : Hp) (R : L2.St → Hp → Prop), z ∈ zs → Same H0 H1 → Rel x z → (∀ σ2, B z σ2 → wipe σ2 vs = wipe σ vs → R σ2 H1) → g x (wipe σ vs) H1 R)
    (hte : ∀ (z : α) (H1 : Hp) (σ2 : L2.St), z ∈ zs → Same H0 H1 → B z σ2 → ∀ Q' : Bool → Hp → Prop, (∀ H2, Same H1 H2 → Q' (t z) H2) → tt σ2 H1 Q')
    (he : ∀ (z : α) (H2 : Hp) (σ2 : L2.St) (T : List Addr), z ∈ zs → t z = true → Same H0 H2 → Same H0 (cutS T H2) → Trk T H2 → B z σ2 → LstT T H2 → ∀ Q' : VK, (∀ H3 u, Same H2 H3 → R2 (cutS T H3) u z → Q' u H3) → te σ2 H2 Q')
    (q : ∀ D ys H', Same H0 H' → H0 D = none → H' D = some (.lst ys) → A2 (R2 (cutS [D] H')) ys (zs.filter t) → Q (.ref D) H') :
    ∀ D, H0 D = none → ∃ W : Nat → Nat → Hp → Prop, (∃ m, W 0 m (upd H0 D (.lst []))) ∧ ∀ i m H, W i m H →
      (J.stop i H ∧ Q (.ref D) H) ∨ (J.go i H ∧ ∃ Nx : Hp → Prop, (∀ H', Nx H' → ∃ m', m' < m ∧ W (i + 1) m' H') ∧ ∀ x H', J.yld i H x H' → g x (wipe σ vs) H' fun σ2 H2 => wipe σ2 vs = wipe σ vs ∧ tt σ2 H2 fun b H3 =>
        if b = true then te σ2 H3 fun y H4 => ∃ acc, H4 D = some (.lst acc) ∧ acc.length < sizeLine ∧ Nx (upd H4 D (.lst (acc ++ [y]))) else Nx H3) := fun D hD => by
  subst hn
  refine lc_it w (Qd := fun H => Q (.ref D) H) (fun i H1 => ∃ ys, Same H0 H1 ∧ H1 D = some (.lst ys) ∧ A2 (R2 (cutS [D] H1)) ys ((zs.take i).filter t)) ⟨[], .upd hD, upd_same, .nil⟩ (fun i H1 _ p => ?_) (fun i x H1 H1' hi p y => ?_) (fun H1 p => ?_)
  · obtain ⟨ys, e1, _⟩ := p
    exact hG _ e1
  · obtain ⟨ys, e1, e2, e3⟩ := p
    obtain ⟨rfl, hx⟩ := hY _ _ _ _ y
    have hz := List.getElem?_eq_getElem hi
    have hzm := List.getElem_mem hi
    have hxd := hx _ hz
    generalize zs[i] = z at hz hzm hxd
    refine hg x z H1' _ hzm e1 hxd fun σ2 hB hw => ⟨hw, ?_⟩
    refine hte z H1' σ2 hzm e1 hB _ fun H2 s12 => ?_
    have e2' := s12 _ _ e2
    have yl : ys.length ≤ i := by
      rw [a2_len e3]
      exact Nat.le_trans (List.length_filter_le _ _) (by rw [List.length_take]; omega)
    have ht2 : zs.take (i + 1) = zs.take i ++ [z] := by rw [List.take_add_one, hz]; rfl
    by_cases hg : t z = true
    · rw [if_pos hg]
      have eT : Same H0 (cutS [D] H2) := fun a o ha => by
        rw [cutS_out (not1 (ne_of_none ha hD))]
        exact (e1.trans s12) a o ha
      refine he z H2 σ2 [D] hzm hg (e1.trans s12) eT (Trk.cons Trk.nil e2') hB (.one e2') _ fun H3 u s2 hy => ?_
      refine ⟨ys, s2 _ _ e2', szL (by omega), ys ++ [u], ((e1.trans s12).trans s2).mut hD, upd_same, ?_⟩
      rw [cutS_upd List.mem_cons_self, ht2, List.filter_append, show [z].filter t = [z] by simp [hg]]
      exact a2_app (a2_imp (fun _ _ => hm _ _ _ _ (cutS_mono (s12.trans s2))) e3) (.cons hy .nil)
    · rw [if_neg hg]
      refine ⟨ys, e1.trans s12, e2', ?_⟩
      rw [ht2, List.filter_append, show [z].filter t = [] by simp [hg], List.append_nil]
      exact a2_imp (fun _ _ => hm _ _ _ _ (cutS_mono s12)) e3
  · obtain ⟨ys, e1, e2, e3⟩ := p
    refine q D ys H1 e1 hD e2 ?_
    rw [List.take_length] at e3
    exact e3
/-! ### places of texts -/
def ixS : List Str → Str → Nat
  | [], _ => 0
  | x :: xs, z => if x = z then 0 else ixS xs z + 1
theorem ixS_get : ∀ {ws : List Str} {z : Str}, z ∈ ws → ws[ixS ws z]? = some z ∧ ∀ m, m < ixS ws z → ws[m]? ≠ some z
  | x :: ws, z, h => by
    unfold ixS
    by_cases e : x = z
    · rw [if_pos e, e]
      exact ⟨rfl, fun m hm => absurd hm (by omega)⟩
    · rw [if_neg e]
      rcases List.mem_cons.mp h with h | h
      · exact absurd h.symm e
      · obtain ⟨g1, g2⟩ := ixS_get h
        refine ⟨by rw [List.getElem?_cons_succ]; exact g1, fun m hm => ?_⟩
        cases m with
        | zero =>
          rw [List.getElem?_cons_zero]
          exact fun q => e (Option.some.inj q)
        | succ m =>
          rw [List.getElem?_cons_succ]
          exact g2 m (by omega)
theorem ixS_map {f : Str → Int} {ws : List Str} {z : Str} (h : z ∈ ws) : atI (ws.map fun w => V.int (f w)) ((ixS ws z : Nat) : Int) = some (.int (f z)) := atI_nat (by rw [List.getElem?_map, (ixS_get h).1]; rfl)
/-! ### a net whose workers are a tuple whose object is known -/
structure WebO (K : PySem.W.Frag) (H : Hp) (v : V) (ws : List Str) (qs : List QD) : Prop where
  dp : Dp K H v (netD true ws qs)
  tw : ∃ (a0 a1 : Addr) (v2 : V) (ob : Obj), v = .ref a0 ∧ SqT K H a0 [.ref a1, v2] ∧ H a1 = some (.frz ob (.tup (ws.map V.str))) ∧ ob.cls = .type "tuple" ∧ ob.dict = none
theorem WebO.same {K : PySem.W.Frag} {H H' : Hp} {v : V} {ws : List Str} {qs : List QD} (w : WebO K H v ws qs) (e : Same H H') : WebO K H' v ws qs := ⟨e.dp w.dp, by
  obtain ⟨a0, a1, v2, ob, h1, h2, h3, h4, h5⟩ := w.tw
  exact ⟨a0, a1, v2, ob, h1, e.sqT h2, e _ _ h3, h4, h5⟩⟩
theorem WebO.of {K : PySem.W.Frag} {H : Hp} {v : V} {ws : List Str} {qs : List QD} (h : Dp K H v (netD true ws qs)) (t : TupW H v (ws.map V.str)) : WebO K H v ws qs := ⟨h, by
  obtain ⟨a0, a1, a2, ob, h1, h2, h3, h4, h5⟩ := t
  exact ⟨a0, a1, _, ob, h1, sqt_of h2, h3, h4, h5⟩⟩
theorem yat_map {α : Type} {g : α → V} {zs : List α} {i : Nat} {x : V} {z : α} (h : (zs.map g)[i]? = some x) (hz : zs[i]? = some z) : x = g z := by
  rw [List.getElem?_map, hz] at h
  exact (Option.some.inj h).symm
/-- [e for x in a row if t] -/
theorem lcs {K : PySem.W.Frag} {tl te : TE} {tt : TT} {j : Nat} {vs : List Nat} {σ : L2.St} {H H0 : Hp} {Q : VK} {a : Addr} {fb : Bool} {xs : List V} {α : Type} (zs : List α) (Rel : V → α → Prop) (R2 : Hp → V → α → Prop) (t : α → Bool)
    (ht : ∀ R' : VK, R' (.ref a) H0 → tl σ H R') (hs : SqF fb K H0 a xs) (hx : ∀ (i : Nat) (x : V) (z : α), xs[i]? = some x → zs[i]? = some z → Rel x z) (hn : xs.length = zs.length) (hl : zs.length ≤ 4000000) (hm : ∀ H H' u z, Same H H' → R2 H u z → R2 H' u z)
    (hw : ∀ x, wipe ((wipe σ vs).set j (some x)) vs = wipe σ vs)
    (hte : ∀ (x : V) (z : α) (H1 : Hp), z ∈ zs → Same H0 H1 → Rel x z → ∀ Q' : Bool → Hp → Prop, (∀ H2, Same H1 H2 → Q' (t z) H2) → tt ((wipe σ vs).set j (some x)) H1 Q')
    (he : ∀ (x : V) (z : α) (H2 : Hp) (T : List Addr), z ∈ zs → t z = true → Same H0 H2 → Same H0 (cutS T H2) → Trk T H2 → Rel x z → LstT T H2 → ∀ Q' : VK, (∀ H3 u, Same H2 H3 → R2 (cutS T H3) u z → Q' u H3) → te ((wipe σ vs).set j (some x)) H2 Q')
    (q : ∀ D ys H', Same H0 H' → H0 D = none → H' D = some (.lst ys) → A2 (R2 (cutS [D] H')) ys (zs.filter t) → Q (.ref D) H') : tLcX (iSeq K tl) (gName j) tt te vs σ H Q := by
  refine lc_of ?_
  refine iSeq_at ht hs fun J w => ?_
  exact lcg (K := K) (Q := Q) zs Rel R2 t (fun z σ2 => ∃ x, σ2 = (wipe σ vs).set j (some x) ∧ Rel x z) w hn (fun H' e => e.sqF hs) (fun i H x H' y => ⟨y.1, fun z hz => hx i x z y.2 hz⟩) hl hm (fun x z H1 R hz e1 hr r => r _ ⟨x, rfl, hr⟩ (hw x)) (fun z H1 σ2 hz e1 hB Q' q' => by
    obtain ⟨x, rfl, hr⟩ := hB
    exact hte x z H1 hz e1 hr Q' q') (fun z H2 σ2 T hz ht e1 e2 tr hB hT Q' q' => by
    obtain ⟨x, rfl, hr⟩ := hB
    exact he x z H2 T hz ht e1 e2 tr hr hT Q' q') q
theorem a2_bl {α : Type} {tf : α → Bool} : ∀ {ys : List V} {zs : List α}, A2 (fun u z => u = V.bl (tf z)) ys zs → ys = (zs.map tf).map V.bl
  | _, _, .nil => rfl
  | _, _, .cons a b => by rw [a, a2_bl b]; rfl
/-- all([e for x in a row]) -/
theorem all_lcs {K : PySem.W.Frag} {tl te : TE} {j : Nat} {vs : List Nat} {σ : L2.St} {H H0 : Hp} {Q : VK} {a : Addr} {fb : Bool} {xs : List V} {α : Type} (zs : List α) (Rel : V → α → Prop) (tf : α → Bool)
    (ht : ∀ R' : VK, R' (.ref a) H0 → tl σ H R') (hs : SqF fb K H0 a xs) (hx : ∀ (i : Nat) (x : V) (z : α), xs[i]? = some x → zs[i]? = some z → Rel x z) (hn : xs.length = zs.length) (hl : zs.length ≤ 4000000)
    (hw : ∀ x, wipe ((wipe σ vs).set j (some x)) vs = wipe σ vs)
    (he : ∀ (x : V) (z : α) (H2 : Hp), z ∈ zs → Same H0 H2 → Rel x z → ∀ Q' : VK, (∀ H3, Same H2 H3 → Q' (.bl (tf z)) H3) → te ((wipe σ vs).set j (some x)) H2 Q')
    (q : ∀ H', Same H0 H' → Q (.bl (zs.all tf)) H') : tCB (rAll K) (tCons (tLcX (iSeq K tl) (gName j) tYes te vs) tNil) σ H Q := by
  refine lcs (K := K) zs Rel (fun _ u z => u = V.bl (tf z)) (fun _ => true) ht hs hx hn hl (fun _ _ _ _ _ h => h) hw (fun x z H1 hz e1 hr Q' q' => q' H1 fun _ _ e => e) (fun x z H2 T hz _ e1 e2 tr hr _ Q' q' => he x z H2 hz e1 hr Q' fun H3 e3 => q' H3 _ e3 rfl) fun D ys H' s1 h0 h1 h2 => ?_
  rw [List.filter_eq_self.mpr fun _ _ => rfl] at h2
  have e := a2_bl h2
  subst e
  refine ⟨D, _, rfl, sql_of h1, ?_⟩
  have e : (zs.map tf).all id = zs.all tf := by rw [List.all_map]; rfl
  rw [e]
  exact q H' s1
theorem asg_of {te : TE} {i : Nat} {u : TS} {D : Ends} {σ : L2.St} {H : Hp} (h : te σ H fun v H1 => u D (σ.set i (some v)) H1) : tSeq (tAsg te (gName i)) u D σ H := h
/-- [e for x in range(..) if t] -/
theorem lcr {K : PySem.W.Frag} {wi : TI} {te : TE} {tt : TT} {j : Nat} {vs : List Nat} {σ : L2.St} {H H0 : Hp} {Q : VK} (lo : Int) (n : Nat) (R2 : Hp → V → Nat → Prop) (t : Nat → Bool)
    (hgo : ∀ R : It → Hp → Prop, R (Itr lo n) H0 → wi σ H R) (hl : n ≤ 4000000) (hm : ∀ H H' u z, Same H H' → R2 H u z → R2 H' u z)
    (hw : ∀ x, wipe ((wipe σ vs).set j (some x)) vs = wipe σ vs)
    (hte : ∀ (i : Nat) (H1 : Hp), i < n → Same H0 H1 → ∀ Q' : Bool → Hp → Prop, (∀ H2, Same H1 H2 → Q' (t i) H2) → tt ((wipe σ vs).set j (some (.int (lo + (i : Nat))))) H1 Q')
    (he : ∀ (i : Nat) (H2 : Hp) (T : List Addr), i < n → t i = true → Same H0 H2 → Same H0 (cutS T H2) → Trk T H2 → LstT T H2 → ∀ Q' : VK, (∀ H3 u, Same H2 H3 → R2 (cutS T H3) u i → Q' u H3) → te ((wipe σ vs).set j (some (.int (lo + (i : Nat))))) H2 Q')
    (q : ∀ D ys H', Same H0 H' → H0 D = none → H' D = some (.lst ys) → A2 (R2 (cutS [D] H')) ys ((List.range n).filter t) → Q (.ref D) H') : tLcX wi (gName j) tt te vs σ H Q := by
  refine lc_of (hgo _ ?_)
  exact lcg (K := K) (Q := Q) (List.range n) (fun x (i : Nat) => x = .int (lo + (i : Nat))) R2 t (fun i σ2 => σ2 = (wipe σ vs).set j (some (.int (lo + (i : Nat))))) walk_range (by rw [List.length_range]) (fun _ _ => trivial) (fun i H x H' y => ⟨y.1, fun z hz => by
      have hi := (List.getElem?_eq_some_iff.mp hz).1
      rw [List.length_range] at hi
      rw [List.getElem?_range hi] at hz
      cases hz
      exact y.2⟩) (by rw [List.length_range]; exact hl) hm (fun x z H1 R hz e1 hr r => by
      subst hr
      exact r _ rfl (hw _)) (fun z H1 σ2 hz e1 hB Q' q' => by
      subst hB
      exact hte z H1 (List.mem_range.mp hz) e1 Q' q') (fun z H2 σ2 T hz ht e1 e2 tr hB hT Q' q' => by
      subst hB
      exact he z H2 T (List.mem_range.mp hz) ht e1 e2 tr hT Q' q') q
/-- [e for x in a new tuple if t] -/
theorem lcsD {K : PySem.W.Frag} {tl te : TE} {tt : TT} {j : Nat} {vs : List Nat} {σ : L2.St} {H : Hp} {Q : VK} {xs : List V} {α : Type} (zs : List α) (Rel : V → α → Prop) (R2 : Hp → V → α → Prop) (t : α → Bool)
    (ht : ∀ R' : VK, (∀ a H0, Same H H0 → SqT K H0 a xs → R' (.ref a) H0) → tl σ H R') (hx : ∀ (i : Nat) (x : V) (z : α), xs[i]? = some x → zs[i]? = some z → Rel x z) (hn : xs.length = zs.length) (hl : zs.length ≤ 4000000) (hm : ∀ H H' u z, Same H H' → R2 H u z → R2 H' u z)
    (hw : ∀ x, wipe ((wipe σ vs).set j (some x)) vs = wipe σ vs)
    (hte : ∀ (x : V) (z : α) (H1 : Hp), z ∈ zs → Same H H1 → Rel x z → ∀ Q' : Bool → Hp → Prop, (∀ H2, Same H1 H2 → Q' (t z) H2) → tt ((wipe σ vs).set j (some x)) H1 Q')
    (he : ∀ (x : V) (z : α) (H2 : Hp) (T : List Addr), z ∈ zs → t z = true → Same H H2 → Same H (cutS T H2) → Trk T H2 → Rel x z → LstT T H2 → ∀ Q' : VK, (∀ H3 u, Same H2 H3 → R2 (cutS T H3) u z → Q' u H3) → te ((wipe σ vs).set j (some x)) H2 Q')
    (q : ∀ D ys H', Same H H' → H D = none → H' D = some (.lst ys) → A2 (R2 (cutS [D] H')) ys (zs.filter t) → Q (.ref D) H') : tLcX (iSeq K tl) (gName j) tt te vs σ H Q := by
  refine lc_of (.inr (ht _ fun a H0 s h => ⟨a, rfl, ⟨xs, h⟩, ?_⟩))
  exact lcg (K := K) (Q := Q) zs Rel R2 t (fun z σ2 => ∃ x, σ2 = (wipe σ vs).set j (some x) ∧ Rel x z) (walk_tup (K := K) (a := a) (xs := xs)) hn (fun H' e => e.sqT h) (fun i H x H' y => ⟨y.1, fun z hz => hx i x z y.2 hz⟩) hl hm (fun x z H1 R hz e1 hr r => r _ ⟨x, rfl, hr⟩ (hw x)) (fun z H1 σ2 hz e1 hB Q' q' => by
    obtain ⟨x, rfl, hr⟩ := hB
    exact hte x z H1 hz (s.trans e1) hr Q' q') (fun z H2 σ2 T hz ht e1 e2 tr hB hT Q' q' => by
    obtain ⟨x, rfl, hr⟩ := hB
    exact he x z H2 T hz ht (s.trans e1) (s.trans e2) tr hr hT Q' q') fun D ys H' s1 h0 h1 h2 => q D ys H' (s.trans s1) (s.free h0) h1 h2
/-- all([e for x in a new tuple]) -/
theorem all_lcsD {K : PySem.W.Frag} {tl te : TE} {j : Nat} {vs : List Nat} {σ : L2.St} {H : Hp} {Q : VK} {xs : List V} {α : Type} (zs : List α) (Rel : V → α → Prop) (tf : α → Bool)
    (ht : ∀ R' : VK, (∀ a H0, Same H H0 → SqT K H0 a xs → R' (.ref a) H0) → tl σ H R') (hx : ∀ (i : Nat) (x : V) (z : α), xs[i]? = some x → zs[i]? = some z → Rel x z) (hn : xs.length = zs.length) (hl : zs.length ≤ 4000000)
    (hw : ∀ x, wipe ((wipe σ vs).set j (some x)) vs = wipe σ vs)
    (he : ∀ (x : V) (z : α) (H2 : Hp), z ∈ zs → Same H H2 → Rel x z → ∀ Q' : VK, (∀ H3, Same H2 H3 → Q' (.bl (tf z)) H3) → te ((wipe σ vs).set j (some x)) H2 Q')
    (q : ∀ H', Same H H' → Q (.bl (zs.all tf)) H') : tCB (rAll K) (tCons (tLcX (iSeq K tl) (gName j) tYes te vs) tNil) σ H Q := by
  refine lcsD (K := K) zs Rel (fun _ u z => u = V.bl (tf z)) (fun _ => true) ht hx hn hl (fun _ _ _ _ _ h => h) hw (fun x z H1 hz e1 hr Q' q' => q' H1 fun _ _ e => e) (fun x z H2 T hz _ e1 e2 tr hr _ Q' q' => he x z H2 hz e1 hr Q' fun H3 e3 => q' H3 _ e3 rfl) fun D ys H' s1 h0 h1 h2 => ?_
  rw [List.filter_eq_self.mpr fun _ _ => rfl] at h2
  have e := a2_bl h2
  subst e
  refine ⟨D, _, rfl, sql_of h1, ?_⟩
  have e : (zs.map tf).all id = zs.all tf := by rw [List.all_map]; rfl
  rw [e]
  exact q H' s1
section
variable {K : PySem.W.Frag} {σ : L2.St}
theorem asg_ic {te : TE} {i : Nat} {u : TS} {D : Ends} {H : Hp} {d : PyData} (h : IsC K [] H te d σ) (q : ∀ H' v, Same H H' → Dp K H' v d → u D (σ.set i (some v)) H') : tSeq (tAsg te (gName i)) u D σ H := h H _ (fun _ _ e => e) Trk.nil fun H' v s1 h1 => q H' v s1 (by rwa [cutS_nil] at h1)
theorem call_ac {t : TA} {ds : List PyData} {sp : Sp} {E : XK} {H : Hp} {Q : VK} (h : AreC K [] H t ds σ) (q : ∀ H' vs, Same H H' → DpAll K H' vs ds → sp (vs ++ []) H' Q E) : tCall sp [] E t σ H Q := h H _ (fun _ _ e => e) Trk.nil fun H' vs s1 h1 => q H' vs s1 (by rwa [cutS_nil] at h1)
theorem same_ac {E : XK} {H : Hp} {t : TA} {d : PyData} {Q : VK} (h : AreC K [] H t [d, d] σ) (ok : okD 5 d) (q : ∀ H', Same H H' → Q (.bl true) H') : tCall (spSame K 5) [] E t σ H Q := call_ac h fun H' vs s1 hd => by
  cases hd with
  | cons h1 hd =>
    cases hd with
    | cons h2 hd =>
      cases hd
      exact ⟨_, _, d, rfl, h1, h2, ok, fun H2 s2 => q H2 (s1.trans s2)⟩
end
theorem webO_cut {K : PySem.W.Frag} {H : Hp} {T : List Addr} {v : V} {ws : List Str} {qs : List QD} (w : WebO K H v ws qs) (hT : LstT T H) : WebO K (cutS T H) v ws qs := by
  refine ⟨dpT_cut hT _ _ tup_net w.dp, ?_⟩
  obtain ⟨a0, a1, v2, ob, h1, h2, h3, h4, h5⟩ := w.tw
  refine ⟨a0, a1, v2, ob, h1, sqt_cutL h2 hT, ?_, h4, h5⟩
  exact cutS_at h3 (hT.not h3 fun _ => nofun)
end Jl

set_option Elab.async false
set_option linter.all false
set_option maxRecDepth 100000
set_option maxHeartbeats 1000000
set_option pp.maxSteps 300
namespace Jl
open PySem PySem.Spec PyProof.Rows L2
open Evl (sz_of sz_lt)
local macro_rules | `(tactic| walk_at "at") => `(tactic| first | exact box0 | exact box1 | exact box2)
local macro_rules | `(tactic| walk_at "sq") => `(tactic| first | (show SqL _ _ _ _; assumption) | (show SqT _ _ _ _; assumption) | (show _ = some _; assumption))
local macro_rules | `(tactic| walk_at "side") => `(tactic| first
  | (show (0 : Int) < _; decide)
  | (show (0 : Int) < _; omega)
  | exact ⟨by decide, by decide, by decide⟩
  | exact sz_of (Nat.le_of_ble_eq_true rfl)
  | exact rfl
  | exact Or.inl (by decide)
  | exact Or.inr (by decide)
  | exact Or.inr ⟨by omega, by omega⟩
  | exact Or.inl ⟨by omega, by omega⟩
  | exact ⟨by decide, by decide +kernel⟩)
local macro_rules | `(tactic| walk_at "ev1") => `(tactic| first
  | refine ⟨_, rfl, ?_⟩
  | refine ⟨_, _, rfl, rfl, ?_⟩
  | refine ⟨_, _, _, _, rfl, rfl, (by walk_at "sq"), (by walk_at "at"), ?_⟩
  | refine ⟨_, _, rfl, (by walk_at "sq"), ?_⟩
  | refine ⟨_, _, rfl, Or.inl (by walk_at "sq"), ?_⟩
  | refine ⟨_, _, rfl, Or.inr (by walk_at "sq"), ?_⟩
  | refine Or.inl ⟨_, rfl, ?_⟩
  | refine Or.inr ⟨_, rfl, ?_⟩
  | refine ⟨(by walk_at "side"), ?_⟩
  | refine ⟨.inl ⟨rfl, _, (by walk_at "sq")⟩, ?_⟩
  | refine ⟨_, _, rfl, ?_⟩)
local macro_rules | `(tactic| walk_at "nrm") => `(tactic| dsimp only [tNil, tCons, tC, tCB])
local macro_rules | `(tactic| walk_at "ev") => `(tactic| repeat (walk_at "ev1"))
theorem shaped_of {d : PyData} (h1 : d.canLay0 = true) (h2 : d.depth ≤ 60) : SeqAt.shaped d = true := by
  unfold SeqAt.shaped
  rw [h1, decide_eq_true (show d.depth ≤ 64 by omega)]
  rfl
theorem eqv_nil3 {ds : List PyData} : PyData.eqv (.list ds) (.list []) = ds.isEmpty := by
  cases ds with
  | nil => simp [PyData.eqv, PyData.eqvAll]
  | cons d ds => simp [PyData.eqv, PyData.eqvAll]
theorem shaped_nil3 : SeqAt.shaped (.list []) = true := by
  unfold SeqAt.shaped
  simp [PyData.canLay0, PyData.canLayAll0, PyData.depth, PyData.depthAll]
/-- xs == [], xs != [] of a list of data -/
def OkE (d : PyData) : Prop := d.canLay0 = true ∧ d.depth ≤ 30
theorem okE_int {i : Int} : OkE (.int i) := ⟨by simp [PyData.canLay0], by simp [PyData.depth]⟩
theorem okE_q {q : QD} (h1 : PyData.strOk q.nm = true) (h2 : PyData.strOk q.st = true) (h3 : PyData.strOk q.en = true) : OkE (q.d true) := by
  refine ⟨can_seq (f := true) fun d hd => ?_, Nat.le_trans (dep_seq (f := true) (n := 0) fun d hd => ?_) (by decide)⟩
  · rcases mem5 hd with rfl | rfl | rfl | rfl | rfl
    · rw [PyData.canLay0]; exact h1
    · rw [PyData.canLay0]; exact h2
    · rw [PyData.canLay0]; exact h3
    · rw [PyData.canLay0]
    · rw [PyData.canLay0]
  · rcases mem5 hd with rfl | rfl | rfl | rfl | rfl <;> simp [PyData.depth]
theorem eq_nilD {K : PySem.W.Frag} {σ : L2.St} {H : Hp} {Q : VK} {i : Nat} {D : Addr} {ys : List V} {ds : List PyData} (hi : σ[i]? = some (some (.ref D))) (hD : SqL K H D ys) (hd : DpAll K H ys ds) (hs : ∀ d ∈ ds, OkE d) (q : ∀ H', Same H H' → Q (.bl ds.isEmpty) H') : tOp (rEqD K) (tVar i) (tLst tNil) σ H Q := by
  refine ⟨_, hi, ?_⟩
  refine ⟨by show 0 ≤ sizeLine; exact Nat.zero_le _, fun l hl => ?_⟩
  have s1 : Same H (upd H l (.lst [])) := .upd hl
  refine ⟨.list ds, .list [], .lst (s1.sqL hD) (s1.dpa hd), .lst (sql_of upd_same) .nil, shaped_of (can_seq (f := false) fun d hd => (hs d hd).1) (Nat.le_trans (dep_seq (f := false) (n := 30) fun d hd => (hs d hd).2) (by decide)), shaped_nil3, ?_⟩
  rw [eqv_nil3]
  exact q _ s1
theorem ne_nilD {K : PySem.W.Frag} {σ : L2.St} {H : Hp} {Q : VK} {i : Nat} {D : Addr} {ys : List V} {ds : List PyData} (hi : σ[i]? = some (some (.ref D))) (hD : SqL K H D ys) (hd : DpAll K H ys ds) (hs : ∀ d ∈ ds, OkE d) (q : ∀ H', Same H H' → Q (.bl (!ds.isEmpty)) H') : tOp (rNeD K) (tVar i) (tLst tNil) σ H Q := by
  refine ⟨_, hi, ?_⟩
  refine ⟨by show 0 ≤ sizeLine; exact Nat.zero_le _, fun l hl => ?_⟩
  have s1 : Same H (upd H l (.lst [])) := .upd hl
  refine ⟨.list ds, .list [], .lst (s1.sqL hD) (s1.dpa hd), .lst (sql_of upd_same) .nil, shaped_of (can_seq (f := false) fun d hd => (hs d hd).1) (Nat.le_trans (dep_seq (f := false) (n := 30) fun d hd => (hs d hd).2) (by decide)), shaped_nil3, ?_⟩
  rw [eqv_nil3]
  exact q _ s1
theorem dpa_ints {K : PySem.W.Frag} {H : Hp} : ∀ {is : List Int}, DpAll K H (is.map V.int) (is.map PyData.int)
  | [] => .nil
  | i :: is => .cons (.int i) dpa_ints
end Jl

set_option Elab.async false
set_option linter.all false
set_option maxRecDepth 100000
set_option maxHeartbeats 1000000
set_option pp.maxSteps 300
namespace Jl
open PySem PySem.Spec PyProof.Rows L2
open Evl (sz_of sz_lt)
local macro_rules | `(tactic| walk_at "at") => `(tactic| first | exact box0 | exact box1 | exact box2)
local macro_rules | `(tactic| walk_at "sq") => `(tactic| first | (show SqL _ _ _ _; assumption) | (show SqT _ _ _ _; assumption) | (show _ = some _; assumption))
local macro_rules | `(tactic| walk_at "side") => `(tactic| first
  | (show (0 : Int) < _; decide)
  | (show (0 : Int) < _; omega)
  | exact ⟨by decide, by decide, by decide⟩
  | exact sz_of (Nat.le_of_ble_eq_true rfl)
  | exact rfl
  | exact Or.inl (by decide)
  | exact Or.inr (by decide)
  | exact Or.inr ⟨by omega, by omega⟩
  | exact Or.inl ⟨by omega, by omega⟩
  | exact ⟨by decide, by decide +kernel⟩)
local macro_rules | `(tactic| walk_at "ev1") => `(tactic| first
  | refine ⟨_, rfl, ?_⟩
  | refine ⟨_, _, rfl, rfl, ?_⟩
  | refine ⟨_, _, _, _, rfl, rfl, (by walk_at "sq"), (by walk_at "at"), ?_⟩
  | refine ⟨_, _, rfl, (by walk_at "sq"), ?_⟩
  | refine ⟨_, _, rfl, Or.inl (by walk_at "sq"), ?_⟩
  | refine ⟨_, _, rfl, Or.inr (by walk_at "sq"), ?_⟩
  | refine Or.inl ⟨_, rfl, ?_⟩
  | refine Or.inr ⟨_, rfl, ?_⟩
  | refine ⟨(by walk_at "side"), ?_⟩
  | refine ⟨.inl ⟨rfl, _, (by walk_at "sq")⟩, ?_⟩
  | refine ⟨_, _, rfl, ?_⟩)
local macro_rules | `(tactic| walk_at "nrm") => `(tactic| dsimp only [tNil, tCons, tC, tCB])
local macro_rules | `(tactic| walk_at "ev") => `(tactic| repeat (walk_at "ev1"))
/-- a list that grows beside a box -/
structure BSt (K : PySem.W.Frag) (b p : Addr) (H3 : Hp) (fs : List V) (ds : List PyData) (Hc : Hp) (bx : List V) (n : Nat) : Prop where
  hb : Hc b = some (.lst bx)
  hB : BoxL bx n
  hf : Hc p = some (.lst fs)
  hd : DpAll K (cutS [p, b] Hc) fs ds
  hS : Same (cutS [b] H3) (cutS [p, b] Hc)
section
variable {K : PySem.W.Frag} {b p : Addr} {H3 Hc Hd : Hp} {fs : List V} {ds : List PyData} {bx bx' : List V} {n n' : Nat} {v : V} {d : PyData}
theorem BSt.take (w : BSt K b p H3 fs ds Hc bx n) (n7 : p ≠ b) (h : BoxL bx' n') : BSt K b p H3 fs ds (upd Hc b (.lst bx')) bx' n' := by
  have e : cutS [p, b] (upd Hc b (.lst bx')) = cutS [p, b] Hc := cutS_upd (List.mem_cons_of_mem _ List.mem_cons_self)
  exact ⟨upd_same, h, by rw [upd_ne n7]; exact w.hf, by rw [e]; exact w.hd, by rw [e]; exact w.hS⟩
theorem BSt.same (w : BSt K b p H3 fs ds Hc bx n) (e : Same Hc Hd) : BSt K b p H3 fs ds Hd bx n := ⟨e _ _ w.hb, w.hB, e _ _ w.hf, (cutS_mono e).dpa w.hd, w.hS.trans (cutS_mono e)⟩
theorem BSt.push (w : BSt K b p H3 fs ds Hc bx n) (n7 : p ≠ b) (h : Dp K (cutS [p, b] Hc) v d) : BSt K b p H3 (fs ++ [v]) (ds ++ [d]) (upd Hc p (.lst (fs ++ [v]))) bx n := by
  have e : cutS [p, b] (upd Hc p (.lst (fs ++ [v]))) = cutS [p, b] Hc := cutS_upd List.mem_cons_self
  exact ⟨by rw [upd_ne n7.symm]; exact w.hb, w.hB, upd_same, by rw [e]; exact dpa_app w.hd (dpa_one h), by rw [e]; exact w.hS⟩
theorem BSt.mono (w : BSt K b p H3 fs ds Hc bx n) (h : n ≤ n') : BSt K b p H3 fs ds Hc bx n' := ⟨w.hb, w.hB.mono h, w.hf, w.hd, w.hS⟩
theorem BSt.new (hb : H3 b = some (.lst bx)) (hB : BoxL bx n) (hp : H3 p = none) : BSt K b p H3 [] [] (upd H3 p (.lst [])) bx n := by
  have np : p ≠ b := fun z => by
    rw [z, hb] at hp
    cases hp
  exact ⟨by rw [upd_ne np.symm]; exact hb, hB, upd_same, .nil, cutS_cons hp⟩
theorem BSt.trk (w : BSt K b p H3 fs ds Hc bx n) : Trk [p, b] Hc := Trk.cons (Trk.cons Trk.nil w.hb) w.hf
end
end Jl

set_option Elab.async false
set_option linter.all false
set_option maxRecDepth 100000
set_option maxHeartbeats 1000000
set_option pp.maxSteps 300
namespace Jl
open PySem PySem.Spec PyProof.Rows L2
open Evl (sz_of sz_lt)
local macro_rules | `(tactic| walk_at "at") => `(tactic| first | exact box0 | exact box1 | exact box2)
local macro_rules | `(tactic| walk_at "sq") => `(tactic| first | (show SqL _ _ _ _; assumption) | (show SqT _ _ _ _; assumption) | (show _ = some _; assumption))
local macro_rules | `(tactic| walk_at "side") => `(tactic| first
  | (show (0 : Int) < _; decide)
  | (show (0 : Int) < _; omega)
  | exact ⟨by decide, by decide, by decide⟩
  | exact sz_of (Nat.le_of_ble_eq_true rfl)
  | exact rfl
  | exact Or.inl (by decide)
  | exact Or.inr (by decide)
  | exact Or.inr ⟨by omega, by omega⟩
  | exact Or.inl ⟨by omega, by omega⟩
  | exact ⟨by decide, by decide +kernel⟩)
local macro_rules | `(tactic| walk_at "ev1") => `(tactic| first
  | refine ⟨_, rfl, ?_⟩
  | refine ⟨_, _, rfl, rfl, ?_⟩
  | refine ⟨_, _, _, _, rfl, rfl, (by walk_at "sq"), (by walk_at "at"), ?_⟩
  | refine ⟨_, _, rfl, (by walk_at "sq"), ?_⟩
  | refine ⟨_, _, rfl, Or.inl (by walk_at "sq"), ?_⟩
  | refine ⟨_, _, rfl, Or.inr (by walk_at "sq"), ?_⟩
  | refine Or.inl ⟨_, rfl, ?_⟩
  | refine Or.inr ⟨_, rfl, ?_⟩
  | refine ⟨(by walk_at "side"), ?_⟩
  | refine ⟨.inl ⟨rfl, _, (by walk_at "sq")⟩, ?_⟩
  | refine ⟨_, _, rfl, ?_⟩)
local macro_rules | `(tactic| walk_at "nrm") => `(tactic| dsimp only [tNil, tCons, tC, tCB])
local macro_rules | `(tactic| walk_at "ev") => `(tactic| repeat (walk_at "ev1"))
abbrev sc_frozen_N : List Str := ["thing", "part"]
abbrev s_frozen : Stmt := topS 6
theorem sc_frozen : FnScope ["thing", "part"] ["thing"] (defScope s_frozen) := ⟨rfl, rfl, rfl, by decide +kernel, rfl, by decide +kernel, by decide +kernel⟩
abbrev sc_check_worker_N : List Str := ["net", "worker"]
abbrev s_check_worker : Stmt := topS 8
theorem sc_check_worker : FnScope ["net", "worker"] ["net", "worker"] (defScope s_check_worker) := ⟨rfl, rfl, rfl, by decide +kernel, rfl, by decide +kernel, by decide +kernel⟩
/-! ### frozen -/
mutual
def frzD : PyData → PyData
  | .list ds => .tuple (frzA ds)
  | .tuple ds => .tuple (frzA ds)
  | .none => .none
  | .bool b => .bool b
  | .int i => .int i
  | .str x => .str x
  | .dict k => .dict k
def frzA : List PyData → List PyData
  | [] => []
  | d :: ds => frzD d :: frzA ds
end
theorem frzA_map : ∀ ds : List PyData, frzA ds = ds.map frzD
  | [] => rfl
  | d :: ds => by
    show frzD d :: frzA ds = frzD d :: ds.map frzD
    rw [frzA_map ds]
theorem frzD_seq {f : Bool} {ds : List PyData} : frzD (seqD f ds) = .tuple (ds.map frzD) := by
  cases f
  · show PyData.tuple (frzA ds) = _
    rw [frzA_map]
  · show PyData.tuple (frzA ds) = _
    rw [frzA_map]
theorem frz_net {f : Bool} {ws : List Str} {qs : List QD} : frzD (netD f ws qs) = netD true ws qs := by
  unfold netD
  rw [frzD_seq]
  show PyData.tuple [frzD _, frzD _] = PyData.tuple [_, _]
  rw [frzD_seq, frzD_seq, List.map_map, List.map_map]
  have e1 : ws.map (frzD ∘ PyData.str) = ws.map PyData.str := List.map_congr_left fun _ _ => rfl
  have e2 : qs.map (frzD ∘ QD.d f) = qs.map (QD.d true) := List.map_congr_left fun q _ => by
    show frzD (QD.d f q) = _
    unfold QD.d
    rw [frzD_seq]
    rfl
  rw [e1, e2]
  rfl
theorem frz_flat {d : PyData} (h : PySem.W.kitAny (default : PySem.W.Frag) (.type (tyD d)) [.type "list", .type "tuple"] = some false ∨ True) (h2 : ∀ f ds, d ≠ seqD f ds) : frzD d = d := by
  cases d with
  | list ds => exact absurd rfl (h2 false ds)
  | tuple ds => exact absurd rfl (h2 true ds)
  | _ => rfl
section
variable {P : Program} {w : World} {K : PySem.W.Frag} {mg : Str → Option Value} {base : Heap}
def spFrozen (K : PySem.W.Frag) : Nat → Sp
  | 0 => fun _ _ _ _ => False
  | n + 1 => fun vs H Q _ => ∃ (v : V) (d : PyData) (S : List Addr), vs = [v] ∧ Trk S H ∧ Dp K (cutS S H) v d ∧ okD (n + 1) d ∧ ∀ H' y, Same H H' → Dp K (cutS S H') y (frzD d) → Q y H'
theorem ok_frozen {f : Addr} {fd : FuncData} (F_frozen : Fun K "frozen" "frozen" s_frozen f fd) (g_frozen : mg "frozen" = some (.ref f)) (b_frozen : Binds K fd ["thing"] []) (m_isinstance : mg "isinstance" = none) (m_list : mg "list" = none) (m_tuple : mg "tuple" = none) :
    ∀ n : Nat, FnOk P w K mg base CX0 n f fd ["thing"] (spFrozen K n)
  | 0 => fnok_no
  | n + 1 => by
    have G_frozen := ok_frozen F_frozen g_frozen b_frozen m_isinstance m_list m_tuple n
    refine F_frozen.ok sc_frozen (fun vs H Q E h => ?_) (fun cdv A outer s H vs Q E hr h => ?_)
    · obtain ⟨v, d, S, rfl, _⟩ := h
      rfl
    · obtain ⟨v, d, S, rfl, hT, hD, hk, q⟩ := h
      refine ⟨_, (pss_cons (ps_if (pt_val (pe_callB call_isiT (by rfl) m_isinstance (by decide +kernel) (pa_cons (pv 0) (pa_cons (pe_tup (pa_cons (pe_bltn (v := .ty "list") (u := .type "list") (by rfl) m_list (by decide +kernel) rfl) (pa_cons (pe_bltn (v := .ty "tuple") (u := .type "tuple") (by rfl) m_tuple (by decide +kernel) rfl) pa_nil))) pa_nil)))) (pss_one (ps_ret (pe_callTy call_tuple_of (by rfl) m_tuple (by decide +kernel) (pa_cons (pe_lcX (pe_lc (own := [("part", 1)]) (g := gName 1) (tt := tYes) (by rfl) sc_frozen.nd (pi_seq (pv 0)) (blkOk_by (own := [("part", 1)]) (N := sc_frozen_N) (sc := defScope s_frozen) (by decide +kernel)) (fun _ _ _ _ _ => pg_name (i := 1) sc_frozen.nd rfl (Or.inl rfl)) (fun _ _ _ _ _ => pts_nil) (fun _ _ _ _ _ => (pe_call G_frozen hr (by rfl) g_frozen F_frozen.kp b_frozen .nil pass0 (pa_cons (pv 1) pa_nil))))) pa_nil)))) pss_nil) 
    (pss_one (ps_ret (pv 0)))), ?_⟩
      walk_at "ev"
      intro p hp
      have e1 : Same H (upd H p (.tup [.ty "list", .ty "tuple"])) := .upd hp
      have hp1 : (upd H p (.tup [.ty "list", .ty "tuple"])) p = some (.tup [.ty "list", .ty "tuple"]) := upd_same
      dsimp only [tNil]
      rcases dp_cases hD with ⟨fb, ds, rfl⟩ | ⟨hk0, hl⟩
      · refine isi2 (e1.dp (cutS_le.dp hD)) hp1 (fun t e => by rw [e]; exact kit_seq) ?_
        refine ⟨_, rfl, iteT ?_⟩
        obtain ⟨a, xs, rfl, hs, ha⟩ := Dp.seq_of hD
        obtain ⟨hk1, hk2⟩ := okD_seq.mp hk
        refine lc_dataD (S := S) frzD (fun R' r => ⟨_, rfl, r⟩) (e1.sqF (cutS_le.sqF hs)) ((cutS_mono e1).dpa ha) (hT.mono e1) hk1 (fun x => rfl) (fun x d H1 T hd t1 hx Q' q' => ?_) (fun D ys H' s1 hD h2 h3 => ?_)
        · cases n with
          | zero => exact (hk2 d hd).elim
          | succ n => exact ⟨_, rfl, x, d, T, rfl, t1, hx, hk2 d hd, fun H2 y s2 hy => q' H2 y s2 hy⟩
        · refine ⟨D, ys, rfl, .inl ⟨sql_of h2, fun l hl => ?_⟩⟩
          have s2 : Same H (upd H' l (.tup ys)) := (e1.trans s1).trans (.upd hl)
          refine q _ _ s2 ?_
          rw [frzD_seq]
          exact dp_tup (hT.mono (e1.trans s1)) hl (cutS_tail.dpa h3)
      · refine isi2 (e1.dp (cutS_le.dp hD)) hp1 (fun t e => by rw [e]; exact hk0) ?_
        refine ⟨_, rfl, iteF ?_⟩
        refine ⟨_, rfl, ?_⟩
        refine q _ _ e1 ?_
        have e : frzD d = d := by
          cases d with
          | list ds => exact absurd ((kit_seq (K := K) (fb := false) (ds := ds)).symm.trans hk0) (by simp)
          | tuple ds => exact absurd ((kit_seq (K := K) (fb := true) (ds := ds)).symm.trans hk0) (by simp)
          | _ => rfl
        rw [e]
        exact (cutS_mono e1).dp hD
/-! ### check_worker -/
def spCheck (K : PySem.W.Frag) : Sp := fun vs H Q _ => ∃ (v : V) (fb : Bool) (ws : List Str) (qs : List QD) (x : Str), vs = [v, .str x] ∧ Dp K H v (netD fb ws qs) ∧ x ∈ ws ∧ Q .non H
theorem ok_check_worker {f : Addr} {fd : FuncData} {k : Nat} (F : Fun K "check_worker" "check_worker" s_check_worker f fd) : FnOk P w K mg base CX0 (k + 1) f fd ["net", "worker"] (spCheck K) := by
  refine F.ok sc_check_worker (fun vs H Q E h => ?_) (fun cdv A outer s0 H vs Q E hr h => ?_)
  · obtain ⟨v, fb, ws, qs, x, rfl, _⟩ := h
    rfl
  · obtain ⟨v, fb, ws, qs, x, rfl, hD, hx, q⟩ := h
    refine ⟨_, (pss_one (ps_if (pt_cmpR op_notIn_seq (pv 1) (pe_ix ix_lt (pv 0) pe_int (fun _ _ => rfl)) (by with_unfolding_all rfl)) (pss_one ps_no) pss_nil)), ?_⟩
    obtain ⟨a0, a1, a2, xq, rfl, N0⟩ := netAt hD
    have i0 : atI [V.ref a1, V.ref a2] 0 = some (.ref a1) := atI_nat (j := 0) rfl
    refine ⟨_, rfl, _, rfl, rIxF_at N0.h0 i0 ?_⟩
    refine ⟨a1, _, rfl, N0.h1.or, rfl, flat_strs _, ?_⟩
    rw [in_strs, decide_eq_true hx]
    refine ⟨_, rfl, iteF ?_⟩
    exact q
end
end Jl

set_option Elab.async false
set_option linter.all false
set_option maxRecDepth 100000
set_option maxHeartbeats 1000000
set_option pp.maxSteps 300
namespace Jl
open PySem PySem.Spec PyProof.Rows L2
open Evl (sz_of sz_lt)
local macro_rules | `(tactic| walk_at "at") => `(tactic| first | exact box0 | exact box1 | exact box2)
local macro_rules | `(tactic| walk_at "sq") => `(tactic| first | (show SqL _ _ _ _; assumption) | (show SqT _ _ _ _; assumption) | (show _ = some _; assumption))
local macro_rules | `(tactic| walk_at "side") => `(tactic| first
  | (show (0 : Int) < _; decide)
  | (show (0 : Int) < _; omega)
  | exact ⟨by decide, by decide, by decide⟩
  | exact sz_of (Nat.le_of_ble_eq_true rfl)
  | exact rfl
  | exact Or.inl (by decide)
  | exact Or.inr (by decide)
  | exact Or.inr ⟨by omega, by omega⟩
  | exact Or.inl ⟨by omega, by omega⟩
  | exact ⟨by decide, by decide +kernel⟩)
local macro_rules | `(tactic| walk_at "ev1") => `(tactic| first
  | refine ⟨_, rfl, ?_⟩
  | refine ⟨_, _, rfl, rfl, ?_⟩
  | refine ⟨_, _, _, _, rfl, rfl, (by walk_at "sq"), (by walk_at "at"), ?_⟩
  | refine ⟨_, _, rfl, (by walk_at "sq"), ?_⟩
  | refine ⟨_, _, rfl, Or.inl (by walk_at "sq"), ?_⟩
  | refine ⟨_, _, rfl, Or.inr (by walk_at "sq"), ?_⟩
  | refine Or.inl ⟨_, rfl, ?_⟩
  | refine Or.inr ⟨_, rfl, ?_⟩
  | refine ⟨(by walk_at "side"), ?_⟩
  | refine ⟨.inl ⟨rfl, _, (by walk_at "sq")⟩, ?_⟩
  | refine ⟨_, _, rfl, ?_⟩)
local macro_rules | `(tactic| walk_at "nrm") => `(tactic| dsimp only [tNil, tCons, tC, tCB])
local macro_rules | `(tactic| walk_at "ev") => `(tactic| repeat (walk_at "ev1"))
abbrev sc_Way_init_N : List Str := ["self", "net", "start", "queues", "known", "steps", "workers", "costs", "place", "name", "move", "queue"]
abbrev s_Way_init : Stmt := inClass (topS 10) 0
theorem sc_Way_init : FnScope ["self", "net", "start", "queues", "known", "steps", "workers", "costs", "place", "name", "move", "queue"] ["self", "net", "start", "queues"] (defScope s_Way_init) := ⟨rfl, rfl, rfl, by decide +kernel, rfl, by decide +kernel, by decide +kernel⟩
abbrev sc_Way_cost_N : List Str := ["self"]
abbrev s_Way_cost : Stmt := inClass (topS 10) 3
theorem sc_Way_cost : FnScope ["self"] ["self"] (defScope s_Way_cost) := ⟨rfl, rfl, rfl, by decide +kernel, rfl, by decide +kernel, by decide +kernel⟩
theorem dc_it {J : It} {n : Nat} {G : Hp → Prop} {Y : Nat → Hp → V → Hp → Prop} (w : Walk J n G Y) {g : TG} {tt : TT} {tk tv : TE} {vs : List Nat} {σ : L2.St} {H1 : Hp} {D : Addr} {Qd : Hp → Prop} (Pv : Nat → Hp → Prop) (h0 : Pv 0 (upd H1 D (.dK []))) (hG : ∀ i H, i ≤ n → Pv i H → G H)
    (hs : ∀ i x H H', i < n → Pv i H → Y i H x H' → g x (wipe σ vs) H' fun σ2 H2 => wipe σ2 vs = wipe σ vs ∧ tt σ2 H2 fun b H3 =>
      if b = true then tk σ2 H3 fun y H4 => tv σ2 H4 fun z H5 => ∃ kvs k, y = kV k ∧ H5 D = some (.dK kvs) ∧ kvs.length < sizeLine ∧ Pv (i + 1) (upd H5 D (.dK (putK kvs k z))) else Pv (i + 1) H3) (hd : ∀ H, Pv n H → Qd H) :
    ∃ W : Nat → Nat → Hp → Prop, (∃ m, W 0 m (upd H1 D (.dK []))) ∧ ∀ i m H, W i m H →
      (J.stop i H ∧ Qd H) ∨ (J.go i H ∧ ∃ Nx : Hp → Prop, (∀ H', Nx H' → ∃ m', m' < m ∧ W (i + 1) m' H') ∧ ∀ x H', J.yld i H x H' → g x (wipe σ vs) H' fun σ2 H2 => wipe σ2 vs = wipe σ vs ∧ tt σ2 H2 fun b H3 =>
        if b = true then tk σ2 H3 fun y H4 => tv σ2 H4 fun z H5 => ∃ kvs k, y = kV k ∧ H5 D = some (.dK kvs) ∧ kvs.length < sizeLine ∧ Nx (upd H5 D (.dK (putK kvs k z))) else Nx H3) := by
  refine ⟨fun i m H => m = n - i ∧ i ≤ n ∧ Pv i H, ⟨n, by simp, Nat.zero_le _, h0⟩, ?_⟩
  rintro i m H ⟨rfl, hi, p⟩
  have q := hG i H hi p
  by_cases hlt : i < n
  · refine .inr ⟨w.goes i H hlt q, Pv (i + 1), fun H' p' => ⟨n - (i + 1), by omega, rfl, hlt, p'⟩, fun x H' y => hs i x H H' hlt p (w.yields i H x H' hlt q y)⟩
  · have e : i = n := by omega
    subst e
    exact .inl ⟨w.stops H q, hd H p⟩
/-! ### rows along a path -/
theorem path_len {qs : List QD} : ∀ {vs : List Str} {ms : List Mk}, path qs vs ms → vs.length = ms.length + 1
  | [_], [], _ => rfl
  | _ :: u :: vs, m :: ms, h => by rw [List.length_cons, path_len h.2, List.length_cons]
  | [], _, h => absurd h id
  | [_], _ :: _, h => absurd h id
  | _ :: _ :: _, [], h => absurd h id
theorem path_get {qs : List QD} : ∀ {vs : List Str} {ms : List Mk} {i : Nat} {m : Mk}, path qs vs ms → ms[i]? = some m → ∃ a b, vs[i]? = some a ∧ vs[i + 1]? = some b ∧ link qs m a b
  | v :: u :: vs, m :: ms, 0, m', h, hm => by
    cases hm
    exact ⟨v, u, rfl, rfl, h.1⟩
  | v :: u :: vs, m :: ms, i + 1, m', h, hm => by
    obtain ⟨a, b, h1, h2, h3⟩ := path_get (i := i) h.2 (by simpa using hm)
    exact ⟨a, b, by simpa using h1, by simpa using h2, h3⟩
  | [_], [], i, m', _, hm => by simp at hm
  | [], _, _, _, h, _ => absurd h id
  | [_], _ :: _, _, _, h, _ => absurd h id
  | _ :: _ :: _, [], _, _, h, _ => absurd h id
theorem link_at {qs : List QD} {m : Mk} {x y : Str} (h : link qs m x y) : ∃ q, qs[m.1]? = some q ∧ (x = q.st ∨ x = q.en) ∧ nmQ qs m = q.nm ∧ (q.st ≠ q.en → (if x = q.st then mvd q.nm true q.en q.room else mvd q.nm false q.st (1 - q.gap)) = .tuple [stD qs m, .str y, .int (prQ qs m)]) := by
  obtain ⟨q, hq, h⟩ := h
  obtain ⟨i, b⟩ := m
  have hq : qs[i]? = some q := hq
  have e1 : nmQ qs (i, b) = q.nm := by unfold nmQ; rw [hq]
  refine ⟨q, hq, ?_, e1, fun hne => ?_⟩
  · rcases h with ⟨_, h, _⟩ | ⟨_, h, _⟩
    · exact .inl h.symm
    · exact .inr h.symm
  · obtain ⟨g1, g2⟩ := mvd_at hq
    rcases h with ⟨h1, h2, h3⟩ | ⟨h1, h2, h3⟩
    · have h1 : b = true := h1
      subst h1
      rw [if_pos h2.symm, g1]
      show mvD qs (i, true) = _
      unfold mvD far
      rw [hq, ← h3]
      rfl
    · have h1 : b = false := h1
      subst h1
      rw [if_neg (by rw [← h2]; exact hne.symm), g2]
      show mvD qs (i, false) = _
      unfold mvD far
      rw [hq, ← h3]
      rfl
theorem refs_of {K : PySem.W.Frag} {H : Hp} {fb : Bool} {qs : List QD} {xs : List V} (hl : xs.length = qs.length) (h : ∀ (i : Nat) (v : V), xs[i]? = some v → ∃ (q : QD) (a : Addr), qs[i]? = some q ∧ v = .ref a ∧ SqF fb K H a [.str q.nm, .str q.st, .str q.en, .int q.room, .int q.gap]) : ∃ als : List Addr, xs = als.map V.ref ∧ als.length = qs.length := by
  have key : ∀ xs : List V, (∀ v ∈ xs, ∃ a : Addr, v = .ref a) → ∃ als : List Addr, xs = als.map V.ref := by
    intro xs
    induction xs with
    | nil => exact fun _ => ⟨[], rfl⟩
    | cons v xs ih =>
      intro h
      obtain ⟨a, rfl⟩ := h v List.mem_cons_self
      obtain ⟨als, rfl⟩ := ih fun x hx => h x (List.mem_cons_of_mem _ hx)
      exact ⟨a :: als, rfl⟩
  obtain ⟨als, e⟩ := key xs fun v hv => by
    obtain ⟨i, hi, e⟩ := List.getElem_of_mem hv
    obtain ⟨_, a, _, e2, _⟩ := h i v (by rw [List.getElem?_eq_getElem hi, e])
    exact ⟨a, e2⟩
  refine ⟨als, e, ?_⟩
  rw [← hl, e, List.length_map]
/-- {queue[0]: queue for queue in a row of queues} -/
theorem dc_rows {K : PySem.W.Frag} {tl : TE} {j : Nat} {vs : List Nat} {σ : L2.St} {H H0 : Hp} {Q : VK} {a : Addr} {fb : Bool} {als : List Addr} {qs : List QD} (hl : als.length = qs.length) (hl2 : qs.length ≤ 1000) (hn : (qs.map QD.nm).Nodup)
    (ht : ∀ R' : VK, R' (.ref a) H0 → tl σ H R') (hs : SqF fb K H0 a (als.map V.ref)) (hq : ∀ (i : Nat) (v : V), (als.map V.ref)[i]? = some v → ∃ (q : QD) (a : Addr), qs[i]? = some q ∧ v = .ref a ∧ SqF fb K H0 a [.str q.nm, .str q.st, .str q.en, .int q.room, .int q.gap])
    (hw : ∀ x, wipe ((wipe σ vs).set j (some x)) vs = wipe σ vs) (hj : ∀ x : V, ((wipe σ vs).set j (some x))[j]? = some (some x))
    (q : ∀ D H1, Same H0 H1 → H0 D = none → H1 D = some (.dK (kvl (qs.map QD.nm) als)) → Q (.ref D) H1) : tDcX (iSeq K tl) (gName j) tYes (tOp (rIxF K) (tVar j) (tC (.int 0))) (tVar j) vs σ H Q := by
  refine dc_of ?_
  refine iSeq_at ht hs fun J w D hD => ?_
  refine dc_it w (fun i H1 => Same H0 H1 ∧ H1 D = some (.dK (kvl ((qs.map QD.nm).take i) (als.take i)))) ⟨.upd hD, upd_same⟩ (fun i H1 _ p => p.1.sqF hs) (fun i x H1 H1' hi p y => ?_) (fun H1 p => ?_)
  · obtain ⟨s1, h1⟩ := p
    obtain ⟨rfl, hx⟩ := y
    obtain ⟨qd, aq, e1, rfl, e2⟩ := hq i x hx
    rw [List.getElem?_map] at hx
    have e3 : als[i]? = some aq := by
      cases e : als[i]? with
      | none =>
        rw [e] at hx
        cases hx
      | some b =>
        rw [e] at hx
        cases hx
        rfl
    have e4 : (qs.map QD.nm)[i]? = some qd.nm := by rw [List.getElem?_map, e1]; rfl
    have hil := (List.getElem?_eq_some_iff.mp e1).1
    refine ⟨hw _, ?_⟩
    dsimp only [tYes]
    refine iteT ?_
    refine ⟨_, hj _, rIxF_at (s1.sqF e2) (atI_nat (j := 0) rfl) ?_⟩
    refine ⟨_, hj _, _, .inr qd.nm, rfl, h1, ?_, s1.mut hD, ?_⟩
    · unfold kvl
      rw [List.length_map, List.length_zip, List.length_take]
      exact szL (by omega)
    · rw [upd_same, putK_new _ (valV_kvl_no fun hz => ?_), ← kvl_push (by rw [List.length_take, List.length_take, List.length_map]; omega), List.take_add_one, List.take_add_one, e3, e4]
      · rfl
      · obtain ⟨k, hk1, hk2⟩ := List.mem_take_iff_getElem.mp hz
        have := nd_ix hn e4 (by rw [List.getElem?_eq_getElem (show k < (qs.map QD.nm).length by omega)]; exact congrArg some hk2)
        omega
  · obtain ⟨s1, h1⟩ := p
    rw [List.length_map, List.take_of_length_le (by rw [List.length_map]; omega), List.take_of_length_le (Nat.le_refl _)] at h1
    exact q D H1 s1 hD h1
/-! ### an instance that is being made -/
structure ISt (H0 : Hp) (C x dx : Addr) (H : Hp) (fs : List (Str × V)) : Prop where
  s : Same H0 (cutS [x] H)
  hx : H x = some (.ins C dx fs)
theorem ISt.same {H0 : Hp} {C x dx : Addr} {H H' : Hp} {fs : List (Str × V)} (i : ISt H0 C x dx H fs) (e : Same H H') : ISt H0 C x dx H' fs := ⟨i.s.trans (cutS_mono e), e _ _ i.hx⟩
theorem cut1 {x : Addr} {H : Hp} {o : HO} : cutS [x] (upd H x o) = cutS [x] H := cutS_upd List.mem_cons_self
theorem ISt.put {H0 : Hp} {C x dx : Addr} {H : Hp} {fs fs' : List (Str × V)} (i : ISt H0 C x dx H fs) : ISt H0 C x dx (upd H x (.ins C dx fs')) fs' := ⟨by rw [cut1]; exact i.s, upd_same⟩
def f1 (v1 : V) : List (Str × V) := putF "_net" v1 []
def f2 (v1 v2 : V) : List (Str × V) := putF "_queues" v2 (f1 v1)
def f3 (v1 v2 v3 : V) : List (Str × V) := putF "_steps" v3 (f2 v1 v2)
def f4 (v1 v2 v3 v4 : V) : List (Str × V) := putF "_workers" v4 (f3 v1 v2 v3)
def f5 (v1 v2 v3 v4 v5 : V) : List (Str × V) := putF "_costs" v5 (f4 v1 v2 v3 v4)
theorem putF_len {f : Str} {v : V} : ∀ {fs : List (Str × V)}, (putF f v fs).length ≤ fs.length + 1
  | [] => Nat.le_refl _
  | (g, u) :: fs => by
    unfold putF
    split
    · exact Nat.le_succ _
    · exact Nat.succ_le_succ putF_len
theorem f5_len {v1 v2 v3 v4 v5 : V} : (f1 v1).length ≤ 1 ∧ (f2 v1 v2).length ≤ 2 ∧ (f3 v1 v2 v3).length ≤ 3 ∧ (f4 v1 v2 v3 v4).length ≤ 4 ∧ (f5 v1 v2 v3 v4 v5).length ≤ 5 := by
  have h1 : (f1 v1).length ≤ 1 := putF_len
  have h2 : (f2 v1 v2).length ≤ (f1 v1).length + 1 := putF_len
  have h3 : (f3 v1 v2 v3).length ≤ (f2 v1 v2).length + 1 := putF_len
  have h4 : (f4 v1 v2 v3 v4).length ≤ (f3 v1 v2 v3).length + 1 := putF_len
  have h5 : (f5 v1 v2 v3 v4 v5).length ≤ (f4 v1 v2 v3 v4).length + 1 := putF_len
  exact ⟨h1, by omega, by omega, by omega, by omega⟩
theorem f5_at {v1 v2 v3 v4 v5 : V} : (f5 v1 v2 v3 v4 v5).lookup ("_net" : Str) = some v1 ∧ (f5 v1 v2 v3 v4 v5).lookup ("_queues" : Str) = some v2 ∧ (f5 v1 v2 v3 v4 v5).lookup ("_steps" : Str) = some v3 ∧ (f5 v1 v2 v3 v4 v5).lookup ("_workers" : Str) = some v4 ∧ (f5 v1 v2 v3 v4 v5).lookup ("_costs" : Str) = some v5 := by
  have ne : ∀ a b : Str, (decide (a = b)) = false → ¬ a = b := fun a b h => of_decide_eq_false h
  unfold f5 f4 f3 f2 f1
  simp only [lookup_putF]
  refine ⟨?_, ?_, ?_, ?_, ?_⟩
  · rw [if_neg (ne _ _ (by decide +kernel)), if_neg (ne _ _ (by decide +kernel)), if_neg (ne _ _ (by decide +kernel)), if_neg (ne _ _ (by decide +kernel)), if_pos trivial]
  · rw [if_neg (ne _ _ (by decide +kernel)), if_neg (ne _ _ (by decide +kernel)), if_neg (ne _ _ (by decide +kernel)), if_pos trivial]
  · rw [if_neg (ne _ _ (by decide +kernel)), if_neg (ne _ _ (by decide +kernel)), if_pos trivial]
  · rw [if_neg (ne _ _ (by decide +kernel)), if_pos trivial]
  · rw [if_pos trivial]
theorem f5_no {v1 v2 v3 v4 v5 : V} {m : Str} (h : decide (m ∈ ([("_net" : Str), "_queues", "_steps", "_workers", "_costs"] : List Str)) = false) : (f5 v1 v2 v3 v4 v5).lookup m = none := by
  have h := of_decide_eq_false h
  simp only [List.mem_cons, List.not_mem_nil, or_false, not_or] at h
  obtain ⟨h1, h2, h3, h4, h5⟩ := h
  unfold f5 f4 f3 f2 f1
  simp only [lookup_putF]
  rw [if_neg h5, if_neg h4, if_neg h3, if_neg h2, if_neg h1]
  rfl
theorem f2_at {v1 v2 : V} : (f1 v1).lookup ("_net" : Str) = some v1 ∧ (f2 v1 v2).lookup ("_net" : Str) = some v1 ∧ (f2 v1 v2).lookup ("_queues" : Str) = some v2 := by
  have ne : ∀ a b : Str, (decide (a = b)) = false → ¬ a = b := fun a b h => of_decide_eq_false h
  unfold f2 f1
  simp only [lookup_putF]
  refine ⟨?_, ?_, ?_⟩
  · rw [if_pos trivial]
  · rw [if_neg (ne _ _ (by decide +kernel)), if_pos trivial]
  · rw [if_pos trivial]
/-- a Way: from w over the marks ms, the workers behind w: us -/
structure WayAt (K : PySem.W.Frag) (C : Addr) (H : Hp) (x : Addr) (ws : List Str) (qs : List QD) (w : Str) (us : List Str) (ms : List Mk) : Prop where
  is : ∃ (dx : Addr) (v1 v2 v3 v4 v5 : V), H x = some (.ins C dx (f5 v1 v2 v3 v4 v5)) ∧ Dp K H v1 (netD true ws qs) ∧ Dp K H v2 (.tuple ((ms.map (nmQ qs)).map PyData.str)) ∧ Dp K H v3 (stepsD qs ms) ∧ Dp K H v4 (.tuple ((w :: us).map PyData.str)) ∧ Dp K H v5 (.tuple ((ms.map (prQ qs)).map PyData.int))
theorem WayAt.same {K : PySem.W.Frag} {C : Addr} {H H' : Hp} {x : Addr} {ws : List Str} {qs : List QD} {w : Str} {us : List Str} {ms : List Mk} (h : WayAt K C H x ws qs w us ms) (e : Same H H') : WayAt K C H' x ws qs w us ms := by
  obtain ⟨dx, v1, v2, v3, v4, v5, h0, h1, h2, h3, h4, h5⟩ := h.is
  exact ⟨dx, v1, v2, v3, v4, v5, e _ _ h0, e.dp h1, e.dp h2, e.dp h3, e.dp h4, e.dp h5⟩
structure TWay (K : PySem.W.Frag) (C : Addr) : Prop where
  cl : Cls K C
  n1 : NoAttr K C "_net"
  n2 : NoAttr K C "_queues"
  n3 : NoAttr K C "_steps"
  n4 : NoAttr K C "_workers"
  n5 : NoAttr K C "_costs"
section
variable {P : Program} {w : World} {K : PySem.W.Frag} {mg : Str → Option Value} {base : Heap}
def spCost (K : PySem.W.Frag) (C : Addr) : Sp := fun vs H Q _ => ∃ (x : Addr) (ws : List Str) (qs : List QD) (w : Str) (us : List Str) (ms : List Mk), vs = [.ref x] ∧ WayAt K C H x ws qs w us ms ∧ Q (.int (costQ qs ms)) H
theorem ok_Way_cost {f C : Addr} {fd : FuncData} {k : Nat} (F : Fun K "cost" "Way.cost" s_Way_cost f fd) (T_Way : TWay K C) (m_sum : mg "sum" = none) : FnOk P w K mg base CX0 (k + 1) f fd ["self"] (spCost K C) := by
  refine F.ok sc_Way_cost (fun vs H Q E h => ?_) (fun cdv A outer s0 H vs Q E hr h => ?_)
  · obtain ⟨x, ws, qs, w, us, ms, rfl, _⟩ := h
    rfl
  · obtain ⟨x, ws, qs, w, us, ms, rfl, hw, q⟩ := h
    refine ⟨_, (pss_one (ps_ret (pe_callB (cr_sumT rfl) (by rfl) m_sum (by decide +kernel) (pa_cons (pe_fld (pv 0) rfl) pa_nil)))), ?_⟩
    obtain ⟨dx, v1, v2, v3, v4, v5, h0, h1, h2, h3, h4, h5⟩ := hw.is
    obtain ⟨a, xs, rfl, ha, hx⟩ := Dp.seq_of (f := true) (show Dp K H v5 (seqD true _) from h5)
    have e := dpa_ints_of hx
    subst e
    exact ⟨_, rfl, x, C, dx, _, _, rfl, h0, T_Way.cl, T_Way.n5, f5_at.2.2.2.2, a, _, rfl, ha, q⟩
end
end Jl

set_option Elab.async false
set_option linter.all false
set_option maxRecDepth 100000
set_option maxHeartbeats 1000000
set_option pp.maxSteps 300
namespace Jl
open PySem PySem.Spec PyProof.Rows L2
open Evl (sz_of sz_lt)
local macro_rules | `(tactic| walk_at "at") => `(tactic| first | exact box0 | exact box1 | exact box2)
local macro_rules | `(tactic| walk_at "sq") => `(tactic| first | (show SqL _ _ _ _; assumption) | (show SqT _ _ _ _; assumption) | (show _ = some _; assumption))
local macro_rules | `(tactic| walk_at "side") => `(tactic| first
  | (show (0 : Int) < _; decide)
  | (show (0 : Int) < _; omega)
  | exact ⟨by decide, by decide, by decide⟩
  | exact sz_of (Nat.le_of_ble_eq_true rfl)
  | exact rfl
  | exact Or.inl (by decide)
  | exact Or.inr (by decide)
  | exact Or.inr ⟨by omega, by omega⟩
  | exact Or.inl ⟨by omega, by omega⟩
  | exact ⟨by decide, by decide +kernel⟩)
local macro_rules | `(tactic| walk_at "ev1") => `(tactic| first
  | refine ⟨_, rfl, ?_⟩
  | refine ⟨_, _, rfl, rfl, ?_⟩
  | refine ⟨_, _, _, _, rfl, rfl, (by walk_at "sq"), (by walk_at "at"), ?_⟩
  | refine ⟨_, _, rfl, (by walk_at "sq"), ?_⟩
  | refine ⟨_, _, rfl, Or.inl (by walk_at "sq"), ?_⟩
  | refine ⟨_, _, rfl, Or.inr (by walk_at "sq"), ?_⟩
  | refine Or.inl ⟨_, rfl, ?_⟩
  | refine Or.inr ⟨_, rfl, ?_⟩
  | refine ⟨(by walk_at "side"), ?_⟩
  | refine ⟨.inl ⟨rfl, _, (by walk_at "sq")⟩, ?_⟩
  | refine ⟨_, _, rfl, ?_⟩)
local macro_rules | `(tactic| walk_at "nrm") => `(tactic| dsimp only [tNil, tCons, tC, tCB])
local macro_rules | `(tactic| walk_at "ev") => `(tactic| repeat (walk_at "ev1"))
theorem okD_up : ∀ {n : Nat} {d : PyData}, okD n d → okD (n + 1) d
  | 0, _, h => absurd h id
  | n + 1, .list ds, h => ⟨h.1, fun d hd => okD_up (h.2 d hd)⟩
  | n + 1, .tuple ds, h => ⟨h.1, fun d hd => okD_up (h.2 d hd)⟩
  | n + 1, .none, _ => trivial
  | n + 1, .bool _, _ => trivial
  | n + 1, .int _, _ => trivial
  | n + 1, .str _, _ => trivial
theorem asg_of0 {te : TE} {i : Nat} {u : TS} {D : Ends} {σ : L2.St} {H : Hp} (h : te σ H fun v H1 => u D (σ.set i (some v)) H1) : tSeq (tAsg te (gName i)) u D σ H := h
/-- the lists of a Way that is being made -/
structure WSI (K : PySem.W.Frag) (H5 : Hp) (ls lw lc x : Addr) (qs : List QD) (vs : List Str) (ms : List Mk) (i : Nat) (H : Hp) (sv : List V) : Prop where
  hs : H ls = some (.lst sv)
  hw : H lw = some (.lst ((vs.take (i + 1)).map V.str))
  hc : H lc = some (.lst (((ms.take i).map (prQ qs)).map V.int))
  ds : DpAll K (cutS [ls, lw, lc, x] H) sv ((ms.take i).map (stD qs))
  sS : Same (cutS [x] H5) (cutS [ls, lw, lc, x] H)
  xx : ∀ o, H5 x = some o → H x = some o
theorem WSI.same {K : PySem.W.Frag} {H5 : Hp} {ls lw lc x : Addr} {qs : List QD} {vs : List Str} {ms : List Mk} {i : Nat} {H H' : Hp} {sv : List V} (w : WSI K H5 ls lw lc x qs vs ms i H sv) (e : Same H H') : WSI K H5 ls lw lc x qs vs ms i H' sv :=
  ⟨e _ _ w.hs, e _ _ w.hw, e _ _ w.hc, (cutS_mono e).dpa w.ds, w.sS.trans (cutS_mono e), fun o h => e _ _ (w.xx o h)⟩
theorem WSI.next {K : PySem.W.Frag} {H5 : Hp} {ls lw lc x : Addr} {qs : List QD} {vs : List Str} {ms : List Mk} {i : Nat} {H : Hp} {sv : List V} {m : Mk} {b : Str} {v1 : V} (w : WSI K H5 ls lw lc x qs vs ms i H sv) (n1 : lw ≠ ls) (n2 : lc ≠ lw) (n3 : lc ≠ ls) (hx : ls ≠ x ∧ lw ≠ x ∧ lc ≠ x) (hm : ms[i]? = some m) (hb : vs[i + 1]? = some b) (hd : Dp K (cutS [ls, lw, lc, x] H) v1 (stD qs m)) :
    WSI K H5 ls lw lc x qs vs ms (i + 1) (upd (upd (upd H ls (.lst (sv ++ [v1]))) lw (.lst ((vs.take (i + 1)).map V.str ++ [.str b]))) lc (.lst (((ms.take i).map (prQ qs)).map V.int ++ [.int (prQ qs m)]))) (sv ++ [v1]) := by
  have c : ∀ {H : Hp} {a : Addr} {o : HO}, a ∈ [ls, lw, lc, x] → cutS [ls, lw, lc, x] (upd H a o) = cutS [ls, lw, lc, x] H := fun h => cutS_upd h
  have e : cutS [ls, lw, lc, x] (upd (upd (upd H ls (.lst (sv ++ [v1]))) lw (.lst ((vs.take (i + 1)).map V.str ++ [.str b]))) lc (.lst (((ms.take i).map (prQ qs)).map V.int ++ [.int (prQ qs m)]))) = cutS [ls, lw, lc, x] H := by
    rw [c (by simp), c (by simp), c (by simp)]
  refine ⟨?_, ?_, ?_, ?_, ?_, fun o h => ?_⟩
  · rw [upd_ne n3.symm, upd_ne n1.symm, upd_same]
  · rw [upd_ne n2.symm, upd_same, List.take_add_one (l := vs) (i := i + 1), hb, List.map_append]
    rfl
  · rw [upd_same, List.take_add_one (l := ms) (i := i), hm, List.map_append, List.map_append]
    rfl
  · rw [e, List.take_add_one, hm, List.map_append]
    exact dpa_app w.ds (dpa_one hd)
  · rw [e]
    exact w.sS
  · rw [upd_ne hx.2.2.symm, upd_ne hx.2.1.symm, upd_ne hx.1.symm]
    exact w.xx o h
theorem sqt_mut {K : PySem.W.Frag} {H : Hp} {a t : Addr} {fv fv2 xs : List V} (h1 : H a = some (.lst fv)) (h : SqT K H t xs) : SqT K (upd H a (.lst fv2)) t xs := by
  rcases h with (h | ⟨o, h⟩) | h
  · refine .inl (.inl ?_)
    rw [upd_ne (fun z => by rw [z, h1] at h; cases h)]
    exact h
  · refine .inl (.inr ⟨o, ?_⟩)
    rw [upd_ne (fun z => by rw [z, h1] at h; cases h)]
    exact h
  · exact .inr h
section
variable {P : Program} {w : World} {K : PySem.W.Frag} {mg : Str → Option Value} {base : Heap}
def spInit (K : PySem.W.Frag) (C : Addr) : Sp := fun vs H Q _ => ∃ (H0 : Hp) (x dx : Addr) (v qv : V) (fb fq : Bool) (ws : List Str) (qs : List QD) (w : Str) (us : List Str) (ms : List Mk), vs = [.ref x, v, .str w, qv] ∧ Same H0 H ∧ H0 x = none ∧ H x = some (.ins C dx []) ∧ Dp K H0 v (netD fb ws qs) ∧ Dp K H0 qv (seqD fq ((ms.map (nmQ qs)).map PyData.str)) ∧
  NetG ws qs ∧ w ∈ ws ∧ path qs (w :: us) ms ∧ ws.length ≤ 60 ∧ qs.length ≤ 60 ∧ ms.length ≤ 100000 ∧ ∀ H', Same H0 H' → WayAt K C H' x ws qs w us ms → Q .non H'
theorem ok_Way_init {f C fF fC fS : Addr} {fd fdF fdC fdS : FuncData} {k : Nat} (F : Fun K "__init__" "Way.__init__" s_Way_init f fd) (T_Way : TWay K C)
    (G_frozen : FnOk P w K mg base CX0 k fF fdF ["thing"] (spFrozen K 5)) (g_frozen : mg "frozen" = some (.ref fF)) (F_frozen : Fun K "frozen" "frozen" s_frozen fF fdF) (b_frozen : Binds K fdF ["thing"] [])
    (G_check_worker : FnOk P w K mg base CX0 k fC fdC ["net", "worker"] (spCheck K)) (g_check_worker : mg "check_worker" = some (.ref fC)) (F_check_worker : Fun K "check_worker" "check_worker" s_check_worker fC fdC) (b_check_worker : Binds K fdC ["net", "worker"] [])
    (G_step_over : FnOk P w K mg base CX0 k fS fdS ["queue", "place"] (spStep K)) (g_step_over : mg "step_over" = some (.ref fS)) (F_step_over : Fun K "step_over" "step_over" s_step_over fS fdS) (b_step_over : Binds K fdS ["queue", "place"] [])
    (m_tuple : mg "tuple" = none) (m_enumerate : mg "enumerate" = none) : FnOk P w K mg base CX0 (k + 1) f fd ["self", "net", "start", "queues"] (spInit K C) := by
  refine F.ok sc_Way_init (fun vs H Q E h => ?_) (fun cdv A outer s0 H vs Q E hr h => ?_)
  · obtain ⟨H0, x, dx, v, qv, fb, fq, ws, qs, w, us, ms, rfl, _⟩ := h
    rfl
  · obtain ⟨H0, x, dx, v, qv, fb, fq, ws, qs, w, us, ms, rfl, s00, hx0, hx, hD, hQv, hG, hw, hp, w6, q6, m6, q⟩ := h
    have hu := hu_of hr
    refine ⟨_, (pss_cons (ps_fld (pv 0) (pe_call G_frozen hr (by rfl) g_frozen F_frozen.kp b_frozen .nil pass0 (pa_cons (pv 1) pa_nil)) rfl) 
    (pss_cons (ps_fld (pv 0) (pe_callTy call_tuple_of (by rfl) m_tuple (by decide +kernel) (pa_cons (pv 3) pa_nil)) rfl) 
    (pss_cons (ps_expr (pe_call G_check_worker hr (by rfl) g_check_worker F_check_worker.kp b_check_worker .nil pass0 (pa_cons (pe_fld (pv 0) rfl) (pa_cons (pv 2) pa_nil)))) 
    (pss_cons (ps_setDcX (ps_setDc (i := 4) (own := [("queue", 11)]) (g := gName 11) (tt := tYes) (tk := tOp (rIxF K) (tVar 11) (tC (.int 0))) rfl sc_Way_init.nd rfl rfl (swd_true rfl rfl rfl (by decide +kernel)) (pi_seq (pe_ix ix_lt (pe_fld (pv 0) rfl) pe_int (fun _ _ => rfl))) (blkOk_by (own := [("queue", 11)]) (N := sc_Way_init_N) (sc := defScope s_Way_init) (by decide +kernel)) (fun _ _ _ _ _ => pg_name (i := 11) sc_Way_init.nd rfl (Or.inl rfl)) (fun _ _ _ _ _ => pts_nil) (fun _ _ _ _ _ => (pe_ix ix_lt (pv 11) pe_int (fun _ _ => rfl))) (fun _ _ _ _ _ => (pv 11)))) 
    (pss_cons (ps_set (i := 5) sc_Way_init.nd rfl (Or.inl rfl) (pe_lst pa_nil)) 
    (pss_cons (ps_set (i := 6) sc_Way_init.nd rfl (Or.inl rfl) (pe_lst (pa_cons (pv 2) pa_nil))) 
    (pss_cons (ps_set (i := 7) sc_Way_init.nd rfl (Or.inl rfl) (pe_lst pa_nil)) 
    (pss_cons (ps_forX (ps_for PassesOwn.never rfl (pi_enumT (by rfl) m_enumerate (pa_cons (pe_fld (pv 0) rfl) pa_nil)) (pg_tup rfl (pgs_cons (pg_name (i := 8) sc_Way_init.nd rfl (Or.inl rfl)) (pgs_cons (pg_name (i := 9) sc_Way_init.nd rfl (Or.inl rfl)) pgs_nil))) 
      (pss_cons (ps_if (pt_cmp (pc_dnotin hu (pv 9) (pv 4))) (pss_one ps_no) pss_nil) 
      (pss_cons (ps_set (i := 10) sc_Way_init.nd rfl (Or.inl rfl) (pe_call G_step_over hr (by rfl) g_step_over F_step_over.kp b_step_over .nil pass0 (pa_cons (pe_dget hu (pv 4) (pv 9) (fun _ _ => rfl)) (pa_cons (pe_ix ix_list (pv 6) (pe_un un_neg pe_int) (fun _ _ => rfl)) pa_nil)))) 
      (pss_cons (ps_if (pt_cmpR op_isN (pv 10) pe_non (nomark _)) (pss_one ps_no) pss_nil) 
      (pss_cons (ps_expr (pe_bm PySem.F.plainAttrs_list PySem.F.slot_list_append PySem.F.type_list_append mt_append (pv 5) (pa_cons (pe_ix ix_lt (pv 10) pe_int (fun _ _ => rfl)) pa_nil))) 
      (pss_cons (ps_expr (pe_bm PySem.F.plainAttrs_list PySem.F.slot_list_append PySem.F.type_list_append mt_append (pv 6) (pa_cons (pe_ix ix_lt (pv 10) pe_int (fun _ _ => rfl)) pa_nil))) 
      (pss_one (ps_expr (pe_bm PySem.F.plainAttrs_list PySem.F.slot_list_append PySem.F.type_list_append mt_append (pv 7) (pa_cons (pe_ix ix_lt (pv 10) pe_int (fun _ _ => rfl)) pa_nil))))))))))) 
    (pss_cons (ps_fld (pv 0) (pe_callTy call_tuple_of (by rfl) m_tuple (by decide +kernel) (pa_cons (pv 5) pa_nil)) rfl) 
    (pss_cons (ps_fld (pv 0) (pe_callTy call_tuple_of (by rfl) m_tuple (by decide +kernel) (pa_cons (pv 6) pa_nil)) rfl) 
    (pss_one (ps_fld (pv 0) (pe_callTy call_tuple_of (by rfl) m_tuple (by decide +kernel) (pa_cons (pv 7) pa_nil)) rfl)))))))))))), ?_⟩
    have I0 : ISt H0 C x dx H [] := ⟨fun a o ha => by
      rw [cutS_out (not1 fun z => by rw [z, hx0] at ha; cases ha)]
      exact s00 _ _ ha, hx⟩
    have fin : ∀ {Hx fs}, ISt H0 C x dx Hx fs → Same H0 Hx := fun i => i.s.trans cutS_le
    refine ⟨_, rfl, v, netD fb ws qs, [x], rfl, Trk.cons Trk.nil hx, I0.s.dp hD, okD_up (net_okD w6 q6), fun H1 v1 s1 d1 => ?_⟩
    rw [frz_net] at d1
    have I1 := I0.same s1
    refine ⟨_, rfl, x, C, dx, _, rfl, I1.hx, T_Way.cl, T_Way.n1, by show 0 < 1000; decide, ?_⟩
    rw [← cut1 (x := x) (o := .ins C dx (f1 v1))] at d1
    have I2 := I1.put (fs' := f1 v1)
    rw [show upd H1 x (.ins C dx (putF ("_net" : Str) v1 [])) = upd H1 x (.ins C dx (f1 v1)) from rfl]
    generalize upd H1 x (.ins C dx (f1 v1)) = H2 at I2 d1 ⊢
    clear I0 I1 s1 hx s00
    obtain ⟨qa, qx, rfl, hqs, hqx⟩ := Dp.seq_of hQv
    have eqx := dpa_strs_of hqx
    subst eqx
    dsimp only
    refine seq_byC (fun σ H4 => σ = [some (.ref x), some v, some (.str w), some (.ref qa), none, none, none, none, none, none, none, none] ∧ ∃ v2, ISt H0 C x dx H4 (f2 v1 v2) ∧ Dp K (cutS [x] H4) v1 (netD true ws qs) ∧ Dp K (cutS [x] H4) v2 (.tuple ((ms.map (nmQ qs)).map PyData.str))) (fun σ H4 hh => ?_) (fun D' hD' => ?_)
    rotate_left
    · have put2 : ∀ H3 v2, Same H2 H3 → Dp K (cutS [x] H3) v2 (.tuple ((ms.map (nmQ qs)).map PyData.str)) → D'.nx [some (.ref x), some v, some (.str w), some (.ref qa), none, none, none, none, none, none, none, none] (upd H3 x (.ins C dx (f2 v1 v2))) := fun H3 v2 s3 d2 => hD' _ _ ⟨rfl, v2, (I2.same s3).put, by rw [cut1]; exact (cutS_mono s3).dp d1, by rw [cut1]; exact d2⟩
      refine ⟨_, rfl, ?_⟩
      have last : ∀ H3 v2, Same H2 H3 → Dp K (cutS [x] H3) v2 (.tuple ((ms.map (nmQ qs)).map PyData.str)) → ∃ a C2 dx2 fs, (V.ref x) = .ref a ∧ H3 a = some (.ins C2 dx2 fs) ∧ Cls K C2 ∧ NoAttr K C2 ("_queues" : Str) ∧ fs.length < 1000 ∧ D'.nx [some (.ref x), some v, some (.str w), some (.ref qa), none, none, none, none, none, none, none, none] (upd H3 a (.ins C2 dx2 (putF "_queues" v2 fs))) := fun H3 v2 s3 d2 =>
        ⟨x, C, dx, _, rfl, (I2.same s3).hx, T_Way.cl, T_Way.n2, Nat.lt_of_le_of_lt (f5_len (v2 := v2) (v3 := v2) (v4 := v2) (v5 := v2)).1 (by decide), put2 H3 v2 s3 d2⟩
      cases fq with
      | false =>
        refine ⟨qa, _, rfl, .inl ⟨(fin I2).sqF hqs, fun l hl => ⟨_, rfl, last _ _ (.upd hl) ?_⟩⟩⟩
        exact .tup (sqt_of (cutS_at upd_same (not1 fun z => by rw [z, I2.hx] at hl; cases hl))) dpa_strs
      | true => exact ⟨qa, _, rfl, .inr ⟨(fin I2).sqF hqs, _, rfl, last _ _ (fun _ _ e => e) (.tup (I2.s.sqF hqs) dpa_strs)⟩⟩
    obtain ⟨rfl, v2, I4, d1, d2⟩ := hh
    clear I2 hqs hqx
    obtain ⟨qb, qy, rfl, hq2, hqy⟩ := Dp.seq_of (f := true) d2
    have e := dpa_strs_of hqy
    subst e
    have hq2 : SqT K (cutS [x] H4) qb _ := hq2
    clear hqy
    obtain ⟨a0, a1, a2, xq, rfl, N4⟩ := netAt d1
    have i1 : atI [V.ref a1, V.ref a2] 1 = some (.ref a2) := atI_nat (j := 1) rfl
    have fld1 : ∀ {Hx : Hp} {Q : VK}, Same H4 Hx → Q (.ref a0) Hx → tFld K (tVar 0) ("_net" : Str) [some (.ref x), some v, some (.str w), some (.ref qa), none, none, none, none, none, none, none, none] Hx Q := fun e q => ⟨_, rfl, x, C, dx, _, _, rfl, e _ _ I4.hx, T_Way.cl, T_Way.n1, f2_at.2.1, q⟩
    refine ⟨_, rfl, x, C, dx, _, _, rfl, I4.hx, T_Way.cl, T_Way.n1, f2_at.2.1, ?_⟩
    refine ⟨_, rfl, .ref a0, true, ws, qs, w, rfl, cutS_le.dp d1, hw, ?_⟩
    obtain ⟨als, rfl, hal⟩ := refs_of N4.ll N4.hq
    refine asg_of0 ?_
    refine dc_rows (K := K) (als := als) (qs := qs) hal (by omega) hG.nn (fun R' r => fld1 (fun _ _ e => e) (rIxF_at (cutS_le.sqF N4.h0) i1 r)) (cutS_le.sqF N4.h2) (fun i v h => by
      obtain ⟨q, a, e1, e2, e3⟩ := N4.hq i v h
      exact ⟨q, a, e1, e2, cutS_le.sqF e3⟩) (fun _ => rfl) (fun _ => rfl) (fun D H5 s5 hD0 hD5 => ?_)
    have I5 := I4.same s5
    have s45 := cutS_mono (S := [x]) s5
    replace d1 := s45.dp d1
    replace d2 := s45.dp d2
    replace hq2 := s45.sqT hq2
    have N5 := N4.same s45
    have nD : D ≠ x := fun z => by
      rw [z, I5.hx] at hD5
      cases hD5
    have hDc : cutS [x] H5 D = some (.dK (kvl (qs.map QD.nm) als)) := cutS_at hD5 (not1 nD)
    clear I4 N4 fld1 s45 s5 hD0 hD5
    dsimp only [List.set]
    walk_at "ev"
    intro ls hls
    walk_at "ev"
    intro lw hlw
    walk_at "ev"
    intro lc hlc
    have n1 : lw ≠ ls := fun z => by
      rw [z, upd_same] at hlw
      cases hlw
    have n2 : lc ≠ lw := fun z => by
      rw [z, upd_same] at hlc
      cases hlc
    rw [upd_ne n1] at hlw
    have n3 : lc ≠ ls := fun z => by
      rw [upd_ne n2, z, upd_same] at hlc
      cases hlc
    rw [upd_ne n2, upd_ne n3] at hlc
    have nx : ∀ a, H5 a = none → a ≠ x := fun a h z => by
      rw [z, I5.hx] at h
      cases h
    have w0 : WSI K H5 ls lw lc x qs (w :: us) ms 0 (upd (upd (upd H5 ls (.lst [])) lw (.lst [V.str w])) lc (.lst [])) [] := by
      have up : ∀ b o, H5 b = some o → (upd (upd (upd H5 ls (.lst [])) lw (.lst [V.str w])) lc (.lst [])) b = some o := fun b o h => by
        rw [upd_ne (ne_of_none h hlc), upd_ne (ne_of_none h hlw), upd_ne (ne_of_none h hls)]
        exact h
      refine ⟨?_, ?_, upd_same, .nil, fun b o h => ?_, fun o h => up x o h⟩
      · rw [upd_ne n3.symm, upd_ne n1.symm]
        exact upd_same
      · rw [upd_ne n2.symm]
        exact upd_same
      · obtain ⟨h1, h2⟩ := cutS_some h
        rw [cutS_out (fun z => ?_)]
        · exact up b o h2
        · rcases List.mem_cons.mp z with z | z
          · rw [z, hls] at h2
            cases h2
          · rcases List.mem_cons.mp z with z | z
            · rw [z, hlw] at h2
              cases h2
            · rcases List.mem_cons.mp z with z | z
              · rw [z, hlc] at h2
                cases h2
              · exact h1 z
    generalize upd (upd (upd H5 ls (.lst [])) lw (.lst [V.str w])) lc (.lst []) = H8 at w0 ⊢
    have hpl := path_len hp
    have xd : ∀ {i Hx sv}, WSI K H5 ls lw lc x qs (w :: us) ms i Hx sv → Hx x = some (.ins C dx (f2 (.ref a0) (.ref qb))) := fun wx => wx.xx _ I5.hx
    have up : ∀ {i Hx sv}, WSI K H5 ls lw lc x qs (w :: us) ms i Hx sv → Same (cutS [x] H5) Hx := fun wx => wx.sS.trans cutS_le
    have tr4 : ∀ {i Hx sv}, WSI K H5 ls lw lc x qs (w :: us) ms i Hx sv → Trk [ls, lw, lc, x] Hx := fun wx => Trk.cons (Trk.cons (Trk.cons (Trk.cons Trk.nil (xd wx)) wx.hc) wx.hw) wx.hs
    dsimp only [gName]
    refine seq_byC (fun σ Hz => ∃ (y8 y9 y10 : Option V) (sv : List V), σ = [some (.ref x), some v, some (.str w), some (.ref qa), some (.ref D), some (.ref ls), some (.ref lw), some (.ref lc), y8, y9, y10, none] ∧ WSI K H5 ls lw lc x qs (w :: us) ms ms.length Hz sv) (fun σ Hz hh => ?_) (fun D' hD' => ?_)
    rotate_left
    · refine for_of ?_
      refine ⟨_, rfl, x, C, dx, _, _, rfl, xd w0, T_Way.cl, T_Way.n2, f2_at.2.2, ?_⟩
      refine ⟨qb, _, rfl, (up w0).sqT hq2, ?_⟩
      refine forR_it (walk_enumT (K := K) (a := qb) (xs := (ms.map (nmQ qs)).map V.str)) (fun i σ Hc => ∃ (y8 y9 y10 : Option V) (sv : List V), σ = [some (.ref x), some v, some (.str w), some (.ref qa), some (.ref D), some (.ref ls), some (.ref lw), some (.ref lc), y8, y9, y10, none] ∧ WSI K H5 ls lw lc x qs (w :: us) ms i Hc sv) ⟨_, _, _, _, rfl, w0⟩ (fun i σ Hc _ hh => ?_) (fun i vv σ Hc Hc' hi hh y => ?_) (fun σ Hc hh => ?_)
      · obtain ⟨y8, y9, y10, sv, rfl, wx⟩ := hh
        exact (up wx).sqT hq2
      · obtain ⟨y8, y9, y10, sv, rfl, wx⟩ := hh
        obtain ⟨T, x1, x2, rfl, hTn, rfl, g1, g2⟩ := y
        cases g1
        rw [List.length_map, List.length_map] at hi
        have hm := List.getElem?_eq_getElem hi
        generalize ms[i] = m at hm
        have g2 : ((ms.map (nmQ qs)).map V.str)[i]? = some x2 := g2
        rw [List.getElem?_map, List.getElem?_map, hm] at g2
        cases g2
        obtain ⟨a, b, ha, hb, hlk⟩ := path_get hp hm
        obtain ⟨qd, hqd, hor, hnm, hmv⟩ := link_at hlk
        have hne := (hG.q1 qd (List.mem_of_getElem? hqd)).2.2
        replace hmv := hmv hne
        have sT : Same Hc (upd Hc T (.tup [.int (i : Nat), .str (nmQ qs m)])) := .upd hTn
        have hT1 : SqT K (upd Hc T (.tup [.int (i : Nat), .str (nmQ qs m)])) T [.int (i : Nat), .str (nmQ qs m)] := sqt_of upd_same
        replace wx := wx.same sT
        generalize upd Hc T (.tup [.int (i : Nat), .str (nmQ qs m)]) = Hd at wx hT1 ⊢
        refine ⟨T, _, rfl, hT1, rfl, _, _, rfl, _, _, rfl, rfl, ?_⟩
        have hDd : Hd D = some (.dK (kvl (qs.map QD.nm) als)) := up wx _ _ hDc
        have hal2 : als[m.1]? = some als[m.1]! := by
          have : m.1 < als.length := by rw [hal]; exact (List.getElem?_eq_some_iff.mp hqd).1
          rw [List.getElem?_eq_getElem this, getElem!_pos als m.1 this]
        generalize als[m.1]! = aq at hal2
        have dg : DGet Hd D (.str (nmQ qs m)) (some (.ref aq)) := by
          rw [hnm]
          exact dget_kvl hG.nn (by rw [List.getElem?_map, hqd]; rfl) hal2 hDd
        have hrow : SqT K (cutS [x] H5) aq [.str qd.nm, .str qd.st, .str qd.en, .int qd.room, .int qd.gap] := by
          obtain ⟨q', a', e1, e2, e3⟩ := N5.hq m.1 (.ref aq) (by rw [List.getElem?_map, hal2]; rfl)
          rw [hqd] at e1
          cases e1
          cases e2
          exact e3
        refine ⟨_, rfl, _, rfl, D, _, rfl, dg, ?_⟩
        refine ⟨_, rfl, iteF ?_⟩
        have hal3 : ((w :: us).take (i + 1)).length = i + 1 := by rw [List.length_take]; omega
        have hat : atI (((w :: us).take (i + 1)).map V.str) (-1) = some (.str a) := atI_end (by rw [List.length_map, hal3]; omega) (by rw [List.length_map, hal3, List.getElem?_map, List.getElem?_take_of_lt (by omega), show i + 1 - 1 = i by omega, ha]; rfl)
        refine ⟨_, rfl, _, rfl, D, _, rfl, dg, ?_⟩
        walk_at "ev"
        refine ⟨lw, _, _, _, rfl, rfl, sql_of wx.hw, hat, ?_⟩
        refine ⟨aq, true, qd.nm, qd.st, qd.en, qd.room, qd.gap, a, [ls, lw, lc, x], rfl, (up wx).sqT hrow, tr4 wx, hne, hor, fun H9 mv s9 d9 => ?_⟩
        rw [hmv] at d9
        obtain ⟨t, xt, rfl, hts, hta⟩ := Dp.seq_of (f := true) d9
        have hts : SqT K H9 t xt := cutS_le.sqT hts
        cases hta with
        | cons k1 hta =>
          cases hta with
          | cons k2 hta =>
            cases hta with
            | cons k3 hta =>
              cases hta
              cases k2
              cases k3
              have w9 := wx.same s9
              have lsv := dpa_len w9.ds
              rw [List.length_map, List.length_take] at lsv
              have hx3 : ls ≠ x ∧ lw ≠ x ∧ lc ≠ x := ⟨nx _ hls, nx _ hlw, nx _ hlc⟩
              walk_at "ev"
              refine ⟨.inl ⟨rfl, _, sql_of w9.hs⟩, ?_⟩
              refine ⟨_, rfl, rIxF_at (f := true) hts (atI_nat (j := 0) rfl) ?_⟩
              refine ⟨ls, _, _, rfl, rfl, w9.hs, szL (by omega), ?_⟩
              have na : ∀ {o : HO}, (upd H9 ls o) lw = some (.lst (((w :: us).take (i + 1)).map V.str)) := fun {o} => by rw [upd_ne n1]; exact w9.hw
              refine ⟨_, rfl, .inl ⟨rfl, _, sql_of na⟩, ?_⟩
              refine ⟨_, rfl, rIxF_at (f := true) (sqt_mut w9.hs hts) (atI_nat (j := 1) rfl) ?_⟩
              refine ⟨lw, _, _, rfl, rfl, na, szL (by rw [List.length_map, hal3]; omega), ?_⟩
              have nb : ∀ {o o' : HO}, (upd (upd H9 ls o) lw o') lc = some (.lst (((ms.take i).map (prQ qs)).map V.int)) := fun {o o'} => by rw [upd_ne n2, upd_ne n3]; exact w9.hc
              refine ⟨_, rfl, .inl ⟨rfl, _, sql_of nb⟩, ?_⟩
              refine ⟨_, rfl, rIxF_at (f := true) (sqt_mut na (sqt_mut w9.hs hts)) (atI_nat (j := 2) rfl) ?_⟩
              refine ⟨lc, _, _, rfl, rfl, nb, szL (by rw [List.length_map, List.length_map, List.length_take]; omega), ?_⟩
              exact ⟨_, _, _, _, rfl, w9.next n1 n2 n3 hx3 hm hb k1⟩
      · obtain ⟨y8, y9, y10, sv, rfl, wx⟩ := hh
        rw [List.length_map, List.length_map] at wx
        exact hD' _ _ ⟨_, _, _, sv, rfl, wx⟩
    obtain ⟨y8, y9, y10, sv, rfl, wx⟩ := hh
    have hxx := xd wx
    refine ⟨_, rfl, ls, _, rfl, .inl ⟨sql_of wx.hs, fun p1 hp1 => ?_⟩⟩
    have wy := wx.same (.upd (o := .tup sv) hp1)
    have e1 : (upd Hz p1 (.tup sv)) p1 = some (.tup sv) := upd_same
    have d3 : DpAll K (cutS [ls, lw, lc, x] (upd Hz p1 (.tup sv))) sv ((ms.take ms.length).map (stD qs)) := wy.ds
    have c1 : cutS [ls, lw, lc, x] (upd Hz p1 (.tup sv)) p1 = some (.tup sv) := cutS_new (tr4 wx) hp1
    generalize upd Hz p1 (.tup sv) = Ha at wy e1 d3 c1 ⊢
    have lx : lw ≠ x ∧ lc ≠ x := ⟨nx _ hlw, nx _ hlc⟩
    have cu : ∀ {H : Hp} {o : HO}, cutS [ls, lw, lc, x] (upd H x o) = cutS [ls, lw, lc, x] H := cutS_upd (by simp)
    refine ⟨_, rfl, x, C, dx, _, rfl, xd wy, T_Way.cl, T_Way.n3, Nat.lt_of_le_of_lt (f5_len (v3 := V.non) (v4 := V.non) (v5 := V.non)).2.1 (by decide), ?_⟩
    have b1 : ∀ {o : HO}, (upd Ha x o) lw = some (.lst (((w :: us).take (ms.length + 1)).map V.str)) := fun {o} => by rw [upd_ne lx.1]; exact wy.hw
    have b2 : ∀ {o : HO}, (upd Ha x o) lc = some (.lst (((ms.take ms.length).map (prQ qs)).map V.int)) := fun {o} => by rw [upd_ne lx.2]; exact wy.hc
    have b3 : (upd Ha x (.ins C dx (f3 (.ref a0) (.ref qb) (.ref p1)))) x = some (.ins C dx (f3 (.ref a0) (.ref qb) (.ref p1))) := upd_same
    have b1 := b1 (o := .ins C dx (f3 (.ref a0) (.ref qb) (.ref p1)))
    have b2 := b2 (o := .ins C dx (f3 (.ref a0) (.ref qb) (.ref p1)))
    have b4 := wy.sS
    rw [← cu (o := .ins C dx (f3 (.ref a0) (.ref qb) (.ref p1)))] at b4 d3 c1
    have b5 : Trk [ls, lw, lc, x] (upd Ha x (.ins C dx (f3 (.ref a0) (.ref qb) (.ref p1)))) := (tr4 wy).upd
    rw [show upd Ha x (.ins C dx (putF ("_steps" : Str) (V.ref p1) (f2 (.ref a0) (.ref qb)))) = upd Ha x (.ins C dx (f3 (.ref a0) (.ref qb) (.ref p1))) from rfl]
    generalize upd Ha x (.ins C dx (f3 (.ref a0) (.ref qb) (.ref p1))) = Hb at b1 b2 b3 b4 b5 d3 c1 ⊢
    refine ⟨_, rfl, lw, _, rfl, .inl ⟨sql_of b1, fun p2 hp2 => ?_⟩⟩
    have eW : (w :: us).take (ms.length + 1) = w :: us := List.take_of_length_le (by omega)
    rw [eW]
    have s2 : Same Hb (upd Hb p2 (.tup ((w :: us).map V.str))) := .upd hp2
    have c2 : cutS [ls, lw, lc, x] (upd Hb p2 (.tup ((w :: us).map V.str))) p2 = some (.tup ((w :: us).map V.str)) := cutS_new b5 hp2
    generalize upd Hb p2 (.tup ((w :: us).map V.str)) = Hc at s2 c2 ⊢
    have s2c := cutS_mono (S := [ls, lw, lc, x]) s2
    refine ⟨_, rfl, x, C, dx, _, rfl, s2 _ _ b3, T_Way.cl, T_Way.n4, Nat.lt_of_le_of_lt (f5_len (v4 := V.non) (v5 := V.non)).2.2.1 (by decide), ?_⟩
    rw [show upd Hc x (.ins C dx (putF ("_workers" : Str) (V.ref p2) (f3 (.ref a0) (.ref qb) (.ref p1)))) = upd Hc x (.ins C dx (f4 (.ref a0) (.ref qb) (.ref p1) (.ref p2))) from rfl]
    have h2 : (upd Hc x (.ins C dx (f4 (.ref a0) (.ref qb) (.ref p1) (.ref p2)))) lc = _ := (upd_ne lx.2).trans (s2 _ _ b2)
    have h3 : (upd Hc x (.ins C dx (f4 (.ref a0) (.ref qb) (.ref p1) (.ref p2)))) x = some (.ins C dx (f4 (.ref a0) (.ref qb) (.ref p1) (.ref p2))) := upd_same
    have h5 : Trk [ls, lw, lc, x] (upd Hc x (.ins C dx (f4 (.ref a0) (.ref qb) (.ref p1) (.ref p2)))) := (b5.mono s2).upd
    rw [← cu (o := .ins C dx (f4 (.ref a0) (.ref qb) (.ref p1) (.ref p2)))] at c2
    replace s2c : Same (cutS [ls, lw, lc, x] Hb) (cutS [ls, lw, lc, x] (upd Hc x (.ins C dx (f4 (.ref a0) (.ref qb) (.ref p1) (.ref p2))))) := by
      rw [cu]
      exact s2c
    generalize upd Hc x (.ins C dx (f4 (.ref a0) (.ref qb) (.ref p1) (.ref p2))) = Hd at h2 h3 h5 c2 s2c ⊢
    refine ⟨_, rfl, lc, _, rfl, .inl ⟨sql_of h2, fun p3 hp3 => ?_⟩⟩
    rw [List.take_length]
    have s3 : Same Hd (upd Hd p3 (.tup ((ms.map (prQ qs)).map V.int))) := .upd hp3
    have c3 : cutS [ls, lw, lc, x] (upd Hd p3 (.tup ((ms.map (prQ qs)).map V.int))) p3 = some (.tup ((ms.map (prQ qs)).map V.int)) := cutS_new h5 hp3
    generalize upd Hd p3 (.tup ((ms.map (prQ qs)).map V.int)) = He at s3 c3 ⊢
    have s3c := cutS_mono (S := [ls, lw, lc, x]) s3
    refine ⟨_, rfl, x, C, dx, _, rfl, s3 _ _ h3, T_Way.cl, T_Way.n5, Nat.lt_of_le_of_lt (f5_len (v5 := V.non)).2.2.2.1 (by decide), ?_⟩
    rw [show upd He x (.ins C dx (putF ("_costs" : Str) (V.ref p3) (f4 (.ref a0) (.ref qb) (.ref p1) (.ref p2)))) = upd He x (.ins C dx (f5 (.ref a0) (.ref qb) (.ref p1) (.ref p2) (.ref p3))) from rfl]
    have k3 : (upd He x (.ins C dx (f5 (.ref a0) (.ref qb) (.ref p1) (.ref p2) (.ref p3)))) x = some (.ins C dx (f5 (.ref a0) (.ref qb) (.ref p1) (.ref p2) (.ref p3))) := upd_same
    rw [← cu (o := .ins C dx (f5 (.ref a0) (.ref qb) (.ref p1) (.ref p2) (.ref p3)))] at c3
    replace s3c : Same (cutS [ls, lw, lc, x] Hd) (cutS [ls, lw, lc, x] (upd He x (.ins C dx (f5 (.ref a0) (.ref qb) (.ref p1) (.ref p2) (.ref p3))))) := by
      rw [cu]
      exact s3c
    generalize upd He x (.ins C dx (f5 (.ref a0) (.ref qb) (.ref p1) (.ref p2) (.ref p3))) = Hf at k3 c3 s3c ⊢
    have sbd := s2c.trans s3c
    have sxf : Same (cutS [x] H5) Hf := (b4.trans sbd).trans cutS_le
    rw [List.take_length] at d3
    refine q Hf (fun a o h => sxf _ _ (I5.s _ _ h)) ⟨dx, _, _, _, _, _, k3, sxf.dp d1, sxf.dp d2, ?_, ?_, ?_⟩
    · exact .tup (sqt_of (cutS_le _ _ (sbd _ _ c1))) (cutS_le.dpa (sbd.dpa d3))
    · exact .tup (sqt_of (cutS_le _ _ (s3c _ _ c2))) dpa_strs
    · exact .tup (sqt_of (cutS_le _ _ c3)) (by
        have : ∀ (H : Hp) (is : List Int), DpAll K H (is.map V.int) (is.map PyData.int) := fun H is => by
          induction is with
          | nil => exact .nil
          | cons i is ih => exact .cons (.int i) ih
        exact this _ _)
end
end Jl

set_option linter.all false
set_option maxRecDepth 100000
set_option maxHeartbeats 1000000
set_option pp.maxSteps 900
namespace Jl
open PySem PySem.Spec PyProof.Rows L2
open Evl (sz_of sz_lt)
section
open HT
variable {prog : Program} {w : World} {A : Around} {E : Value → Shared → Prop} {s : Shared}
theorem places_rev (n : Nat) : Builtin.Slice.slicePlaces ((n : Int) - 1) (-1) (-1) = n := by
  unfold Builtin.Slice.slicePlaces
  rw [if_neg (by decide)]
  by_cases h : (n : Int) - 1 > -1
  · rw [if_pos h, show (-(-1) : Int) = 1 from rfl, Int.ediv_one]
    omega
  · rw [if_neg h]
    omega
theorem sliceApplied_rev {sl : Addr} {vs : Value} {n : Nat} {Q : Int × Int × Nat → Shared → Prop} (hs : s.heap.IsSliceOf sl .none .none vs) (ps : IsPart vs (some (-1)))
    (h : Q ((n : Int) - 1, -1, n) s) : wpAny (model prog w) A (Builtin.Slice.sliceApplied (.ref sl) (pure (n : Int))) Q E s := by
  obtain ⟨os, hos, hcs, hds⟩ := id hs
  unfold Builtin.Slice.sliceApplied Builtin.Slice.sliceFields
  refine wpAny_bind (wpAny_bind (wpAny_field hos hds (x := .none) rfl (wpAny_bind (wpAny_field hos hds (x := .none) rfl (wpAny_bind (wpAny_field hos hds (x := vs) rfl (wpAny_pure ?_)))))))
  refine wpAny_bind (slicePart_ ps ?_)
  show wpAny _ _ (if ((-1 : Int) == 0) = true then _ else _) _ _ s
  rw [if_neg (by decide)]
  refine wpAny_bind (slicePart_none (wpAny_bind (slicePart_none (wpAny_bind (wpAny_pure ?_)))))
  show wpAny _ _ (pure ((n : Int) - 1, (-1 : Int), Builtin.Slice.slicePlaces ((n : Int) - 1) (-1) (-1))) _ _ s
  rw [places_rev]
  exact wpAny_pure h
theorem pick_rev (xs : Array Value) : ((List.range xs.size).filterMap fun (m : Nat) => xs[(((xs.size : Nat) : Int) - 1 + (m : Int) * (-1)).toNat]?).toArray = xs.toList.reverse.toArray := by
  congr 1
  have e : (fun (m : Nat) => xs[(((xs.size : Nat) : Int) - 1 + (m : Int) * (-1)).toNat]?) = (fun (i : Nat) => xs[i]?) ∘ fun (m : Nat) => (((xs.size : Nat) : Int) - 1 + (m : Int) * (-1)).toNat := rfl
  rw [e, ← List.filterMap_map]
  have e2 : (List.range xs.size).map (fun (m : Nat) => (((xs.size : Nat) : Int) - 1 + (m : Int) * (-1)).toNat) = (List.range xs.size).map fun k => xs.size - 1 - k := List.map_congr_left fun k hk => by omega
  rw [e2]
  have e3 := PySem.W.krv_range xs.size
  rw [e3, List.filterMap_reverse, PySem.W.krv_all]
theorem getItem_tuple_rev {t sl : Addr} {items : Array Value} {vs : Value} {Q : Value → Shared → Prop} (ht : IsTup s.heap t items) (hs : s.heap.IsSliceOf sl .none .none vs) (ps : IsPart vs (some (-1)))
    (h : Q (.ref s.heap.objs.size) { s with heap := s.heap.push { cls := .type "tuple", data := .seq items.toList.reverse.toArray } })
    (hsz : items.size ≤ sizeLine) : wpAny (model prog w) A (getItem (.ref t) (.ref sl)) Q E s := by
  have htake : sizeOk (.seq items.toList.reverse.toArray) := by
    show items.toList.reverse.toArray.size ≤ sizeLine
    rw [List.size_toArray, List.length_reverse, Array.length_toList]
    exact hsz
  obtain ⟨os, hos, hcs, hds⟩ := id hs
  have hTs : s.TypeIs (.ref sl) "slice" := ⟨os, hos, hcs⟩
  unfold getItem
  try with_reducible refine wpAny_holding ?_
  first | refine wpAny_bind (wpAny_pure ?_) | skip
  refine wpAny_bind (wpAny_sequenceKey ht.typeIs (by decide) ?_)
  refine wpAny_bind (wpAny_callSpecial?_slot (name := Str.ofString "__getitem__") ht.typeIs PyProof.Rows.slot_tuple_getitem
    (wpAny_call_entry PyProof.Rows.slot_tuple_getitem ht.typeIs entry_tuple_getitem ?_ (args_tuple_getitem _ _)))
  show wpAny _ _ (Builtin.Tuple.tupleItemsOf (.ref t) >>= _) _ _ s
  refine wpAny_bind (tupleItemsOf_ ht ?_)
  refine wpAny_bind (wpAny_typeOf hTs ?_)
  rw [if_pos (by decide)]
  refine wpAny_bind (sliceApplied_rev hs ps ?_)
  have hno : ¬ (((((items.size : Nat) : Int) - 1) == 0 && (-1 : Int) == 1 && items.size == items.size) = true) := by
    intro q
    rw [Bool.and_eq_true, Bool.and_eq_true] at q
    exact absurd q.1.2 (by decide)
  show wpAny _ _ (if ((((items.size : Nat) : Int) - 1) == 0 && (-1 : Int) == 1 && items.size == items.size) = true then _ else _) _ _ s
  rw [if_neg hno, pick_rev]
  first
    | exact wpAny_bind (m := Builtin.Tuple.tupleExact _) (wpAny_newObj_type (wpAny_pure ⟨_, rfl, wpAny_pure h⟩) htake)
    | exact wpAny_bind (m := Builtin.Tuple.tupleExact _) (wpAny_newObj_type (wpAny_bind (wpAny_pure (wpAny_pure ⟨_, rfl, wpAny_pure h⟩))) htake)
    | exact wpAny_bind (wpAny_bind (m := Builtin.Tuple.tupleExact _) (wpAny_newObj_type (wpAny_pure (wpAny_pure ⟨_, rfl, wpAny_pure h⟩)) htake))
    | exact wpAny_bind (wpAny_bind (m := Builtin.Tuple.tupleExact _) (wpAny_newObj_type (wpAny_pure ⟨_, rfl, wpAny_pure h⟩) htake))
end
section
variable {X : Cx}
def tRevT (K : PySem.W.Frag) (te : TE) : TE := fun σ H Q => te σ H fun x H1 => ∃ a xs, x = .ref a ∧ SqT K H1 a xs ∧ ∀ p, H1 p = none → Q (.ref p) (upd H1 p (.tup xs.reverse))
theorem pe_revT {e : Expr} {te : TE} {k : Nat} {p1 p2 p3 pos : Pos} (he : PE X e te) : PE X (.Subscript e (.Slice none none (some (.UnaryOp .USub (.Constant (.int 1) k p1) p2)) p3) pos) (tRevT X.K te) := by
  refine ⟨fun pins s σ H Q I h => ?_⟩
  refine Subscript_ (thn (he.run pins s σ H _ I h) fun v s1 ⟨x, H1, I1, r1, q1⟩ => ?_)
  obtain ⟨a, xs, ex, hx, q⟩ := q1
  subst ex
  cases r1
  have hst : PO X (some (.UnaryOp .USub (.Constant (.int 1) k p1) p2)) (tPart (tUn (rU fun i => .int (-i)) (tC (.int 1)))) := po_some (pe_un un_neg pe_int)
  refine wpAny_Slice (thn (po_none.run pins s1 σ H1 (fun o H2 => o = none ∧ H2 = H1) I1 ⟨rfl, rfl⟩) fun vl s2 ⟨l, H2, I2, pl, el, e2⟩ => ?_)
  subst el e2
  refine thn (po_none.run pins s2 σ H2 (fun o H3 => o = none ∧ H3 = H2) I2 ⟨rfl, rfl⟩) fun vu s3 ⟨u, H3, I3, pu, eu, e3⟩ => ?_
  subst eu e3
  refine thn (hst.run pins s3 σ H3 (fun o H4 => o = some (-1) ∧ H4 = H3) I3 ⟨1, rfl, -1, rfl, rfl, rfl⟩) fun vs s4 ⟨o, H4, I4, ps, eo, e4⟩ => ?_
  subst eo e4
  cases pl
  cases pu
  have I5 : L2.Inv X pins σ H4 { s4 with heap := s4.heap.push { cls := .type "slice", data := .fields #[.none, .none, vs] } } := I4.kept (t' := s4.toks) fun b ob q => Heap.get?_push_of_some _ q
  obtain ⟨its, r, ht, hz⟩ := I5.tuple hx
  have hlen := r.length
  show wpAny (model X.prog X.w) X.A (subscriptTail e (.Slice none none (some (.UnaryOp .USub (.Constant (.int 1) k p1) p2)) p3) (.ref a) (.ref s4.heap.objs.size)) (EP X pins σ Q) X.xe { s4 with heap := s4.heap.push { cls := .type "slice", data := .fields #[.none, .none, vs] } }
  refine tail_any (ops := [.ref a, .ref s4.heap.objs.size]) ht.typeIs PyProof.Rows.slot_tuple_getitem.lookup ?_ (by with_unfolding_all rfl)
  refine getItem_tuple_rev ht (Heap.IsSliceOf.new _ .none .none vs) ps ?_ (by rw [List.size_toArray]; omega)
  refine ⟨.ref _, _, I5.laid (t' := s4.toks) (o := .tup xs.reverse) (fun b ob q => Heap.get?_push_of_some _ q) (Nat.le_refl _) ?_, rfl, q _ (I5.hok.fresh (Nat.le_refl _))⟩
  exact ⟨by rw [List.length_reverse]; exact hz, _, r.reverse, IsTup.new _ _⟩
end
/-! ### operators that an own class defines -/
section
variable {X : Cx} {CX : CXT} {C f : Addr} {fd : FuncData} {ps : List Str} {k : Nat} {sp : Sp}
/-- x op y, both of the class at C -/
def rOwn (C : Addr) (sp : Sp) : R2 := fun x y H Q => ∃ (a dx : Addr) (fs : List (Str × V)) (b dy : Addr) (gs : List (Str × V)), x = .ref a ∧ y = .ref b ∧ H a = some (.ins C dx fs) ∧ H b = some (.ins C dy gs) ∧ sp [x, y] H (fun v H' => (∃ c, v = .ref c) ∧ Q v H') E0
def rOwnI (C : Addr) (sp : Sp) : R2 := fun x y H Q => ∃ (a dx : Addr) (fs : List (Str × V)) (i : Int), x = .ref a ∧ y = .int i ∧ H a = some (.ins C dx fs) ∧ sp [x, y] H (fun v H' => (∃ c, v = .ref c) ∧ Q v H') E0
def rOwn1 (C : Addr) (sp : Sp) : V → Hp → VK → Prop := fun x H Q => ∃ (a dx : Addr) (fs : List (Str × V)), x = .ref a ∧ H a = some (.ins C dx fs) ∧ sp [x] H Q E0
theorem back_ref {pins : List (Addr × Obj)} {σ : L2.St} {Q : VK} {v : Value} {s : Shared} (h : EP X pins σ (fun v H' => (∃ c, v = .ref c) ∧ Q v H') v s) : PySem.W.CmpBack (EP X pins σ Q) v s := by
  obtain ⟨z, H', I', rz, ⟨c, rfl⟩, q⟩ := h
  obtain rfl : v = Value.ref c := rz
  exact ⟨.ref c, H', I', rfl, q⟩
theorem op_own {op : Operator} (F : FnOk X.prog X.w X.K X.mg X.base CX k f fd ps sp) (hr : Room k X.A) (hs : Meth X.K C (PySem.dunder op.info.2) f) (hc : PySem.W.selfFirst X.K C = true) (hb : Binds X.K fd ps []) (hx : Passes CX X E0) : OpR X (binaryOp op) (rOwn C sp) := by
  intro pins s σ H x y v u Q I rx ry h
  obtain ⟨a, dx, fs, b, dy, gs, rfl, rfl, ha, hb', q⟩ := h
  cases rx
  cases ry
  obtain ⟨mA, J, _⟩ := ins_get I.hok ha
  obtain ⟨mB, J', _⟩ := ins_get I.hok hb'
  obtain ⟨od, J, _⟩ := J.look
  obtain ⟨od', J', _⟩ := J'.look
  obtain ⟨m, hF⟩ := I.fr
  refine PySem.W.binop_K (op := op) hF I.ok.mod.kin J J'.type hc hs.at_ hs.fn ?_
  exact wpAny_mono (run_fn (us := [.ref a, .ref b]) (vs := [.ref a, .ref b]) F hr hb .nil hx I (.cons rfl (.cons rfl .nil)) q) (fun _ _ z => back_ref z) fun _ _ z => z
theorem op_ownI {op : Operator} {fo ro : Option Value} (F : FnOk X.prog X.w X.K X.mg X.base CX k f fd ps sp) (hr : Room k X.A) (hs : Meth X.K C (PySem.dunder op.info.2) f) (hc : PySem.W.selfFirst X.K C = true) (hrc : PySem.W.findIn X.K (.ref C) (dunderR op.info.2) = some none)
    (h1 : PySem.W.findIn X.K (.type "int") (PySem.dunder op.info.2) = some fo) (h2 : PySem.W.findIn X.K (.type "int") (dunderR op.info.2) = some ro) (hsub : PySem.W.subIn X.K (.type "int") (.ref C) = some false) (hb : Binds X.K fd ps []) (hx : Passes CX X E0) : OpR X (binaryOp op) (rOwnI C sp) := by
  intro pins s σ H x y v u Q I rx ry h
  obtain ⟨a, dx, fs, i, rfl, rfl, ha, q⟩ := h
  cases rx
  obtain ⟨t, rfl⟩ := ry
  obtain ⟨mA, J, _⟩ := ins_get I.hok ha
  obtain ⟨od, J, _⟩ := J.look
  obtain ⟨m, hF⟩ := I.fr
  refine PySem.W.ksp_binT (op := op) (T := "int") hF I.ok.mod.kin J rfl hc hs.at_ hs.fn hrc (.inl rfl) h1 h2 hsub ?_
  exact wpAny_mono (run_fn (us := [.ref a, .int i t]) (vs := [.ref a, .int i]) F hr hb .nil hx I (.cons rfl (.cons ⟨t, rfl⟩ .nil)) q) (fun _ _ z => back_ref z) fun _ _ z => z
theorem un_own (F : FnOk X.prog X.w X.K X.mg X.base CX k f fd ps sp) (hr : Room k X.A) (hs : Meth X.K C "__neg__" f) (hb : Binds X.K fd ps []) (hx : Passes CX X E0) : UnR X (unaryOp .USub) (rOwn1 C sp) := by
  intro pins s σ H x v Q I rx h
  obtain ⟨a, dx, fs, rfl, ha, q⟩ := h
  cases rx
  obtain ⟨mA, J, _⟩ := ins_get I.hok ha
  obtain ⟨od, J, _⟩ := J.look
  obtain ⟨m, hF⟩ := I.fr
  refine PySem.W.ksp_neg hF I.ok.mod.kin J hs.at_ hs.fn ?_
  exact run_fn (us := [.ref a]) (vs := [.ref a]) F hr hb .nil hx I (.cons rfl .nil) q
end
end Jl

set_option linter.all false
set_option maxRecDepth 100000
set_option maxHeartbeats 1000000
set_option pp.maxSteps 900
namespace Jl
open PySem PySem.Spec PyProof.Rows L2
open Evl (sz_of sz_lt)
/-! ### tuple * int, any small int -/
section
open AutoSeq1 (wpAny_loadPart')
theorem tuple_mul1 (l : Addr) (items : Array Value) (n : Nat) (dd : Option Addr) (sl : Array (Option Value)) (u : Tok) (hne : items.isEmpty = false) :
    Meets (Builtin.«tuple.__mul__» ⟨[.ref l, .int 1 u], []⟩) (fun _ R s => s.heap.get? l = some { cls := .type "tuple", dict := dd, data := .seq items n, slots := sl } ∧ R (.ok (.ret (Value.ref l))) s) :=
  .of_wp fun prog w A R s h => by
    obtain ⟨hp, g, d, tk, os⟩ := s
    obtain ⟨hl, h⟩ := h
    have f1 := AutoSeq1.idx_int
    wp_walk using wpAny_loadPart' hl
    repeat (first
      | (refine wpAny_ite_false (decide_eq_false (by decide)) ?_; wp_walk using wpAny_loadPart' hl)
      | (refine wpAny_ite_true (decide_eq_true (by simp)) ?_; wp_walk using wpAny_loadPart' hl))
    exact ⟨_, rfl, h⟩
theorem tuple_mul0 (l : Addr) (items : Array Value) (n : Nat) (dd : Option Addr) (sl : Array (Option Value)) (x : Int) (u : Tok) (c0 : (decide (x < -(2 ^ 63)) || decide (x ≥ 2 ^ 63)) = false) (c1 : (items.isEmpty || x == 1) = false) (c2 : (decide (x ≤ 0) || items.isEmpty) = true) :
    Meets (Builtin.«tuple.__mul__» ⟨[.ref l, .int x u], []⟩) (fun _ R s => s.heap.get? l = some { cls := .type "tuple", dict := dd, data := .seq items n, slots := sl } ∧
      R (.ok (.ret (Value.ref s.heap.objs.size))) { s with heap := s.heap.push { cls := Value.type "tuple", data := Data.seq #[] }, toks := s.toks }) :=
  .of_wp fun prog w A R s h => by
    obtain ⟨hp, g, d, tk, os⟩ := s
    obtain ⟨hl, h⟩ := h
    have f1 := AutoSeq1.idx_int
    wp_walk using wpAny_loadPart' hl
    repeat (first
      | (refine wpAny_ite_false (decide_eq_false (by rw [c0]; exact Bool.false_ne_true)) ?_; wp_walk using wpAny_loadPart' hl)
      | (refine wpAny_ite_false (decide_eq_false (by rw [c1]; exact Bool.false_ne_true)) ?_; wp_walk using wpAny_loadPart' hl)
      | (refine wpAny_ite_true (decide_eq_true c2) ?_; wp_walk using wpAny_loadPart' hl))
    exact ⟨_, rfl, h⟩
end
/-- t * k, t not empty -/
def rRepW (K : PySem.W.Frag) : R2 := fun x y H Q => ∃ (l : Addr) (k : Int) (xs : List V), x = .ref l ∧ y = .int k ∧ SqT K H l xs ∧ xs ≠ [] ∧ -1000 ≤ k ∧ k ≤ 1000 ∧ xs.length ≤ 1000 ∧ (k = 1 → Q (.ref l) H) ∧ (k ≤ 0 → ∀ p, H p = none → Q (.ref p) (upd H p (.tup []))) ∧ (2 ≤ k → ∀ p, H p = none → Q (.ref p) (upd H p (.tup (List.replicate k.toNat xs).flatten)))
section
variable {X : Cx}
theorem op_repW : OpR X (binaryOp .Mult) (rRepW X.K) := by
  intro pins s σ H x y v u Q I rx ry h
  obtain ⟨l, k, xs, rfl, rfl, hT, hne, hlo, hhi, hz, q1, q0, q2⟩ := h
  by_cases hk2 : 2 ≤ k
  · exact op_repT pins s σ H _ _ v u Q I rx ry ⟨l, k, xs, rfl, rfl, hT, hne, hk2, hhi, hz, q2 hk2⟩
  · cases rx
    obtain ⟨t, rfl⟩ := ry
    obtain ⟨its, r, ⟨⟨cls, dd, data, sl⟩, ho, hc, n, hd⟩, hs⟩ := I.tuple hT
    simp only at hc hd
    subst hc hd
    have hle : its.length = xs.length := r.length.symm
    have hi : its.toArray.isEmpty = false := by
      cases its with
      | nil => exact absurd (List.eq_nil_of_length_eq_zero hle.symm) hne
      | cons a b => rfl
    by_cases hk1 : k = 1
    · subst hk1
      exact wpAny_binaryOp_repeat_ref (T := "tuple") (U := "int") (by decide) ⟨_, ho, rfl⟩ (fun s' => typeIs_int s' 1 t) noFill_tuple_mul F.fills_int_mul F.slot_int_rmul repeat_tuple F.slot_int_index.lookup
        (call_meets F.slot_int_rmul (typeIs_int s 1 t) F.entry_int_rmul (F.args_int_rmul_2 _ _) (int_rmul_tuple 1 t l its.toArray n dd sl)
          ⟨ho, rfl, ⟨_, ho, rfl⟩, call_meets F.slot_tuple_mul ⟨_, ho, rfl⟩ F.entry_tuple_mul (F.args_tuple_mul_2 _ _) (tuple_mul1 l its.toArray n dd sl t hi) ⟨ho, .ref l, H, I, rfl, q1 rfl⟩⟩)
    · have c0 : (decide (k < -(2 ^ 63)) || decide (k ≥ 2 ^ 63)) = false := by
        rw [decide_eq_false (by omega), decide_eq_false (by omega)] <;> rfl
      have c1 : (its.toArray.isEmpty || k == 1) = false := by
        rw [hi, Bool.false_or]
        exact beq_eq_false_iff_ne.mpr hk1
      have c2 : (decide (k ≤ 0) || its.toArray.isEmpty) = true := by
        rw [decide_eq_true (by omega)]
        rfl
      refine wpAny_binaryOp_repeat_ref (T := "tuple") (U := "int") (by decide) ⟨_, ho, rfl⟩ (fun s' => typeIs_int s' k t) noFill_tuple_mul F.fills_int_mul F.slot_int_rmul repeat_tuple F.slot_int_index.lookup
        (call_meets F.slot_int_rmul (typeIs_int s k t) F.entry_int_rmul (F.args_int_rmul_2 _ _) (int_rmul_tuple k t l its.toArray n dd sl)
          ⟨ho, rfl, ⟨_, ho, rfl⟩, call_meets F.slot_tuple_mul ⟨_, ho, rfl⟩ F.entry_tuple_mul (F.args_tuple_mul_2 _ _) (tuple_mul0 l its.toArray n dd sl k t c0 c1 c2) ⟨ho, ?_⟩⟩)
      refine ⟨.ref s.heap.objs.size, _, I.laid (t' := s.toks) (o := .tup []) (fun b ob q => Heap.get?_push_of_some _ q) (Nat.le_refl _) ?_, rfl, q0 (by omega) _ (I.hok.fresh (Nat.le_refl _))⟩
      exact ⟨Nat.zero_le _, _, .nil, IsTup.new _ _⟩
end
end Jl

set_option Elab.async false
set_option linter.all false
set_option maxRecDepth 100000
set_option maxHeartbeats 1000000
set_option pp.maxSteps 300
namespace Jl
open PySem PySem.Spec PyProof.Rows L2
open Evl (sz_of sz_lt)
local macro_rules | `(tactic| walk_at "at") => `(tactic| first | exact box0 | exact box1 | exact box2)
local macro_rules | `(tactic| walk_at "sq") => `(tactic| first | (show SqL _ _ _ _; assumption) | (show SqT _ _ _ _; assumption) | (show _ = some _; assumption))
local macro_rules | `(tactic| walk_at "side") => `(tactic| first
  | (show (0 : Int) < _; decide)
  | (show (0 : Int) < _; omega)
  | exact ⟨by decide, by decide, by decide⟩
  | exact sz_of (Nat.le_of_ble_eq_true rfl)
  | exact rfl
  | exact Or.inl (by decide)
  | exact Or.inr (by decide)
  | exact Or.inr ⟨by omega, by omega⟩
  | exact Or.inl ⟨by omega, by omega⟩
  | exact ⟨by decide, by decide +kernel⟩)
local macro_rules | `(tactic| walk_at "ev1") => `(tactic| first
  | refine ⟨_, rfl, ?_⟩
  | refine ⟨_, _, rfl, rfl, ?_⟩
  | refine ⟨_, _, _, _, rfl, rfl, (by walk_at "sq"), (by walk_at "at"), ?_⟩
  | refine ⟨_, _, rfl, (by walk_at "sq"), ?_⟩
  | refine ⟨_, _, rfl, Or.inl (by walk_at "sq"), ?_⟩
  | refine ⟨_, _, rfl, Or.inr (by walk_at "sq"), ?_⟩
  | refine Or.inl ⟨_, rfl, ?_⟩
  | refine Or.inr ⟨_, rfl, ?_⟩
  | refine ⟨(by walk_at "side"), ?_⟩
  | refine ⟨.inl ⟨rfl, _, (by walk_at "sq")⟩, ?_⟩
  | refine ⟨_, _, rfl, ?_⟩)
local macro_rules | `(tactic| walk_at "nrm") => `(tactic| dsimp only [tNil, tCons, tC, tCB])
local macro_rules | `(tactic| walk_at "ev") => `(tactic| repeat (walk_at "ev1"))
/-! ### exceptions of own classes over any built-in class: made with one field -/
section
variable {prog : Program} {w : World} {A : Around} {R : Result → Shared → Prop} {hq : Heap} {g : Array GenState} {dr : Drawn} {t0 : Nat} {os : OsState}
open PySem.W PySem.Calls PySem.HandSPX Builtin Builtin.ObjectAttr in
/-- the first field of an exception that has no dict yet -/
theorem xb_osa {K : PySem.W.Frag} {B : String} {bmB : List Value} {fn : Str} {tk : Tok} {u : Value} {x C : Addr} {fv : Array Value} {cd : ClassData} (SF : StoreFacts B bmB "object.__setattr__" "object") (hob : bmB.contains (.type "object") = true)
    (kin : K.In hq) (hx : hq.get? x = some { cls := .ref C, data := .fields fv }) (hcd : clsIn K C = some cd) (hm : excTail bmB cd.mro = true) (hne : cd.mro.isEmpty = false) (hh : cd.hasDict = true) (ha : findIn K (.ref C) fn = some none)
    (q : ∀ h' tk' dx, (∀ b o, b ≠ x → hq.get? b = some o → h'.get? b = some o) → hq.objs.size ≤ dx → dx ≠ x → h'.get? x = some { cls := .ref C, dict := some dx, data := .fields fv } → h'.Ns1 dx (fun y => if y = fn then some u else none) → R (.ok (.ret .none)) ⟨h', g, dr, tk', os⟩) :
    codeAny (model prog w) A (.call (.builtin "object.__setattr__") ⟨[.ref x, .str fn tk, u], []⟩) R ⟨hq, g, dr, t0, os⟩ := by
  have J : InstAt hq x { cls := .ref C, data := .fields fv } C none := ⟨hx, rfl, rfl, trivial⟩
  have S0 := F.store_object
  have h1 : cd.mro.contains (.type "object") = true := (excTail_contains "object" _ hm).trans hob
  have nx : x ≠ hq.objs.size := Nat.ne_of_lt (Heap.lt_size hx)
  have sb : Looks (model prog w) hq (isInstance (.ref x) (.type "object")) true := J.type.andThen (looks_mroIn kin (by unfold mroIn; rw [hcd, Option.bind_some, if_neg (by rw [hne]; decide), h1]))
  refine codeAny_call_builtin S0.slot.plain S0.entry (@check_slot (model prog w) _ _ ⟨hq, g, dr, t0, os⟩ "object.__setattr__" "object" "__setattr__" (.ref x) [.str fn tk, u] [] _ S0.kind S0.split sb (S0.args (.ref x) (.str fn tk) u) ?_)
  have lm : Looks (model prog w) hq (mroOf (.ref C)) cd.mro := (looks_clsIn kin hcd).andThen .now
  have l3 : Looks (model prog w) hq (storeTaker? none) none := .now
  have lc : Looks (model prog w) hq (classData C) cd := looks_clsIn kin hcd
  rw [osa_eq, refuse_eq]
  refine wpAny_bind (wpAny_bind (J.type.at (wpAny_bind (lm.at ?_))))
  rw [excTail_pass _ (SF.passes _) _ hm]
  refine wpAny_pure (wpAny_bind (J.type.at (wpAny_bind ((looks_findIn kin ha).at (wpAny_bind (l3.at ?_))))))
  show wpAny _ _ (Builtin.ObjectAttr.storeInOwnDict (.ref x) (.ref C) (.str fn tk) fn u false) _ _ _
  obtain ⟨nm, bs, mro, ns, qn, hd, sn, sb2, ab, col, del⟩ := cd
  dsimp only at hh
  subst hh
  unfold Builtin.ObjectAttr.storeInOwnDict Builtin.ObjectAttr.ownDictForStores
  repeat (first | with_reducible refine store_in_new ?_ ?_ | with_reducible refine wpAny_loadPart_at hx ?_ | with_reducible refine lc.at ?_ | wp_step)
  · exact ⟨_, #[], _, (Heap.get?_update_ne _ _ _ _ nx.symm).trans (Heap.get?_push_at rfl rfl), rfl, fun e he => absurd he (by simp), fun _ => rfl⟩
  · intro h' tk' hn hs
    have hx1 : (hq.push { cls := .type "dict", data := .dict #[] }).get? x = some { cls := .ref C, data := .fields fv } := Heap.get?_push_of_some _ hx
    exact q h' tk' hq.objs.size (fun b o hb ho => (hs.2 b (Nat.ne_of_lt (Heap.lt_size ho))).trans ((Heap.get?_update_ne _ _ _ _ hb).trans (Heap.get?_push_of_some _ ho))) (Nat.le_refl _) nx.symm ((hs.2 x nx).trans (Heap.get?_update_self _ hx1 rfl)) hn
end
/-- what the written part says of such a class -/
structure XcB (K : PySem.W.Frag) (C : Addr) (newId : String) (bmB : List Value) : Prop where
  ini : PySem.W.excInitIn K C bmB newId = true
  hd : PySem.W.hasDictIn K C = true
  sa : PySem.W.findIn K (.ref C) "__setattr__" = some (some (.builtin "object.__setattr__"))
  exC : PySem.W.subIn K (.ref C) (.type "BaseException") = some true
  tyC : PySem.W.typeIn K (.ref C) = some (.type "type")
  kC : PySem.W.keepIn K (.ref C) = true
theorem cls_of {K : PySem.W.Frag} {C : Addr} {newId : String} {bmB : List Value} (h : PySem.W.excInitIn K C bmB newId = true) : ∃ cd, PySem.W.clsIn K C = some cd ∧ PySem.W.excTail bmB cd.mro = true ∧ cd.mro.isEmpty = false := by
  unfold PySem.W.excInitIn at h
  split at h
  · rename_i dd cd sl ho
    refine ⟨cd, by unfold PySem.W.clsIn; rw [ho] <;> rfl, ?_⟩
    split at h
    · rename_i C' bm k0 k1 k2 k3 n k5 hm hs
      simp only [Bool.and_eq_true] at h
      rw [hm]
      exact ⟨h.2, rfl⟩
    · cases h
  · cases h
section
variable {X : Cx} {pins : List (Addr × Obj)} {σ : L2.St} {H : Hp} {s : Shared} {a C dx : Addr} {fn : Str} {y : V} {u : Value} {B newId initId : String} {bmB : List Value} {Q : Unit → Shared → Prop} {E : Value → Shared → Prop} {A : Around}
/-- self.f = y, the first field -/
theorem xb_new (SF : StoreFacts B bmB "object.__setattr__" "object") (hob : bmB.contains (.type "object") = true) (T : XcB X.K C newId bmB) (I : L2.Inv X pins σ H s) (e : H a = some (exo a C none)) (hno : PySem.W.findIn X.K (.ref C) fn = some none) (ry : RelV y u)
    (h : ∀ dx s', H dx = none → dx ≠ a → L2.Inv X pins σ (upd (upd H dx (exd dx [(fn, y)])) a (exo a C (some dx))) s' → Q () s') : wpAny (model X.prog X.w) A (setAttr (.ref a) fn u) Q E s := by
  obtain ⟨cd, hc, hm, hne⟩ := cls_of T.ini
  have hh : cd.hasDict = true := by
    have z := T.hd
    unfold PySem.W.hasDictIn at z
    rw [hc] at z
    simpa using z
  obtain ⟨t1, ho⟩ := exo_at I.hok e
  obtain ⟨hq, g, dr, t, os⟩ := s
  refine PySem.W.set_plain I.kIn (ox := { cls := .ref C, dict := none, data := .fields #[.ref t1, .none, .none, .none, .bool false, .none] }) (od := none) ⟨ho, rfl, rfl, trivial⟩ T.sa ?_
  refine xb_osa SF hob I.kIn ho hc hm hne hh hno (fun h' tk' dx k dn dne hx hn => ?_)
  have nd0 : H dx = none := I.hok.fresh dn
  have nb : ∀ {b : Addr} {o : Obj}, hq.get? b = some o → b ≠ dx := fun {b o} z => Nat.ne_of_lt (Nat.lt_of_lt_of_le (Heap.lt_size z) dn)
  have na : ∀ {b : Addr}, H b = none → b ≠ a := fun {b} n z => by
    rw [z, e] at n
    cases n
  have u1 : Un X.fs [] H (upd (upd H dx (exd dx [(fn, y)])) a (exo a C (some dx))) hq h' :=
    ⟨fun b o z n _ _ => k b o (na n) z, fun b o z n _ _ => ⟨o.slots, k b o (na n) z⟩, fun b o z n _ => by rw [upd_ne (na n), upd_ne (nb z)]; exact n, fun b o z _ => by
      by_cases hb : b = a
      · exact ⟨_, by rw [hb]; exact hx⟩
      · exact ⟨o, k b o hb z⟩, fun b xs z => by rw [upd_ne (at_ne e z exo_tup), upd_ne (ne_of_none z nd0)]; exact z, fun b o v z => by rw [upd_ne (at_ne e z exo_frz), upd_ne (ne_of_none z nd0)]; exact z,
      fun b ps z => ⟨#[], by rw [upd_ne (at_ne e z exo_tbl), upd_ne (ne_of_none z nd0), z]; simp⟩⟩
  refine h dx _ nd0 dne (I.un (t' := tk') u1 fun b o z => ?_)
  by_cases hb : b = a
  · subst hb
    rw [upd_same] at z
    cases z
    exact exo_ok hx
  · rw [upd_ne hb] at z
    by_cases hd : b = dx
    · subst hd
      rw [upd_same] at z
      cases z
      exact exd_ok hn (relO_put (fs := []) ry fun g => True.intro)
    · rw [upd_ne hd] at z
      exact (I.hok b o z).stay (fun c v hc' z' => k c v (by
          rcases hc' with hc' | hc'
          · rw [hc']
            exact hb
          · exact at_ne e hc' exo_own) z') (fun c hc' => by rw [upd_ne (at_ne e hc' exo_own), upd_ne (ne_of_none hc' nd0)]; exact hc') (fun c xs hc' => by rw [upd_ne (at_ne e hc' exo_tup), upd_ne (ne_of_none hc' nd0)]; exact hc')
end
/-- self.f = e in the __init__ of the class at C -/
def tOst1 (C : Addr) (fn : Str) (to te : TE) : TS := fun D σ H => te σ H fun y H1 => to σ H1 fun x H2 => ∃ a, x = .ref a ∧ H2 a = some (exo a C none) ∧ ∀ dx, H2 dx = none → dx ≠ a → D.nx σ (upd (upd H2 dx (exd dx [(fn, y)])) a (exo a C (some dx)))
section
variable {X : Cx} {o e : Expr} {es : List Expr} {to te : TE} {ta : TA} {fn : Str} {p p' pos : Pos} {C : Addr} {B newId initId : String} {bmB : List Value}
theorem ps_ost1 (SF : StoreFacts B bmB "object.__setattr__" "object") (hob : bmB.contains (.type "object") = true) (T : XcB X.K C newId bmB) (hno : PySem.W.findIn X.K (.ref C) fn = some none) (ho : PE X o to) (he : PE X e te) (hs : swapsWith e (some (.Attribute o fn p')) pos.line X.env = pure false := by rfl) :
    PS X (.Assign [.Attribute o fn p'] e pos) (tOst1 C fn to te) := by
  refine ⟨fun pins s σ H D I h => ?_⟩
  refine plainObj_wpAny_Assign_Attribute (thn (he.run pins s σ H _ I h) fun v s1 ⟨y, H1, I1, r1, q1⟩ => thn (ho.run pins s1 σ H1 _ I1 q1) fun u s2 ⟨x, H2, I2, r2, a, ex, ea, q⟩ => ?_) hs
  subst ex
  obtain rfl : u = Value.ref a := r2
  exact xb_new SF hob T I2 ea hno r1 fun dx s' n ne J => ⟨σ, _, J, q dx n ne⟩
/-- C(e, ..) of such a class -/
theorem pmk_xb {CX : CXT} {x : Str} {fI : Addr} {k : Nat} {fd : FuncData} {ps : List Str} {sp : Sp} (FB : ExcBaseFacts B newId initId bmB) (T : XcB X.K C newId bmB) (iC : PySem.W.findIn X.K (.ref C) "__init__" = some (some (.ref fI))) (tI : PySem.W.isFn X.K (.ref fI) = true)
    (G : FnOk X.prog X.w X.K X.mg X.base CX k fI fd ps sp) (hr : Room (k + 1) X.A) (hb : Binds X.K fd ps []) (hx : Passes CX X (fun _ _ _ => False)) (hg : Gl X x) (hm : X.mg x = some (.ref C)) (ha : PA X (e :: es) ta)
    (hdb : (x == ("__debug__" : Str)) = false := by decide) (he : starEach (e :: es) X.env = (false, eval e X.env) :: starEach es X.env := by rfl) (hpl : (backTo pos (starEach es X.env)).any (·.1) = false := by rfl) :
    PMk X (.Call (.Name x p) (e :: es) [] pos) (tMkO C sp [] ta) := by
  intro pins s σ H Q I h
  refine wpAny_Call_Name_kw (ld_glob I hg hm ?_ hdb)
  refine PySem.W.callWith_K (h₀ := X.base) I.ok.mod.kin T.kC (thn (ha.run pos pins s σ H _ I h) fun us s1 ⟨vs, H1, I1, r1, hz, q1⟩ => ⟨I1.kIn, ?_⟩) he hpl
  show wpAny _ _ (call (.ref C) us) _ _ _
  obtain ⟨nm, N, q, bs, bm, hdct, sn, sub, ab, col, dd, k0, k1, k2, k3, k5, hC, hT⟩ := PySem.W.excInit_of I1.kIn T.ini
  obtain ⟨oI, hoI, hcI⟩ : ∃ oI, s1.heap.get? fI = some oI ∧ oI.cls = .type "function" := by
    obtain ⟨o, ho, hc⟩ := Option.map_eq_some_iff.mp (show (X.K.lookup fI).map (·.cls) = some (.type "function") from beq_iff_eq.mp tI)
    exact ⟨o, I1.kIn _ _ ho, hc⟩
  obtain ⟨hq, g, dr, tk, os⟩ := s1
  have hsz : hq.objs.size ≤ hq.objs.size + 1 := Nat.le_succ _
  have n1 : H1 (hq.objs.size + 1) = none := I1.hok.fresh hsz
  have h2 := q1 (hq.objs.size + 1) n1
  have kk : ∀ b o, hq.get? b = some o → ((hq.push (PySem.W.kdv_tup us)).push (PySem.HandSPX.excO C hq.objs.size)).get? b = some o := fun b o z => Heap.get?_push_of_some _ (Heap.get?_push_of_some _ z)
  have hget : ((hq.push (PySem.W.kdv_tup us)).push (PySem.HandSPX.excO C hq.objs.size)).get? (hq.objs.size + 1) = some (PySem.HandSPX.excO C hq.objs.size) := by heap_get
  have I2 := I1.laid (t' := tk) (a := hq.objs.size + 1) (o := exo (hq.objs.size + 1) C none) (h' := (hq.push (PySem.W.kdv_tup us)).push (PySem.HandSPX.excO C hq.objs.size)) kk hsz (exo_ok hget)
  have r2 : Vals (V.ref (hq.objs.size + 1) :: (vs ++ [])) (Value.ref (hq.objs.size + 1) :: us) := .cons rfl (by rw [List.append_nil]; exact r1)
  have hl : (Value.ref (hq.objs.size + 1) :: us ++ []).length = ps.length := by
    have z := r2.length
    rw [G.len _ _ _ _ h2] at z
    rw [List.append_nil]
    exact z.symm
  have bt := hb ⟨(hq.push (PySem.W.kdv_tup us)).push (PySem.HandSPX.excO C hq.objs.size), g, dr, tk, os⟩ (Value.ref (hq.objs.size + 1) :: us) I2.kIn hl
  rw [List.append_nil] at bt
  have hus : us.length ≤ sizeLine := by
    rw [← Paired.length r1, sizeLine_eq]
    omega
  refine wpAny_call (PySem.HandSPX.call_own FB hT hC (PySem.W.looks_findIn I1.kIn iC) (fun self => PySem.W.exc_bind hoI hcI self) hus
    (codeAny_mono (G.run _ X.stack _ _ ⟨Value.ref (hq.objs.size + 1) :: us, []⟩ (Value.ref (hq.objs.size + 1) :: us) _ _ (fun _ _ _ => False) (hr.make C us []) (I2.env0.make C us []) bt r2 h2) fun r s' z => ?_))
  cases r with
  | error er => exact hx pins σ _ _ er s' I2 z
  | ok fl =>
    cases fl with
    | ret u =>
      obtain ⟨v, H2, os2, bare2, un2, hok2, rv, ev, d, fs, ea, ed, hd1, q2⟩ := z
      subst ev
      obtain ⟨h2, g2, d2, t2, os'⟩ := s'
      exact ⟨rv, mk_end (raises_own T.exC T.tyC) I1 hsz kk un2 hok2 os2 bare2 ea ed hd1 q2⟩
    | next => exact False.elim z
    | brk => exact False.elim z
    | cont => exact False.elim z
end
end Jl

set_option Elab.async false
set_option linter.all false
set_option maxRecDepth 100000
set_option maxHeartbeats 1000000
set_option pp.maxSteps 300
namespace Jl
open PySem PySem.Spec PyProof.Rows L2
open Evl (sz_of sz_lt)
local macro_rules | `(tactic| walk_at "at") => `(tactic| first | exact box0 | exact box1 | exact box2)
local macro_rules | `(tactic| walk_at "sq") => `(tactic| first | (show SqL _ _ _ _; assumption) | (show SqT _ _ _ _; assumption) | (show _ = some _; assumption))
local macro_rules | `(tactic| walk_at "side") => `(tactic| first
  | (show (0 : Int) < _; decide)
  | (show (0 : Int) < _; omega)
  | exact ⟨by decide, by decide, by decide⟩
  | exact sz_of (Nat.le_of_ble_eq_true rfl)
  | exact rfl
  | exact Or.inl (by decide)
  | exact Or.inr (by decide)
  | exact Or.inr ⟨by omega, by omega⟩
  | exact Or.inl ⟨by omega, by omega⟩
  | exact ⟨by decide, by decide +kernel⟩)
local macro_rules | `(tactic| walk_at "ev1") => `(tactic| first
  | refine ⟨_, rfl, ?_⟩
  | refine ⟨_, _, rfl, rfl, ?_⟩
  | refine ⟨_, _, _, _, rfl, rfl, (by walk_at "sq"), (by walk_at "at"), ?_⟩
  | refine ⟨_, _, rfl, (by walk_at "sq"), ?_⟩
  | refine ⟨_, _, rfl, Or.inl (by walk_at "sq"), ?_⟩
  | refine ⟨_, _, rfl, Or.inr (by walk_at "sq"), ?_⟩
  | refine Or.inl ⟨_, rfl, ?_⟩
  | refine Or.inr ⟨_, rfl, ?_⟩
  | refine ⟨(by walk_at "side"), ?_⟩
  | refine ⟨.inl ⟨rfl, _, (by walk_at "sq")⟩, ?_⟩
  | refine ⟨_, _, rfl, ?_⟩)
local macro_rules | `(tactic| walk_at "nrm") => `(tactic| dsimp only [tNil, tCons, tC, tCB])
local macro_rules | `(tactic| walk_at "ev") => `(tactic| repeat (walk_at "ev1"))
/-! ### an exception that was caught and is kept -/
/-- at a: an exception at rest, its class, its dict -/
def exk (a : Addr) (cls : Value) (d : Option Addr) : HO := .ext fun h => ∃ (oe : Obj) (vs : Array Value), h.get? a = some oe ∧ Zc cls d oe ∧ oe.data = .fields vs
theorem exk_ok {P : Program} {w : World} {H : Hp} {h : Heap} {a : Addr} {cls : Value} {d : Option Addr} {oe : Obj} {vs : Array Value} (he : h.get? a = some oe) (hz : Zc cls d oe) (hd : oe.data = .fields vs) : ObjOk P w H h a (exk a cls d) :=
  ⟨⟨oe, vs, he, hz, hd⟩, ⟨oe, he⟩, fun h1 h2 z k => by
    obtain ⟨o, v, e1, e2, e3⟩ := z
    exact ⟨o, v, k _ e1, e2, e3⟩⟩
theorem exk_at {P : Program} {w : World} {H : Hp} {h : Heap} {a : Addr} {cls : Value} {d : Option Addr} (hok : HOk P w H h) (he : H a = some (exk a cls d)) : ∃ (oe : Obj) (vs : Array Value), h.get? a = some oe ∧ Zc cls d oe ∧ oe.data = .fields vs := by
  have x : ObjOk P w H h a (.ext fun h => ∃ (oe : Obj) (vs : Array Value), h.get? a = some oe ∧ Zc cls d oe ∧ oe.data = .fields vs) := hok a _ he
  exact x.1
theorem fly_keeps {base h h' : Heap} {l : List Env} {e : Addr} {Z : Obj → Prop} (x : PySem.HandSPX.FlyingZ base l e Z h) (k : ∀ b o, h.get? b = some o → h'.get? b = some o) : PySem.HandSPX.FlyingZ base l e Z h' := by
  obtain ⟨f1, f2, f3, oe, vs, T, oT, ts, he, hz, hd, h1, hnT, hTe, hT, hdT, h3⟩ := x
  exact ⟨fun b o q => k _ _ (f1 b o q), f2, f3.of_keeps fun b o q _ => ⟨o, k _ _ q, rfl⟩, oe, vs, T, oT, ts, k _ _ he, hz, hd, h1, hnT, hTe, k _ _ hT, hdT, h3⟩
section
variable {X : Cx} {pins : List (Addr × Obj)} {σ : L2.St} {H : Hp} {sI s s' : Shared} {B : Heap} {a : Addr} {cls : Value} {d : Option Addr} {oe : Obj} {vs : Array Value}
theorem landX (I : L2.Inv X pins σ H sI) (nb : ∀ b o, sI.heap.get? b = some o → b ∉ frs X.stack → B.get? b = some o) (st : B.StaysIn s'.heap) (up : sI.heap.UpToSlots s'.heap) (os : s'.os = sI.os) (ag : AllBare s'.gens)
    (na : H a = none) (ha : sI.heap.get? a = none) (he : s'.heap.get? a = some oe) (hz : Zc cls d oe) (hd : oe.data = .fields vs) : L2.Inv X pins σ (upd H a (exk a cls d)) s' := by
  have fr : ∀ b ∈ frs X.stack, ∀ o, sI.heap.get? b = some o → ∃ sl, s'.heap.get? b = some { o with slots := sl } := fun b hb o e => by
    obtain ⟨_, o', e', hd'⟩ := I.stack.mem hb
    rw [e] at e'
    cases e'
    exact up b o e hd'
  have ne : ∀ {b : Addr} {o : Obj}, sI.heap.get? b = some o → b ≠ a := fun {b o} e z => by
    rw [z, ha] at e
    cases e
  have nh : ∀ {b : Addr} {o : HO}, H b = some o → b ≠ a := fun {b o} e z => by
    rw [z, na] at e
    cases e
  have hok : HOk X.prog X.w (upd H a (exk a cls d)) s'.heap := fun b o e => by
    by_cases hb : b = a
    · subst hb
      rw [upd_same] at e
      cases e
      exact exk_ok he hz hd
    · rw [upd_ne hb] at e
      exact ((I.inGround nb).kept st b o e).stay (fun c v _ q => q) (fun c q => by rw [upd_ne (nh q)]; exact q) (fun c xs q => by rw [upd_ne (nh q)]; exact q)
  have J := I.call (ch := []) (h' := s'.heap) (g' := s'.gens) (t' := s'.toks) (d' := s'.drawn) (H' := upd H a (exk a cls d))
    ⟨fun b o e _ hb _ => st b o (nb b o e hb), fun b o e _ hb _ => fr b hb o e, fun b o e n _ => by rw [upd_ne (ne e)]; exact n, fun b o e _ => by
      by_cases hb : b ∈ frs X.stack
      · obtain ⟨sl, q⟩ := fr b hb o e
        exact ⟨_, q⟩
      · exact ⟨o, st b o (nb b o e hb)⟩, fun b xs e => by rw [upd_ne (nh e)]; exact e, fun b o v e => by rw [upd_ne (nh e)]; exact e, fun b ps e => ⟨#[], by rw [upd_ne (nh e), e]; simp⟩⟩
    hok ag (fun _ z => nomatch z)
  obtain ⟨c1, c2, c3, c4, c5⟩ := s'
  have e5 : c5 = sI.os := os
  subst e5
  exact J
/-- in an except suite -/
theorem inSuite (I : L2.Inv X pins σ H s) : L2.Inv (X.suite a (X.pn ++ pins)) [] σ H s :=
  ⟨I.ok.suite _ _, I.os, I.bare, I.base, I.loc, I.cell, I.free, I.freeC, fun p hp => I.pin p (by rw [List.append_nil] at hp; exact hp), I.hok, I.len⟩
theorem outSuite {pn' : List (Addr × Obj)} (I : L2.Inv (X.suite a (X.pn ++ pins)) pn' σ H s) (ok : X.Ok) : L2.Inv X pins σ H s :=
  ⟨ok, I.os, I.bare, I.base, I.loc, I.cell, I.free, I.freeC, fun p hp => I.pin p (List.mem_append_left _ hp), I.hok, I.len⟩
end
/-! ### what an except clause asks -/
/-- the clause's test t answers m of a class -/
def TestOk (X : Cx) (t : Expr) (m : Value → Option Bool) : Prop := ∀ (a : Addr) (pn pins : List (Addr × Obj)) (σ : L2.St) (H : Hp) (s : Shared) (cls : Value) (b : Bool) (Q : Bool → Shared → Prop) (E : Value → Shared → Prop), L2.Inv (X.suite a pn) pins σ H s →
  PySem.W.Looks (model X.prog X.w) s.heap (typeOf (.ref a)) cls → m cls = some b → (∀ h', (∀ q o, s.heap.get? q = some o → h'.get? q = some o) → Q b { s with heap := h' }) →
  wpAny (model X.prog X.w) (X.A.mark (some (.ref a))) (eval t X.env) (fun c s1 => wpAny (model X.prog X.w) (X.A.mark (some (.ref a))) (excMatches (.ref a) c) Q E s1) E s
theorem name_ok {X : Cx} {x : Str} {c : Value} {np : Pos} (hc : Names X x c) {a : Addr} {pn pins : List (Addr × Obj)} {σ : L2.St} {H : Hp} {s : Shared} {Q : Value → Shared → Prop} {E : Value → Shared → Prop} (I : L2.Inv (X.suite a pn) pins σ H s) (q : Q c s) :
    wpAny (model X.prog X.w) (X.A.mark (some (.ref a))) (eval (.Name x np) X.env) Q E s := by
  obtain ⟨hg, hdbg, hm | ⟨hm, hv, hnn⟩⟩ := hc
  · exact ld_glob (X := X.suite a pn) I hg hm q hdbg
  · exact ld_blt (X := X.suite a pn) I hg hm hv q hnn hdbg
theorem test1 {X : Cx} {x : Str} {c : Value} {np : Pos} (hc : Names X x c) : TestOk X (.Name x np) (fun cls => PySem.W.exmOne X.K cls c) := fun a pn pins σ H s cls b Q E I L e q =>
  name_ok hc I ((PySem.W.exm_one (M := model X.prog X.w) I.kIn L e).here (q s.heap fun _ _ z => z))
theorem test3 {X : Cx} {x1 x2 x3 : Str} {c1 c2 c3 : Value} {p1 p2 p3 tp : Pos} {kk : Nat} (h1 : Names X x1 c1) (h2 : Names X x2 c2) (h3 : Names X x3 c3) : TestOk X (.Tuple [.Name x1 p1, .Name x2 p2, .Name x3 p3] kk tp) (fun cls => PySem.W.exmAny X.K cls [c1, c2, c3]) := fun a pn pins σ H s cls b Q E I L e q => by
  refine wpAny_Tuple (wpAny_items_cons (name_ok h1 I (wpAny_items_cons (name_ok h2 I (wpAny_items_cons (name_ok h3 I (wpAny_items_nil ⟨by show 3 ≤ sizeLine; rw [sizeLine_eq]; omega, ?_⟩)))))))
  have kp : ∀ q o, s.heap.get? q = some o → (s.heap.push { cls := .type "tuple", data := .seq [c1, c2, c3].toArray }).get? q = some o := fun _ _ z => Heap.get?_push_of_some _ z
  exact (PySem.W.exm_tup3 (M := model X.prog X.w) (I.kIn.keeps kp) (L.keeps kp) (Heap.get?_push_size s.heap rfl) e).here (q _ kp)
theorem test4 {X : Cx} {x1 x2 x3 x4 : Str} {c1 c2 c3 c4 : Value} {p1 p2 p3 p4 tp : Pos} {kk : Nat} (h1 : Names X x1 c1) (h2 : Names X x2 c2) (h3 : Names X x3 c3) (h4 : Names X x4 c4) : TestOk X (.Tuple [.Name x1 p1, .Name x2 p2, .Name x3 p3, .Name x4 p4] kk tp) (fun cls => PySem.W.exmAny X.K cls [c1, c2, c3, c4]) := fun a pn pins σ H s cls b Q E I L e q => by
  refine wpAny_Tuple (wpAny_items_cons (name_ok h1 I (wpAny_items_cons (name_ok h2 I (wpAny_items_cons (name_ok h3 I (wpAny_items_cons (name_ok h4 I (wpAny_items_nil ⟨by show 4 ≤ sizeLine; rw [sizeLine_eq]; omega, ?_⟩)))))))))
  have kp : ∀ q o, s.heap.get? q = some o → (s.heap.push { cls := .type "tuple", data := .seq [c1, c2, c3, c4].toArray }).get? q = some o := fun _ _ z => Heap.get?_push_of_some _ z
  exact (PySem.W.exm_tup4 (M := model X.prog X.w) (I.kIn.keeps kp) (L.keeps kp) (Heap.get?_push_size s.heap rfl) e).here (q _ kp)
/-- what the clause wishes of an exception of the body: it stands in the heap from then on; slot i is the clause's name -/
def wKeep (m : Value → Option Bool) (i : Nat) (ts : TS) (Wout : WX) (D : Ends) : WX := fun cls d σ H =>
  ∃ b, m cls = some b ∧ (b = true → ∀ a, H a = none → ts { nx := fun σ' H' => D.nx (σ'.set i none) H', rt := D.rt, bk := fun σ' H' => D.bk (σ'.set i none) H', ct := fun σ' H' => D.ct (σ'.set i none) H' } (σ.set i (some (.ref a))) (upd H a (exk a cls d))) ∧ (b = false → Wout cls d σ H)
section
variable {X : Cx} {n : Str} {i : Nat} {t : Expr} {m : Value → Option Bool} {body suite : List Stmt} {b₀ : Stmt} {pos pos' : Pos} {tb : WX → TS} {ts : TS} {Wout : WX}
theorem ps_try_keep (hs : X.stack = X.env :: X.outer) (hf : X.env.frame = some X.env.locals) (hN : X.N.Nodup) (hi : X.N[i]? = some n) (hln : X.env.kindOf n = some .local) (hc : TestOk X t m) (tk : Takes X Wout)
    (hb : ∀ (W : WX) (pn : List (Addr × Obj)) (xe : Value → Shared → Prop), Takes (X.tr pn xe) W → PassesOwn (model X.prog X.w) X.A X.env xe → PSs (X.tr pn xe) body (tb W))
    (hsu : ∀ (a : Addr) (pn : List (Addr × Obj)), PSs (X.suite a pn) (b₀ :: suite) ts) :
    PS X (.Try body [.ExceptHandler (some t) (some n) (b₀ :: suite) pos'] [] [] pos) (fun D σ H => tb (wKeep m i ts Wout D) D σ H) := by
  refine ⟨fun pins s σ H D I h => ?_⟩
  have ok := I.ok
  have hfr : X.A.frames = some (X.env :: X.outer) := by rw [ok.frames, hs]
  have hloc : Loc X.env.scope n := .inl hln
  refine wpAny_Try_except (wpAny_mono ((hb (wKeep m i ts Wout D) (X.pn ++ pins) (fun e z1 => wpAny (model X.prog X.w) X.A (noteFrame e X.env) (fun _ z2 => wpAny (model X.prog X.w) X.A (setFlight e none) (fun _ z3 => wpAny (model X.prog X.w) X.A (handleBy e X.env [.ExceptHandler (some t) (some n) (b₀ :: suite) pos']) (SP X pins D) X.xe z3) X.xe z2) X.xe z1) (fun u s' xx => ?_) PassesOwn.looking).run [] s σ H D (I.toTry _) h) (fun f s1 hsp => ?_) (fun e s1 he => he))
  · obtain ⟨a, B, sI, pins', σ', H', cls, d, rfl, J', nb, up, sky, na, os, ag, b, hb1, hyes, hno⟩ := xx
    have J : L2.Inv X pins σ' H' sI := J'.ofTry ok
    have sky2 : Sky B (X.env :: X.outer) a (Zc cls d) X.env.locals s'.heap := by rw [← hs]; exact sky
    show wpAny (model X.prog X.w) X.A (noteFrame (.ref a) X.env) _ _ _
    refine Sky.land Zc.steady hfr hf sky2 fun h3 fl3 up3 => ?_
    have J3 : L2.Inv X pins σ' H' { s' with heap := h3 } := J.landed nb fl3.1 (up.trans up3) os ag
    obtain ⟨oe3, vs3, he3, hz3, hd3⟩ := fl3.there
    have nfr : a ∉ frs (X.env :: X.outer) := fun hm => by
      obtain ⟨_, o', e', hnf⟩ := fl3.2.2.1.mem hm
      rw [he3] at e'
      cases e'
      exact hnf _ hd3
    have aI : sI.heap.get? a = none := by
      cases q : sI.heap.get? a with
      | none => rfl
      | some o =>
        have z := nb a o q (by rw [hs]; exact nfr)
        rw [fl3.2.1] at z
        cases z
    have LT : PySem.W.Looks (model X.prog X.w) h3 (typeOf (.ref a)) cls := fun A Q E z k q => wpAny_typeOf_ref (k _ _ he3) (by rw [hz3.1]; exact q)
    refine wpAny_handleBy_cons (codeAny_handlers_test (hc a (X.pn ++ pins) [] σ' H' { s' with heap := h3 } cls b _ _ (inSuite J3) LT hb1 fun h5 k5 => ?_)) (by intro q; cases q)
    have fl5 := fly_keeps fl3 k5
    have up5 : s'.heap.UpToSlots h5 := up3.trans (Heap.UpToSlots.of_keeps k5)
    cases b with
    | true =>
      refine codeAny_handlers_suite_as ?_
      refine PySem.HandSPX.lands_againZ fl5 fun h4 fl4 up4 => ?_
      obtain ⟨oe4, vs4, he4, hz4, hd4⟩ := fl4.there
      have J4 : L2.Inv X pins σ' (upd H' a (exk a cls d)) { s' with heap := h4 } := landX J nb fl4.1 ((up.trans up5).trans up4) os ag na aI he4 hz4 hd4
      refine store_ok (X := X.suite a (X.pn ++ pins)) (v := .ref a) (inSuite J4) hN hi hloc rfl (fun s5 S5 => ?_) (.inr hln)
      refine wpAny_mono ((hsu a (X.pn ++ pins)).run [] s5 _ _ _ S5 (hyes rfl a na)) (fun f s6 hsp => ?_) (fun _ _ z => False.elim z)
      have fin : ∀ {σ6 : L2.St} {H6 : Hp} {Q : Shared → Prop}, L2.Inv (X.suite a (X.pn ++ pins)) [] σ6 H6 s6 → (∀ s7, L2.Inv X pins (σ6.set i none) H6 s7 → Q s7) →
          wpAny (model X.prog X.w) X.A (do bindName X.env n .none; unbindBehindTheSuite X.env n pos') (fun _ s7 => Q s7) X.xe s6 := fun {σ6 H6 Q} S6 hq => gone_ok (outSuite S6 ok) hN hi hln hq
      cases f with
      | next =>
        obtain ⟨σ6, H6, S6, q6⟩ := hsp
        exact fin S6 fun s7 J7 => ⟨_, _, J7, q6⟩
      | brk =>
        obtain ⟨σ6, H6, S6, q6⟩ := hsp
        exact fin S6 fun s7 J7 => ⟨_, _, J7, q6⟩
      | cont =>
        obtain ⟨σ6, H6, S6, q6⟩ := hsp
        exact fin S6 fun s7 J7 => ⟨_, _, J7, q6⟩
      | ret u =>
        obtain ⟨v6, σ6, H6, S6, r6, q6⟩ := hsp
        exact fin S6 fun s7 J7 => ⟨_, _, _, J7, r6, q6⟩
    | false =>
      show wpAny _ X.A (handleBy (.ref a) X.env []) _ _ _
      refine wpAny_handleBy_nil ?_
      obtain ⟨k1, k2, k3, oe, vs, T, oT, ts', he, hz, hd, h1, hr⟩ := id fl5
      unfold PySem.passOn
      refine wpAny_bind (wpAny_field he hd h1 ?_)
      rw [if_neg (show ¬ ((Value.ref T == Value.none) = true) from by simp)]
      have fin : wpAny (model X.prog X.w) X.A (setFlight (.ref a) X.env.frame) (fun _ z4 => wpAny (model X.prog X.w) X.A (throw (.ref a) : Sem Flow) (SP X pins D) X.xe z4) X.xe { s' with heap := h5 } := by
        rw [hf]
        refine PySem.HandSPX.setFlight_upZ fl5 fun h4 hh4 up4 => wpAny_throw (tk _ _ ?_)
        exact ⟨a, B, sI, pins, σ', H', cls, d, rfl, J, nb, (up.trans up5).trans up4, .inr (.inr (by rw [hs]; exact hh4)), na, os, ag, hno rfl⟩
      first
        | exact wpAny_bind (wpAny_pure (wpAny_bind fin))
        | exact wpAny_bind fin
  · cases f with
    | next =>
      obtain ⟨σ', H', J', q⟩ := hsp
      exact wpAny_execs_nil ⟨σ', H', J'.ofTry ok, q⟩
    | brk =>
      obtain ⟨σ', H', J', q⟩ := hsp
      exact ⟨σ', H', J'.ofTry ok, q⟩
    | cont =>
      obtain ⟨σ', H', J', q⟩ := hsp
      exact ⟨σ', H', J'.ofTry ok, q⟩
    | ret u =>
      obtain ⟨v, σ', H', J', r, q⟩ := hsp
      exact ⟨v, σ', H', J'.ofTry ok, r, q⟩
end
/-! ### what is asked of a kept exception -/
/-- v: an exception of the class at C, with the one field fn -/
def ExcAt (H : Hp) (v : V) (C : Addr) (fn : Str) (y : V) : Prop := ∃ a dx, v = .ref a ∧ H a = some (exk a (.ref C) (some dx)) ∧ H dx = some (.xd [(fn, y)])
theorem ExcAt.same {H H' : Hp} {v : V} {C : Addr} {fn : Str} {y : V} (h : ExcAt H v C fn y) (e : Same H H') : ExcAt H' v C fn y := by
  obtain ⟨a, dx, h1, h2, h3⟩ := h
  exact ⟨a, dx, h1, e _ _ h2, e _ _ h3⟩
/-- an exception of the class at C, with the one field, leaves a state H or later -/
def Thrown (E : XK) (H : Hp) (C : Addr) (fn : Str) (y : V) : Prop := ∀ H' dx, Same H H' → H' dx = some (.xd [(fn, y)]) → E (.ref C) (some dx) H'
theorem Thrown.same {E : XK} {H H' : Hp} {C : Addr} {fn : Str} {y : V} (h : Thrown E H C fn y) (e : Same H H') : Thrown E H' C fn y := fun H2 dx s q => h H2 dx (e.trans s) q
/-- what the class must say for isinstance and for a field -/
structure XcI (K : PySem.W.Frag) (C : Addr) : Prop where
  cl : (PySem.W.clsIn K C).isSome = true
  ga : PySem.W.findIn K (.ref C) "__getattribute__" = some (some (.builtin "BaseException.__getattribute__"))
  gg : PySem.W.findIn K (.ref C) "__getattr__" = some none
  exC : PySem.W.subIn K (.ref C) (.type "BaseException") = some true
  hd : PySem.W.hasDictIn K C = true
  cc : PySem.W.findIn K (.ref C) "__class__" = some (some (.builtin "object.__class__"))
  cn : PySem.W.specialIn K (.builtin "object.__class__") "__get__" = some (some (.builtin "getset_descriptor.__get__"))
  ct : PySem.W.takesIn K (.builtin "object.__class__") = some true
  mo : PySem.W.mroIn K C (.type "object") = some true
section
variable {X : Cx} {a C dx : Addr} {fn : Str} {y : V} {pins : List (Addr × Obj)} {σ : L2.St} {H : Hp} {s : Shared} {fs : List (Str × V)}
theorem exk_inst (I : L2.Inv X pins σ H s) (ha : H a = some (exk a (.ref C) (some dx))) (hdx : H dx = some (.xd fs)) : ∃ (oe : Obj) (od : Obj) (mA : Str → Option Value), PySem.W.InstAt s.heap a oe C (some od) ∧ (∀ f, RelO (fs.lookup f) (mA f)) ∧ s.heap.Ns1 dx mA ∧ s.heap.get? dx = some od ∧ ∀ f, PySem.W.lookIn f od = some (mA f) := by
  obtain ⟨oe, vs, he, hz, hd⟩ := exk_at I.hok ha
  have hx : ObjOk X.prog X.w H s.heap dx (.xd fs) := I.hok dx _ hdx
  obtain ⟨mA, hns, hr⟩ := hx
  obtain ⟨od, ho, hl⟩ := lookIn_ns hns
  exact ⟨oe, od, mA, ⟨he, hz.1, by unfold PySem.W.notCls; rw [hd] <;> rfl, by rw [hz.2]; exact ho⟩, hr, hns, ho, hl⟩
/-- e.f of a kept exception -/
def tXk (C : Addr) (fn : Str) (te : TE) : TE := fun σ H Q => te σ H fun x H1 => ∃ y, ExcAt H1 x C fn y ∧ Q y H1
theorem pe_xk {e : Expr} {te : TE} {pos : Pos} (T : XcI X.K C) (hno : PySem.W.findIn X.K (.ref C) fn = some none) (he : PE X e te) (hb : attributeBase e fn X.env (eval e X.env) = eval e X.env := by rfl) : PE X (.Attribute e fn pos) (tXk C fn te) := by
  refine ⟨fun pins s σ H Q I h => ?_⟩
  refine attr_of hb (thn (he.run pins s σ H _ I h) fun u s1 hh => ?_)
  obtain ⟨x, H1, I1, rx, y, ⟨a, dx, ex, ha, hdx⟩, q⟩ := hh
  subst ex
  obtain rfl : u = Value.ref a := rx
  obtain ⟨oe, od, mA, J, hr, _, _, hl⟩ := exk_inst I1 ha hdx
  have h0 : (List.lookup fn [(fn, y)] : Option V) = some y := by simp [List.lookup]
  obtain ⟨u, hu, ru⟩ := RelO.some_of (v := y) (o := mA fn) (by rw [← h0]; exact hr fn)
  exact PySem.HandSPX.exc_get I1.kIn J T.ga T.gg T.exC (PySem.W.findObj_own T.hd hno rfl (by rw [hl, hu])) (handed_of ru) ⟨y, H1, I1.tok _, ru, q⟩
/-- isinstance(e, c) of a kept exception -/
def rIsK (K : PySem.W.Frag) : List V → Hp → VK → Prop := fun xs H Q => ∃ (v c : V) (C : Addr) (fn : Str) (y : V) (cv : Value) (b : Bool), xs = [v, c] ∧ ExcAt H v C fn y ∧ XcI K C ∧ (∀ u, RelV c u → u = cv) ∧ PySem.W.kitOne K (.ref C) cv = some b ∧ Q (.bl b) H
theorem call_isK : CallR X (.builtin "isinstance") (rIsK X.K) := by
  intro pins s σ H xs us Q I r h
  obtain ⟨v, c, C, fn, y, cv, b, rfl, ⟨a, dx, rfl, ha, hdx⟩, T, hcv, e, q⟩ := h
  cases r with
  | cons rx rr =>
    cases rr with
    | cons rt rr =>
      cases rr
      cases rx
      have ec := hcv _ rt
      subst ec
      obtain ⟨oe, od, mA, J, _⟩ := exk_inst I ha hdx
      exact PySem.W.kia_one (PySem.W.kitx_exc T.cl T.ga T.gg T.exC T.cc T.cn T.ct T.mo) I.kIn J e (fun z => nomatch z) fun tk => ⟨.bl b, H, I.kept (t' := tk) fun _ _ z => z, rfl, q⟩
end
end Jl

set_option Elab.async false
set_option linter.all false
set_option maxRecDepth 100000
set_option maxHeartbeats 1000000
set_option pp.maxSteps 300
namespace Jl
open PySem PySem.Spec PyProof.Rows L2
open Evl (sz_of sz_lt)
local macro_rules | `(tactic| walk_at "at") => `(tactic| first | exact box0 | exact box1 | exact box2)
local macro_rules | `(tactic| walk_at "sq") => `(tactic| first | (show SqL _ _ _ _; assumption) | (show SqT _ _ _ _; assumption) | (show _ = some _; assumption))
local macro_rules | `(tactic| walk_at "side") => `(tactic| first
  | (show (0 : Int) < _; decide)
  | (show (0 : Int) < _; omega)
  | exact ⟨by decide, by decide, by decide⟩
  | exact sz_of (Nat.le_of_ble_eq_true rfl)
  | exact rfl
  | exact Or.inl (by decide)
  | exact Or.inr (by decide)
  | exact Or.inr ⟨by omega, by omega⟩
  | exact Or.inl ⟨by omega, by omega⟩
  | exact ⟨by decide, by decide +kernel⟩)
local macro_rules | `(tactic| walk_at "ev1") => `(tactic| first
  | refine ⟨_, rfl, ?_⟩
  | refine ⟨_, _, rfl, rfl, ?_⟩
  | refine ⟨_, _, _, _, rfl, rfl, (by walk_at "sq"), (by walk_at "at"), ?_⟩
  | refine ⟨_, _, rfl, (by walk_at "sq"), ?_⟩
  | refine ⟨_, _, rfl, Or.inl (by walk_at "sq"), ?_⟩
  | refine ⟨_, _, rfl, Or.inr (by walk_at "sq"), ?_⟩
  | refine Or.inl ⟨_, rfl, ?_⟩
  | refine Or.inr ⟨_, rfl, ?_⟩
  | refine ⟨(by walk_at "side"), ?_⟩
  | refine ⟨.inl ⟨rfl, _, (by walk_at "sq")⟩, ?_⟩
  | refine ⟨_, _, rfl, ?_⟩)
local macro_rules | `(tactic| walk_at "nrm") => `(tactic| dsimp only [tNil, tCons, tC, tCB])
local macro_rules | `(tactic| walk_at "ev") => `(tactic| repeat (walk_at "ev1"))
section
open AutoSeq1 (wpAny_loadPart')
theorem tuple_mulE (l : Addr) (items : Array Value) (n : Nat) (dd : Option Addr) (sl : Array (Option Value)) (x : Int) (u : Tok) (c0 : (decide (x < -(2 ^ 63)) || decide (x ≥ 2 ^ 63)) = false) (c1 : (items.isEmpty || x == 1) = true) :
    Meets (Builtin.«tuple.__mul__» ⟨[.ref l, .int x u], []⟩) (fun _ R s => s.heap.get? l = some { cls := .type "tuple", dict := dd, data := .seq items n, slots := sl } ∧ R (.ok (.ret (Value.ref l))) s) :=
  .of_wp fun prog w A R s h => by
    obtain ⟨hp, g, d, tk, os⟩ := s
    obtain ⟨hl, h⟩ := h
    have f1 := AutoSeq1.idx_int
    wp_walk using wpAny_loadPart' hl
    repeat (first
      | (refine wpAny_ite_false (decide_eq_false (by rw [c0]; exact Bool.false_ne_true)) ?_; wp_walk using wpAny_loadPart' hl)
      | (refine wpAny_ite_true (decide_eq_true c1) ?_; wp_walk using wpAny_loadPart' hl)
      | (refine wpAny_ite_true (decide_eq_true (by simp)) ?_; wp_walk using wpAny_loadPart' hl))
    exact ⟨_, rfl, h⟩
end
/-- t * k, t a tuple -/
def rRepE (K : PySem.W.Frag) : R2 := fun x y H Q => rRepW K x y H Q ∨ ∃ (l : Addr) (k : Int), x = .ref l ∧ y = .int k ∧ SqT K H l [] ∧ -1000 ≤ k ∧ k ≤ 1000 ∧ Q (.ref l) H
section
variable {X : Cx}
theorem op_repE : OpR X (binaryOp .Mult) (rRepE X.K) := by
  intro pins s σ H x y v u Q I rx ry h
  rcases h with h | ⟨l, k, rfl, rfl, hT, hlo, hhi, q⟩
  · exact op_repW pins s σ H x y v u Q I rx ry h
  · cases rx
    obtain ⟨t, rfl⟩ := ry
    obtain ⟨its, r, ⟨⟨cls, dd, data, sl⟩, ho, hc, n, hd⟩, hs⟩ := I.tuple hT
    simp only at hc hd
    subst hc hd
    cases r
    have c0 : (decide (k < -(2 ^ 63)) || decide (k ≥ 2 ^ 63)) = false := by
      rw [decide_eq_false (by omega), decide_eq_false (by omega)] <;> rfl
    exact wpAny_binaryOp_repeat_ref (T := "tuple") (U := "int") (by decide) ⟨_, ho, rfl⟩ (fun s' => typeIs_int s' k t) noFill_tuple_mul F.fills_int_mul F.slot_int_rmul repeat_tuple F.slot_int_index.lookup
      (call_meets F.slot_int_rmul (typeIs_int s k t) F.entry_int_rmul (F.args_int_rmul_2 _ _) (int_rmul_tuple k t l _ n dd sl)
        ⟨ho, rfl, ⟨_, ho, rfl⟩, call_meets F.slot_tuple_mul ⟨_, ho, rfl⟩ F.entry_tuple_mul (F.args_tuple_mul_2 _ _) (tuple_mulE l _ n dd sl k t c0 rfl) ⟨ho, .ref l, H, I, rfl, q⟩⟩)
end
/-! ### x op= y for an own class that has no such method -/
structure IWay (K : PySem.W.Frag) (C : Addr) : Prop where
  two : ∃ cd, PySem.W.clsIn K C = some cd ∧ cd.mro = [.ref C, .type "object"]
  na : PySem.W.findIn K (.ref C) (dunderI Operator.Add.info.2) = some none
  nm : PySem.W.findIn K (.ref C) (dunderI Operator.Mult.info.2) = some none
  oa : PySem.W.findIn K (.type "object") (dunderI Operator.Add.info.2) = some none
  om : PySem.W.findIn K (.type "object") (dunderI Operator.Mult.info.2) = some none
theorem looks_fillsN {K : PySem.W.Frag} {M : Model} {h : Heap} {C : Addr} {nm : String} {add : Bool} {cd : ClassData} (X : K.In h) (hc : PySem.W.clsIn K C = some cd) (hm : cd.mro = [.ref C, .type "object"]) (h1 : PySem.W.findIn K (.ref C) (dunderI nm) = some none) (h2 : PySem.W.findIn K (.type "object") (dunderI nm) = some none) : PySem.W.Looks M h (fillsInplaceSlot (.ref C) nm add) false := by
  intro A Q E s k q
  have Lm : PySem.W.Looks M h (mroOf (.ref C)) cd.mro := (PySem.W.looks_clsIn X hc).andThen (f := fun cd => pure cd.mro) .now
  have Lm' := Lm.keeps k
  obtain ⟨hh, g, d, tt, os⟩ := s
  have X' : K.In hh := X.keeps k
  have L1 : PySem.W.Looks M hh (typeLookup (.ref C) (dunderI nm)) none := PySem.W.looks_findIn X' h1
  have L2 : PySem.W.Looks M hh (typeLookup (.type "object") (dunderI nm)) none := PySem.W.looks_findIn X' h2
  unfold fillsInplaceSlot
  refine wpAny_bind (Lm'.at ?_)
  rw [hm, List.anyM_cons]
  refine wpAny_bind ?_
  refine wpAny_bind (L1.at ?_)
  refine wpAny_pure ?_
  rw [List.anyM_cons]
  refine wpAny_bind ?_
  refine wpAny_bind (L2.at ?_)
  refine wpAny_pure ?_
  rw [List.anyM_nil]
  exact wpAny_pure q
section
open PySem.W
variable {prog : Program} {w : World} {M : Model} {A : Around} {E : Value → Shared → Prop} {s : Shared} {K : Frag} {x C L f : Addr} {h₀ : Heap} {m : Str → Option Value} {ox : Obj} {od : Option Obj} {nm T : String}
theorem bin1_K {op : Operator} {b : Value} {Q : Value → Shared → Prop} (X : K.In s.heap) (I : InstAt s.heap x ox C od) (hb : Looks (model prog w) s.heap (typeOf b) (.ref C)) (hc : selfFirst K C = true)
    (hs : findIn K (.ref C) (PySem.dunder op.info.2) = some (some (.ref f))) (hf : isFn K (.ref f) = true)
    (h : wpAny (model prog w) A (call (.ref f) [.ref x, b]) (PySem.W.CmpBack Q) E s) : wpAny (model prog w) A (binaryOp1 op.info.2 (.ref x) b) (fun r s' => ∃ v, r = some v ∧ Q v s') E s := by
  obtain ⟨cd, rest, hcd, hm⟩ := ksp_first hc
  unfold binaryOp1
  refine wpAny_bind (I.type.here (wpAny_bind (hb.here (wpAny_bind ((fills_K X hcd hm hs).here ?_)))))
  simp only [beq_self_eq_true, if_true]
  refine wpAny_bind (wpAny_pure ?_)
  simp only [Bool.and_false, Bool.false_eq_true, if_false, Bool.false_and]
  refine wpAny_bind (wpAny_pure ?_)
  simp only [Bool.false_eq_true, if_false]
  refine wpAny_bind (m := tryMethod (.ref x) _ b) ?_
  unfold tryMethod
  refine wpAny_bind (special_fn X I hs (beq_iff_eq.mp hf) (wpAny_mono h (fun v s' hv => ?_) fun _ _ e => e))
  cases v <;> first | exact hv.elim | exact wpAny_pure (wpAny_pure ⟨_, rfl, hv⟩)
theorem inpl_K {op : Operator} {b : Value} {Q : Value → Shared → Prop} (I : InstAt s.heap x ox C od) (hF : Looks (model prog w) s.heap (fillsInplaceSlot (.ref C) op.info.2 (op == .Add)) false)
    (h : wpAny (model prog w) A (binaryOp1 op.info.2 (.ref x) b) (fun r s' => ∃ v, r = some v ∧ Q v s') E s) : wpAny (model prog w) A (inplaceOp op (.ref x) b) Q E s := by
  obtain ⟨hh, g, d, tt, os⟩ := s
  have L1 : Looks (model prog w) hh (typeOf (.ref x)) (.ref C) := I.type
  have L2 : Looks (model prog w) hh (fillsInplaceSlot (.ref C) op.info.2 (op == .Add)) false := hF
  unfold inplaceOp
  refine wpAny_holding ?_
  refine wpAny_bind (L1.at ?_)
  refine wpAny_bind (L2.at ?_)
  simp only [Bool.false_eq_true, if_false]
  refine wpAny_bind (wpAny_mono h (fun r s' hr => ?_) fun _ _ e => e)
  obtain ⟨v, rfl, hq⟩ := hr
  exact wpAny_pure hq
theorem bin1_T {op : Operator} {b : Value} {fo ro rc : Option Value} {Q : Value → Shared → Prop} (X : K.In s.heap) (I : InstAt s.heap x ox C od) (hb : typeOf b = pure (.type T)) (hc : selfFirst K C = true)
    (hs : findIn K (.ref C) (PySem.dunder op.info.2) = some (some (.ref f))) (hf : isFn K (.ref f) = true) (hr : findIn K (.ref C) (dunderR op.info.2) = some rc) (hp : rc = none ∨ ∃ g : Addr, rc = some (.ref g))
    (h1 : findIn K (.type T) (PySem.dunder op.info.2) = some fo) (h2 : findIn K (.type T) (dunderR op.info.2) = some ro) (hsub : subIn K (.type T) (.ref C) = some false)
    (h : wpAny (model prog w) A (call (.ref f) [.ref x, b]) (PySem.W.CmpBack Q) E s) : wpAny (model prog w) A (binaryOp1 op.info.2 (.ref x) b) (fun r s' => ∃ v, r = some v ∧ Q v s') E s := by
  obtain ⟨cd, rest, hcd, hm⟩ := ksp_first hc
  rcases hi : op.info with ⟨sym, nm'⟩
  rw [hi] at hs hr h1 h2
  dsimp only at hs hr h1 h2
  have one := ksp_try X I hs hf h
  obtain ⟨hh, g, d, tt, os⟩ := s
  have L1 : Looks (model prog w) hh (typeOf (.ref x)) (.ref C) := I.type
  have L2 : Looks (model prog w) hh (typeOf b) (.type T) := Looks.of_pure hb
  have L3 : Looks (model prog w) hh (fillsNumberSlot (.ref C) nm') true := fills_K X hcd hm hs
  have L4 : Looks (model prog w) hh (fillsNumberSlot (.type T) nm') ((fo.isSome && !isSeqSlot fo) || (ro.isSome && !isSeqSlot ro)) := ksp_fillsT X h1 h2
  have L5 : Looks (model prog w) hh (isSubtype (.type T) (.ref C)) false := looks_subIn X hsub
  have L6 : Looks (model prog w) hh (numberSlotInPython (.ref C) nm') true := ksp_inPy X hs hr hp
  have L7 : Looks (model prog w) hh (numberSlotInPython (.type T) nm') false := Looks.of_pure rfl
  have L8 : Looks (model prog w) hh (typeLookup (.type T) (dunderR nm')) ro := looks_findIn X h2
  generalize ((fo.isSome && !isSeqSlot fo) || (ro.isSome && !isSeqSlot ro)) = right at L4
  have hne : (Value.ref C == Value.type T) = false := Bool.eq_false_iff.mpr fun q => by cases beq_iff_eq.mp q
  dsimp only
  unfold binaryOp1
  refine wpAny_bind (L1.at (wpAny_bind (L2.at (wpAny_bind (L3.at ?_)))))
  simp only [hne, Bool.false_eq_true, if_false]
  cases right with
  | false =>
    ksp_lk
    refine wpAny_mono one (fun r s' hr' => ?_) fun _ _ e => e
    obtain ⟨v, rfl, hq⟩ := hr'
    ksp_lk
    exact ⟨_, rfl, hq⟩
  | true =>
    ksp_lk
    refine wpAny_mono one (fun r s' hr' => ?_) fun _ _ e => e
    obtain ⟨v, rfl, hq⟩ := hr'
    ksp_lk
    exact ⟨_, rfl, hq⟩
end
section
variable {X : Cx} {CX : CXT} {C f : Addr} {fd : FuncData} {ps : List Str} {k : Nat} {sp : Sp} {E : L2.St → XK} {a b : Expr} {ta tb : TE} {pos : Pos}
theorem fills_no {h : Heap} {op : Operator} (I : IWay X.K C) (Y : X.K.In h) (ho : op = .Add ∨ op = .Mult) : PySem.W.Looks (model X.prog X.w) h (fillsInplaceSlot (.ref C) op.info.2 (op == .Add)) false := by
  obtain ⟨cd, c1, c2⟩ := I.two
  rcases ho with rfl | rfl
  · exact looks_fillsN Y c1 c2 I.na I.oa
  · exact looks_fillsN Y c1 c2 I.nm I.om
theorem iop_own {op : Operator} (F : FnOk X.prog X.w X.K X.mg X.base CX k f fd ps sp) (hr : Room k X.A) (hs : Meth X.K C (PySem.dunder op.info.2) f) (hc : PySem.W.selfFirst X.K C = true) (IW : IWay X.K C) (ho : op = .Add ∨ op = .Mult) (hb : Binds X.K fd ps []) (hx : Passes CX X E0) : OpR X (inplaceOp op) (rOwn C sp) := by
  intro pins s σ H x y v u Q I rx ry h
  obtain ⟨a, dx, fs, b, dy, gs, rfl, rfl, ha, hb', q⟩ := h
  cases rx
  cases ry
  obtain ⟨mA, J, _⟩ := ins_get I.hok ha
  obtain ⟨mB, J', _⟩ := ins_get I.hok hb'
  obtain ⟨od, J, _⟩ := J.look
  obtain ⟨od', J', _⟩ := J'.look
  refine inpl_K J (fills_no IW I.kIn ho) (bin1_K (op := op) I.kIn J J'.type hc hs.at_ hs.fn ?_)
  exact wpAny_mono (run_fn (us := [.ref a, .ref b]) (vs := [.ref a, .ref b]) F hr hb .nil hx I (.cons rfl (.cons rfl .nil)) q) (fun _ _ z => back_ref z) fun _ _ z => z
theorem iop_ownI {op : Operator} {fo ro : Option Value} (F : FnOk X.prog X.w X.K X.mg X.base CX k f fd ps sp) (hr : Room k X.A) (hs : Meth X.K C (PySem.dunder op.info.2) f) (hc : PySem.W.selfFirst X.K C = true) (IW : IWay X.K C) (ho : op = .Add ∨ op = .Mult) (hrc : PySem.W.findIn X.K (.ref C) (dunderR op.info.2) = some none)
    (h1 : PySem.W.findIn X.K (.type "int") (PySem.dunder op.info.2) = some fo) (h2 : PySem.W.findIn X.K (.type "int") (dunderR op.info.2) = some ro) (hsub : PySem.W.subIn X.K (.type "int") (.ref C) = some false) (hb : Binds X.K fd ps []) (hx : Passes CX X E0) : OpR X (inplaceOp op) (rOwnI C sp) := by
  intro pins s σ H x y v u Q I rx ry h
  obtain ⟨a, dx, fs, i, rfl, rfl, ha, q⟩ := h
  cases rx
  obtain ⟨t, rfl⟩ := ry
  obtain ⟨mA, J, _⟩ := ins_get I.hok ha
  obtain ⟨od, J, _⟩ := J.look
  refine inpl_K J (fills_no IW I.kIn ho) (bin1_T (op := op) (T := "int") I.kIn J rfl hc hs.at_ hs.fn hrc (.inl rfl) h1 h2 hsub ?_)
  exact wpAny_mono (run_fn (us := [.ref a, .int i t]) (vs := [.ref a, .int i]) F hr hb .nil hx I (.cons rfl (.cons ⟨t, rfl⟩ .nil)) q) (fun _ _ z => back_ref z) fun _ _ z => z
/-! ### x op y, which may raise: what is let out is taken at the slots of the place -/
def tOpS (r : L2.St → R2) (ta tb : TE) : TE := fun σ H Q => ta σ H fun x H1 => tb σ H1 fun y H2 => r σ x y H2 Q
theorem pe_opS {op : Operator} {r : L2.St → R2} (ho : ∀ (pins : List (Addr × Obj)) (s : Shared) (σ : L2.St) (H : Hp) (x y : V) (v u : Value) (Q : VK), L2.Inv X pins σ H s → RelV x v → RelV y u → r σ x y H Q → wpAny (model X.prog X.w) X.A (binaryOp op v u) (EP X pins σ Q) X.xe s) (ha : PE X a ta) (hb : PE X b tb) : PE X (.BinOp a op b pos) (tOpS r ta tb) := by
  refine ⟨fun pins s σ H Q I h => ?_⟩
  exact wpAny_BinOp (binT (R := fun x y H2 => r σ x y H2 Q) ha hb I h fun v u s2 x y H2 I2 rx ry q => ho pins s2 σ H2 x y v u Q I2 rx ry q)
def rOwnS (C : Addr) (sp : Sp) (E : L2.St → XK) : L2.St → R2 := fun σ x y H Q => ∃ (a dx : Addr) (fs : List (Str × V)) (b dy : Addr) (gs : List (Str × V)), x = .ref a ∧ y = .ref b ∧ H a = some (.ins C dx fs) ∧ H b = some (.ins C dy gs) ∧ sp [x, y] H (fun v H' => (∃ c, v = .ref c) ∧ Q v H') (E σ)
def rOwnIS (C : Addr) (sp : Sp) (E : L2.St → XK) : L2.St → R2 := fun σ x y H Q => ∃ (a dx : Addr) (fs : List (Str × V)) (i : Int), x = .ref a ∧ y = .int i ∧ H a = some (.ins C dx fs) ∧ sp [x, y] H (fun v H' => (∃ c, v = .ref c) ∧ Q v H') (E σ)
theorem op_ownS {op : Operator} (F : FnOk X.prog X.w X.K X.mg X.base CX k f fd ps sp) (hr : Room k X.A) (hs : Meth X.K C (PySem.dunder op.info.2) f) (hc : PySem.W.selfFirst X.K C = true) (hb : Binds X.K fd ps []) (hx : ∀ σ, PassesAt CX X σ (E σ)) (pins : List (Addr × Obj)) (s : Shared) (σ : L2.St) (H : Hp) (x y : V) (v u : Value) (Q : VK) (I : L2.Inv X pins σ H s) (rx : RelV x v) (ry : RelV y u) (h : rOwnS C sp E σ x y H Q) : wpAny (model X.prog X.w) X.A (binaryOp op v u) (EP X pins σ Q) X.xe s := by
  obtain ⟨a, dx, fs, b, dy, gs, rfl, rfl, ha, hb', q⟩ := h
  cases rx
  cases ry
  obtain ⟨mA, J, _⟩ := ins_get I.hok ha
  obtain ⟨mB, J', _⟩ := ins_get I.hok hb'
  obtain ⟨od, J, _⟩ := J.look
  obtain ⟨od', J', _⟩ := J'.look
  obtain ⟨m, hF⟩ := I.fr
  refine PySem.W.binop_K (op := op) hF I.ok.mod.kin J J'.type hc hs.at_ hs.fn ?_
  exact wpAny_mono (run_fnS (us := [.ref a, .ref b]) (vs := [.ref a, .ref b]) F hr hb (hx σ) I (.cons rfl (.cons rfl .nil)) q) (fun _ _ z => back_ref z) fun _ _ z => z
theorem op_ownIS {op : Operator} {fo ro : Option Value} (F : FnOk X.prog X.w X.K X.mg X.base CX k f fd ps sp) (hr : Room k X.A) (hs : Meth X.K C (PySem.dunder op.info.2) f) (hc : PySem.W.selfFirst X.K C = true) (hrc : PySem.W.findIn X.K (.ref C) (dunderR op.info.2) = some none)
    (h1 : PySem.W.findIn X.K (.type "int") (PySem.dunder op.info.2) = some fo) (h2 : PySem.W.findIn X.K (.type "int") (dunderR op.info.2) = some ro) (hsub : PySem.W.subIn X.K (.type "int") (.ref C) = some false) (hb : Binds X.K fd ps []) (hx : ∀ σ, PassesAt CX X σ (E σ)) (pins : List (Addr × Obj)) (s : Shared) (σ : L2.St) (H : Hp) (x y : V) (v u : Value) (Q : VK) (I : L2.Inv X pins σ H s) (rx : RelV x v) (ry : RelV y u) (h : rOwnIS C sp E σ x y H Q) : wpAny (model X.prog X.w) X.A (binaryOp op v u) (EP X pins σ Q) X.xe s := by
  obtain ⟨a, dx, fs, i, rfl, rfl, ha, q⟩ := h
  cases rx
  obtain ⟨t, rfl⟩ := ry
  obtain ⟨mA, J, _⟩ := ins_get I.hok ha
  obtain ⟨od, J, _⟩ := J.look
  obtain ⟨m, hF⟩ := I.fr
  refine PySem.W.ksp_binT (op := op) (T := "int") hF I.ok.mod.kin J rfl hc hs.at_ hs.fn hrc (.inl rfl) h1 h2 hsub ?_
  exact wpAny_mono (run_fnS (us := [.ref a, .int i t]) (vs := [.ref a, .int i]) F hr hb (hx σ) I (.cons rfl (.cons ⟨t, rfl⟩ .nil)) q) (fun _ _ z => back_ref z) fun _ _ z => z
end
end Jl

set_option Elab.async false
set_option linter.all false
set_option maxRecDepth 100000
set_option maxHeartbeats 1000000
set_option pp.maxSteps 300
namespace Jl
open PySem PySem.Spec PyProof.Rows L2
open Evl (sz_of sz_lt)
local macro_rules | `(tactic| walk_at "at") => `(tactic| first | exact box0 | exact box1 | exact box2)
local macro_rules | `(tactic| walk_at "sq") => `(tactic| first | (show SqL _ _ _ _; assumption) | (show SqT _ _ _ _; assumption) | (show _ = some _; assumption))
local macro_rules | `(tactic| walk_at "side") => `(tactic| first
  | (show (0 : Int) < _; decide)
  | (show (0 : Int) < _; omega)
  | exact ⟨by decide, by decide, by decide⟩
  | exact sz_of (Nat.le_of_ble_eq_true rfl)
  | exact rfl
  | exact Or.inl (by decide)
  | exact Or.inr (by decide)
  | exact Or.inr ⟨by omega, by omega⟩
  | exact Or.inl ⟨by omega, by omega⟩
  | exact ⟨by decide, by decide +kernel⟩)
local macro_rules | `(tactic| walk_at "ev1") => `(tactic| first
  | refine ⟨_, rfl, ?_⟩
  | refine ⟨_, _, rfl, rfl, ?_⟩
  | refine ⟨_, _, _, _, rfl, rfl, (by walk_at "sq"), (by walk_at "at"), ?_⟩
  | refine ⟨_, _, rfl, (by walk_at "sq"), ?_⟩
  | refine ⟨_, _, rfl, Or.inl (by walk_at "sq"), ?_⟩
  | refine ⟨_, _, rfl, Or.inr (by walk_at "sq"), ?_⟩
  | refine Or.inl ⟨_, rfl, ?_⟩
  | refine Or.inr ⟨_, rfl, ?_⟩
  | refine ⟨(by walk_at "side"), ?_⟩
  | refine ⟨.inl ⟨rfl, _, (by walk_at "sq")⟩, ?_⟩
  | refine ⟨_, _, rfl, ?_⟩)
local macro_rules | `(tactic| walk_at "nrm") => `(tactic| dsimp only [tNil, tCons, tC, tCB])
local macro_rules | `(tactic| walk_at "ev") => `(tactic| repeat (walk_at "ev1"))
abbrev sc_NoStep_init_N : List Str := ["self", "place"]
abbrev s_NoStep_init : Stmt := inClass (topS 4) 0
theorem sc_NoStep_init : FnScope ["self", "place"] ["self", "place"] (defScope s_NoStep_init) := ⟨rfl, rfl, rfl, by decide +kernel, rfl, by decide +kernel, by decide +kernel⟩
theorem del_made {H : Hp} {a dx : Addr} {o1 o2 o3 o4 : HO} (ha : H a = none) (ne : dx ≠ a) : upd (L2.del (upd (upd (upd H a o1) dx o2) a o3) a) dx o4 = upd H dx o4 := by
  funext b
  by_cases h1 : b = dx
  · rw [h1, upd_same, upd_same]
  · rw [upd_ne h1, upd_ne h1]
    by_cases h2 : b = a
    · rw [h2, L2.del_same, ha]
    · rw [L2.del_ne h2, upd_ne h2, upd_ne h1, upd_ne h2]
structure Ini (K : PySem.W.Frag) (C f : Addr) : Prop where
  iC : PySem.W.findIn K (.ref C) "__init__" = some (some (.ref f))
  tI : PySem.W.isFn K (.ref f) = true
section
variable {P : Program} {w : World} {K : PySem.W.Frag} {mg : Str → Option Value} {base : Heap}
/-- the __init__ of an exception with one field -/
def spXi (C : Addr) (fn : Str) : Sp := fun vs H Q _ => ∃ (a : Addr) (y : V), vs = [.ref a, y] ∧ H a = some (exo a C none) ∧ ∀ dx, H dx = none → dx ≠ a → Q .non (upd (upd H dx (exd dx [(fn, y)])) a (exo a C (some dx)))
/-- C(y): made, and raised -/
theorem mk_thrown {C : Addr} {fn : Str} {y : V} {ta : TA} {σ : L2.St} {H : Hp} {E : XK} (ht : ∀ R : List V → Hp → Prop, R [y] H → ta σ H R) (q : Thrown E H C fn y) : tMkO C (spXi C fn) [] ta σ H fun cls d H' => E cls d H' := by
  refine ht _ ⟨by show 1 ≤ 1000; decide, fun a ha => ⟨a, y, rfl, upd_same, fun dx hdx ne => ⟨rfl, dx, [(fn, y)], upd_same, ?_, ?_, ?_⟩⟩⟩
  · rw [upd_ne ne, upd_same]
  · rw [upd_ne ne] at hdx
    exact hdx
  · rw [upd_ne ne] at hdx
    rw [del_made ha ne]
    exact q _ dx (.upd hdx) upd_same
theorem ok_NoStep_init {f C : Addr} {fd : FuncData} {k : Nat} (F : Fun K "__init__" "NoStep.__init__" s_NoStep_init f fd) (XB_NoStep : XcB K C "ValueError.__new__" [.type "ValueError", .type "Exception", .type "BaseException", .type "object"]) (nf_NoStep_place : PySem.W.findIn K (.ref C) "place" = some none) :
    FnOk P w K mg base CX0 (k + 1) f fd ["self", "place"] (spXi C "place") := by
  refine F.ok sc_NoStep_init (fun vs H Q E h => ?_) (fun cdv A outer s0 H vs Q E hr h => ?_)
  · obtain ⟨a, y, rfl, _⟩ := h
    rfl
  · obtain ⟨a, y, rfl, ha, q⟩ := h
    refine ⟨_, (pss_one (ps_ost1 PySem.F.store_ValueError (by decide +kernel) XB_NoStep nf_NoStep_place (pv 0) (pv 1))), ?_⟩
    exact ⟨_, rfl, _, rfl, a, rfl, ha, q⟩
end
end Jl

set_option Elab.async false
set_option linter.all false
set_option maxRecDepth 100000
set_option maxHeartbeats 1000000
set_option pp.maxSteps 300
namespace Jl
open PySem PySem.Spec PyProof.Rows L2
open Evl (sz_of sz_lt)
local macro_rules | `(tactic| walk_at "at") => `(tactic| first | exact box0 | exact box1 | exact box2)
local macro_rules | `(tactic| walk_at "sq") => `(tactic| first | (show SqL _ _ _ _; assumption) | (show SqT _ _ _ _; assumption) | (show _ = some _; assumption))
local macro_rules | `(tactic| walk_at "side") => `(tactic| first
  | (show (0 : Int) < _; decide)
  | (show (0 : Int) < _; omega)
  | exact ⟨by decide, by decide, by decide⟩
  | exact sz_of (Nat.le_of_ble_eq_true rfl)
  | exact rfl
  | exact Or.inl (by decide)
  | exact Or.inr (by decide)
  | exact Or.inr ⟨by omega, by omega⟩
  | exact Or.inl ⟨by omega, by omega⟩
  | exact ⟨by decide, by decide +kernel⟩)
local macro_rules | `(tactic| walk_at "ev1") => `(tactic| first
  | refine ⟨_, rfl, ?_⟩
  | refine ⟨_, _, rfl, rfl, ?_⟩
  | refine ⟨_, _, _, _, rfl, rfl, (by walk_at "sq"), (by walk_at "at"), ?_⟩
  | refine ⟨_, _, rfl, (by walk_at "sq"), ?_⟩
  | refine ⟨_, _, rfl, Or.inl (by walk_at "sq"), ?_⟩
  | refine ⟨_, _, rfl, Or.inr (by walk_at "sq"), ?_⟩
  | refine Or.inl ⟨_, rfl, ?_⟩
  | refine Or.inr ⟨_, rfl, ?_⟩
  | refine ⟨(by walk_at "side"), ?_⟩
  | refine ⟨.inl ⟨rfl, _, (by walk_at "sq")⟩, ?_⟩
  | refine ⟨_, _, rfl, ?_⟩)
local macro_rules | `(tactic| walk_at "nrm") => `(tactic| dsimp only [tNil, tCons, tC, tCB])
local macro_rules | `(tactic| walk_at "ev") => `(tactic| repeat (walk_at "ev1"))
abbrev sc_Way_workers_N : List Str := ["self"]
abbrev s_Way_workers : Stmt := inClass (topS 10) 2
theorem sc_Way_workers : FnScope ["self"] ["self"] (defScope s_Way_workers) := ⟨rfl, rfl, rfl, by decide +kernel, rfl, by decide +kernel, by decide +kernel⟩
abbrev sc_Way_add_N : List Str := ["self", "other"]
abbrev s_Way_add : Stmt := inClass (topS 10) 9
theorem sc_Way_add : FnScope ["self", "other"] ["self", "other"] (defScope s_Way_add) := ⟨rfl, rfl, rfl, by decide +kernel, rfl, by decide +kernel, by decide +kernel⟩
abbrev sc_Way_neg_N : List Str := ["self"]
abbrev s_Way_neg : Stmt := inClass (topS 10) 10
theorem sc_Way_neg : FnScope ["self"] ["self"] (defScope s_Way_neg) := ⟨rfl, rfl, rfl, by decide +kernel, rfl, by decide +kernel, by decide +kernel⟩
abbrev sc_Way_mul_N : List Str := ["self", "many", "queues"]
abbrev s_Way_mul : Stmt := inClass (topS 10) 11
theorem sc_Way_mul : FnScope ["self", "many", "queues"] ["self", "many"] (defScope s_Way_mul) := ⟨rfl, rfl, rfl, by decide +kernel, rfl, by decide +kernel, by decide +kernel⟩
structure OWay (K : PySem.W.Frag) (C : Addr) : Prop where
  sf : PySem.W.selfFirst K C = true
  rm : PySem.W.findIn K (.ref C) (dunderR Operator.Mult.info.2) = some none
  im : ∃ fo, PySem.W.findIn K (.type "int") (PySem.dunder Operator.Mult.info.2) = some fo
  ir : ∃ fo, PySem.W.findIn K (.type "int") (dunderR Operator.Mult.info.2) = some fo
  ns : PySem.W.subIn K (.type "int") (.ref C) = some false
theorem last_get {α : Type} : ∀ {us : List α} {w : α}, (w :: us)[us.length]? = some (us.getLastD w)
  | [], w => rfl
  | u :: us, w => by
    rw [List.length_cons, List.getElem?_cons_succ, List.getLastD_cons]
    exact last_get
theorem at_last {w : Str} {us : List Str} : atI ((w :: us).map V.str) (-1) = some (.str (us.getLastD w)) := by
  refine atI_end (by rw [List.length_map, List.length_cons]; omega) ?_
  rw [List.length_map, List.length_cons, Nat.add_sub_cancel, List.getElem?_map, last_get]
  rfl
theorem at_first {w : Str} {us : List Str} : atI ((w :: us).map V.str) 0 = some (.str w) := atI_nat (j := 0) rfl
theorem decI {a b : Int} : decide (V.int a = V.int b) = decide (a = b) := decide_eq_decide.mpr ⟨V.int.inj, congrArg _⟩
theorem decS' {a b : Str} : decide (V.str a = V.str b) = decide (a = b) := decide_eq_decide.mpr ⟨V.str.inj, congrArg _⟩
/-- is_ring of a way -/
theorem path_last {qs : List QD} {w : Str} {us : List Str} : (w :: us) = (w :: us).dropLast ++ [us.getLastD w] := by
  cases h : us.reverse with
  | nil =>
    rw [List.reverse_eq_nil_iff.mp h]
    rfl
  | cons x xs =>
    have e : us = xs.reverse ++ [x] := by
      have := congrArg List.reverse h
      rw [List.reverse_reverse, List.reverse_cons] at this
      exact this
    rw [e, ← List.cons_append, List.dropLast_concat, List.getLastD_concat]
theorem path_cat {qs : List QD} : ∀ {us : List Str} {w : Str} {ms : List Mk} {us2 : List Str} {ms2 : List Mk}, path qs (w :: us) ms → path qs (us.getLastD w :: us2) ms2 → path qs (w :: (us ++ us2)) (ms ++ ms2)
  | [], w, [], us2, ms2, _, h => h
  | u :: us, w, m :: ms, us2, ms2, h1, h2 => by
    rw [List.getLastD_cons] at h2
    exact ⟨h1.1, path_cat h1.2 h2⟩
  | [], _, _ :: _, _, _, h, _ => absurd h id
  | _ :: _, _, [], _, _, h, _ => absurd h id
theorem nm_fl {qs : List QD} {m : Mk} : nmQ qs (fl m) = nmQ qs m := rfl
theorem nms_rev {qs : List QD} {ms : List Mk} : (ms.map fl).reverse.map (nmQ qs) = (ms.map (nmQ qs)).reverse := by
  rw [List.map_reverse, List.map_map]
  rfl
/-- a Way's making, its arguments told -/
theorem make_way {K : PySem.W.Frag} {C : Addr} {H1 : Hp} {x dx : Addr} {v qv : V} {fb fq : Bool} {ws : List Str} {qs : List QD} {w : Str} {us : List Str} {ms : List Mk} {Q : VK} (hx : H1 x = none) (hdx : H1 dx = none) (ne : dx ≠ x) (hD : Dp K H1 v (netD fb ws qs)) (hQ : Dp K H1 qv (seqD fq ((ms.map (nmQ qs)).map PyData.str)))
    (hG : NetG ws qs) (hw : w ∈ ws) (hp : path qs (w :: us) ms) (w6 : ws.length ≤ 60) (q6 : qs.length ≤ 60) (m6 : ms.length ≤ 100000) (q : ∀ H', Same H1 H' → WayAt K C H' x ws qs w us ms → Q (.ref x) H') :
    spInit K C [.ref x, v, .str w, qv] (upd (upd H1 dx (.own x)) x (.ins C dx [])) (fun v H2 => v = .non ∧ Q (.ref x) H2) E0 :=
  ⟨H1, x, dx, v, qv, fb, fq, ws, qs, w, us, ms, rfl, fun a o ha => by
    rw [upd_ne (ne_of_none ha hx), upd_ne (ne_of_none ha hdx)]
    exact ha, hx, upd_same, hD, hQ, hG, hw, hp, w6, q6, m6, fun H7 s7 hway => ⟨rfl, q H7 s7 hway⟩⟩
theorem last_mem {ws : List Str} {qs : List QD} (g : NetG ws qs) : ∀ {us : List Str} {w : Str} {ms : List Mk}, w ∈ ws → path qs (w :: us) ms → us.getLastD w ∈ ws
  | [], _, [], h, _ => h
  | u :: us, w, m :: ms, h, hp => by
    rw [List.getLastD_cons]
    exact last_mem g (far_mem g hp.1).1 hp.2
  | [], _, _ :: _, _, h => absurd h id
  | _ :: _, _, [], _, h => absurd h id
section
variable {P : Program} {w : World} {K : PySem.W.Frag} {mg : Str → Option Value} {base : Heap}
def spWorkers (K : PySem.W.Frag) (C : Addr) : Sp := fun vs H Q _ => ∃ (x : Addr) (ws : List Str) (qs : List QD) (w : Str) (us : List Str) (ms : List Mk), vs = [.ref x] ∧ WayAt K C H x ws qs w us ms ∧ ∀ v, Dp K H v (.tuple ((w :: us).map PyData.str)) → Q v H
theorem ok_Way_workers {f C : Addr} {fd : FuncData} {k : Nat} (F : Fun K "workers" "Way.workers" s_Way_workers f fd) (T_Way : TWay K C) : FnOk P w K mg base CX0 (k + 1) f fd ["self"] (spWorkers K C) := by
  refine F.ok sc_Way_workers (fun vs H Q E h => ?_) (fun cdv A outer s0 H vs Q E hr h => ?_)
  · obtain ⟨x, ws, qs, w, us, ms, rfl, _⟩ := h
    rfl
  · obtain ⟨x, ws, qs, w, us, ms, rfl, hw, q⟩ := h
    refine ⟨_, (pss_one (ps_ret (pe_fld (pv 0) rfl))), ?_⟩
    obtain ⟨dx, v1, v2, v3, v4, v5, h0, h1, h2, h3, h4, h5⟩ := hw.is
    exact ⟨_, rfl, x, C, dx, _, _, rfl, h0, T_Way.cl, T_Way.n4, f5_at.2.2.2.1, q v4 h4⟩
def spAdd (K : PySem.W.Frag) (C : Addr) : Sp := fun vs H Q _ => ∃ (x y : Addr) (ws : List Str) (qs : List QD) (w : Str) (us us2 : List Str) (ms ms2 : List Mk), vs = [.ref x, .ref y] ∧ WayAt K C H x ws qs w us ms ∧ WayAt K C H y ws qs (us.getLastD w) us2 ms2 ∧
  NetG ws qs ∧ w ∈ ws ∧ path qs (w :: us) ms ∧ path qs (us.getLastD w :: us2) ms2 ∧ ws.length ≤ 60 ∧ qs.length ≤ 60 ∧ ms.length ≤ 1000 ∧ ms2.length ≤ 1000 ∧ (∀ x ∈ ws, PyData.strOk x = true) ∧ (∀ q ∈ qs, PyData.strOk q.nm = true) ∧
  ∀ H' z, Same H H' → WayAt K C H' z ws qs w (us ++ us2) (ms ++ ms2) → Q (.ref z) H'
theorem okE_net {ws : List Str} {qs : List QD} (g : NetG ws qs) (h1 : ∀ x ∈ ws, PyData.strOk x = true) (h2 : ∀ q ∈ qs, PyData.strOk q.nm = true) : SeqAt.shaped (netD true ws qs) = true := by
  refine shaped_of (can_seq (f := true) fun d hd => ?_) (Nat.le_trans (dep_seq (f := true) (n := 31) fun d hd => ?_) (by decide))
  · rcases List.mem_cons.mp hd with rfl | hd
    · refine can_seq (f := true) fun d hd => ?_
      obtain ⟨x, hx, rfl⟩ := List.mem_map.mp hd
      rw [PyData.canLay0]
      exact h1 x hx
    · rw [List.mem_singleton.mp hd]
      refine can_seq (f := true) fun d hd => ?_
      obtain ⟨x, hx, rfl⟩ := List.mem_map.mp hd
      exact (okE_q (h2 x hx) (h1 _ (g.q1 x hx).1) (h1 _ (g.q1 x hx).2.1)).1
  · rcases List.mem_cons.mp hd with rfl | hd
    · refine Nat.le_trans (dep_seq (f := true) (n := 0) fun d hd => ?_) (by decide)
      obtain ⟨x, hx, rfl⟩ := List.mem_map.mp hd
      simp [PyData.depth]
    · rw [List.mem_singleton.mp hd]
      refine dep_seq (f := true) (n := 30) fun d hd => ?_
      obtain ⟨x, hx, rfl⟩ := List.mem_map.mp hd
      exact (okE_q (h2 x hx) (h1 _ (g.q1 x hx).1) (h1 _ (g.q1 x hx).2.1)).2
theorem eqv_of {d : PyData} (h : SeqAt.shaped d = true) : PyData.eqv d d = true := PySem.SeqAt.eqv_refl d (by
  unfold SeqAt.shaped at h
  exact ((Bool.and_eq_true _ _).mp h).1)
/-- the sum that is refused: another net, or another place -/
def spAddR (K : PySem.W.Frag) (C CS : Addr) : Sp := fun vs H _ E => ∃ (x y : Addr) (ws : List Str) (qs : List QD) (w : Str) (us us2 : List Str) (ms ms2 : List Mk) (ws2 : List Str) (qs2 : List QD) (w2 : Str), vs = [.ref x, .ref y] ∧ WayAt K C H x ws qs w us ms ∧ WayAt K C H y ws2 qs2 w2 us2 ms2 ∧
  SeqAt.shaped (netD true ws qs) = true ∧ SeqAt.shaped (netD true ws2 qs2) = true ∧ ms.length ≤ 1000 ∧ (PyData.eqv (netD true ws qs) (netD true ws2 qs2) = false ∨ us.getLastD w ≠ w2) ∧ Thrown E H CS "place" (.int (ms.length : Nat))
def spAddX (K : PySem.W.Frag) (C CS : Addr) : Sp := fun vs H Q E => spAdd K C vs H Q E ∨ spAddR K C CS vs H Q E
theorem okX_Way_add {f fI fS C CS : Addr} {fd fdI fdS : FuncData} {k : Nat} (F : Fun K "__add__" "Way.__add__" s_Way_add f fd) (T_Way : TWay K C) (M_Way : L2.Mk K C fI) (mg_Way : mg "Way" = some (.ref C)) (IC_Way : C8.InsC K C)
    (G_Way_init : FnOk P w K mg base CX0 k fI fdI ["self", "net", "start", "queues"] (spInit K C)) (b_Way_init : Binds K fdI ["self", "net", "start", "queues"] [])
    (mg_NoStep : mg "NoStep" = some (.ref CS)) (XB_NoStep : XcB K CS "ValueError.__new__" [.type "ValueError", .type "Exception", .type "BaseException", .type "object"]) (IN_NoStep : Ini K CS fS) (G_NoStep_init : FnOk P w K mg base CX0 k fS fdS ["self", "place"] (spXi CS "place")) (b_NoStep_init : Binds K fdS ["self", "place"] [])
    (m_isinstance : mg "isinstance" = none) (m_len : mg "len" = none) : FnOk P w K mg base (L2.CX P w) (k + 1 + 1) f fd ["self", "other"] (spAddX K C CS) := by
  refine F.okX sc_Way_add (fun vs H Q E h => ?_) (fun cdv A outer s0 H vs Q E hr2 h => ?_)
  · rcases h with h | h
    · obtain ⟨x, y, ws, qs, w, us, us2, ms, ms2, rfl, _⟩ := h
      rfl
    · obtain ⟨x, y, ws, qs, w, us, us2, ms, ms2, ws2, qs2, w2, rfl, _⟩ := h
      rfl
  · have hr := hr2.mono (Nat.le_succ k)
    have tk : Takes (cxOf (L2.CX P w) P w K mg base sc_Way_add_N "Way.__add__" (defScope s_Way_add) f cdv A outer s0 H E) (fun cls d _ H => E cls d H) := takes_of rfl rfl rfl rfl
    refine ⟨_, (pss_cons (ps_if (pt_not (pt_val (pe_callB (C8.call_isC IC_Way) (by rfl) m_isinstance (by decide +kernel) (pa_cons (pv 1) (pa_cons (pe_glob (v := .ref _) rfl mg_Way rfl) pa_nil))))) (pss_one ps_no) pss_nil) 
    (pss_cons (ps_if (PW.pt (pw_or (pt_cmpR (op_neD hr.units) (pe_fld (pv 0) rfl) (pe_fld (pv 1) rfl) (nomark _)) (pw_or1 (pt_cmpR op_ne (pe_ix ix_tup (pe_fld (pv 0) rfl) (pe_un un_neg pe_int) (fun _ _ => rfl)) (pe_ix ix_tup (pe_fld (pv 1) rfl) pe_int (fun _ _ => rfl)) (nomark _))))) (pss_one (ps_raise rfl tk (pmk_xb PySem.F.excBase_ValueError XB_NoStep IN_NoStep.iC IN_NoStep.tI G_NoStep_init hr2 b_NoStep_init pass0 (by rfl) mg_NoStep (pa_cons (pe_callB call_len_seq (by rfl) m_len PySem.boot_len (pa_cons (pe_fld (pv 0) rfl) pa_nil)) pa_nil)))) pss_nil) 
    (pss_one (ps_ret (pe_make M_Way G_Way_init hr2 (by rfl) mg_Way b_Way_init .nil pass0 (pa_cons (pe_fld (pv 0) rfl) (pa_cons (pe_ix ix_tup (pe_fld (pv 0) rfl) pe_int (fun _ _ => rfl)) (pa_cons (pe_op op_catA (pe_fld (pv 0) rfl) (pe_fld (pv 1) rfl)) pa_nil)))))))), ?_⟩
    rcases h with h | h
    rotate_left
    · obtain ⟨x, y, ws, qs, w, us, us2, ms, ms2, ws2, qs2, w2, rfl, hx, hy, sh, sh2, lm, hne, hT⟩ := h
      obtain ⟨dx, v1, v2, v3, v4, v5, h0, h1, h2, h3, h4, h5⟩ := id hx.is
      obtain ⟨dy, u1, u2, u3, u4, u5, g0, g1, g2, g3, g4, g5⟩ := id hy.is
      obtain ⟨a4, x4, rfl, ha4, hx4⟩ := Dp.seq_of (f := true) (show Dp K H v4 (seqD true _) from h4)
      have e4 := dpa_strs_of hx4
      subst e4
      obtain ⟨b4, y4, rfl, hb4, hy4⟩ := Dp.seq_of (f := true) (show Dp K H u4 (seqD true _) from g4)
      have e4 := dpa_strs_of hy4
      subst e4
      obtain ⟨a3, x3, rfl, ha3, hx3⟩ := Dp.seq_of (f := true) (show Dp K H v3 (seqD true _) from h3)
      have l3 : x3.length = ms.length := by rw [dpa_len hx3, List.length_map]
      refine ⟨_, rfl, y, dy, _, rfl, g0, ⟨_, rfl, iteF ?_⟩⟩
      dsimp only [tNext]
      refine ⟨_, rfl, x, C, dx, _, _, rfl, h0, T_Way.cl, T_Way.n1, f5_at.1, _, rfl, y, C, dy, _, _, rfl, g0, T_Way.cl, T_Way.n1, f5_at.1, netD true ws qs, netD true ws2 qs2, h1, g1, sh, sh2, ?_⟩
      rcases hv : PyData.eqv (netD true ws qs) (netD true ws2 qs2) with _ | _
      · refine ⟨_, rfl, iteT (iteT ?_)⟩
        exact mk_thrown (fun R r => ⟨_, rfl, x, C, dx, _, _, rfl, h0, T_Way.cl, T_Way.n3, f5_at.2.2.1, a3, _, rfl, .inr ha3, by rw [l3]; exact r⟩) hT
      · refine ⟨_, rfl, iteF ?_⟩
        have hn : us.getLastD w ≠ w2 := hne.resolve_left fun z => by rw [z] at hv; cases hv
        refine ⟨_, rfl, x, C, dx, _, _, rfl, h0, T_Way.cl, T_Way.n4, f5_at.2.2.2.1, 1, rfl, a4, _, _, _, rfl, rfl, ha4, at_last, ?_⟩
        refine ⟨_, rfl, y, C, dy, _, _, rfl, g0, T_Way.cl, T_Way.n4, f5_at.2.2.2.1, b4, _, _, _, rfl, rfl, hb4, at_first, rfl, _, rfl, ?_⟩
        rw [decS', decide_eq_false hn]
        refine iteT ?_
        exact mk_thrown (fun R r => ⟨_, rfl, x, C, dx, _, _, rfl, h0, T_Way.cl, T_Way.n3, f5_at.2.2.1, a3, _, rfl, .inr ha3, by rw [l3]; exact r⟩) hT
    obtain ⟨x, y, ws, qs, w, us, us2, ms, ms2, rfl, hx, hy, hG, hw, hp, hp2, w6, q6, lm, lm2, o1, o2, q⟩ := h
    obtain ⟨dx, v1, v2, v3, v4, v5, h0, h1, h2, h3, h4, h5⟩ := id hx.is
    obtain ⟨dy, u1, u2, u3, u4, u5, g0, g1, g2, g3, g4, g5⟩ := id hy.is
    obtain ⟨a4, x4, rfl, ha4, hx4⟩ := Dp.seq_of (f := true) (show Dp K H v4 (seqD true _) from h4)
    have e4 := dpa_strs_of hx4
    subst e4
    obtain ⟨b4, y4, rfl, hb4, hy4⟩ := Dp.seq_of (f := true) (show Dp K H u4 (seqD true _) from g4)
    have e4 := dpa_strs_of hy4
    subst e4
    obtain ⟨a2, x2, rfl, ha2, hx2⟩ := Dp.seq_of (f := true) (show Dp K H v2 (seqD true _) from h2)
    have e2 := dpa_strs_of hx2
    subst e2
    obtain ⟨b2, y2, rfl, hb2, hy2⟩ := Dp.seq_of (f := true) (show Dp K H u2 (seqD true _) from g2)
    have e2 := dpa_strs_of hy2
    subst e2
    have sh := okE_net hG o1 o2
    refine ⟨_, rfl, y, dy, _, rfl, g0, ⟨_, rfl, iteF ?_⟩⟩
    dsimp only [tNext]
    refine ⟨_, rfl, x, C, dx, _, _, rfl, h0, T_Way.cl, T_Way.n1, f5_at.1, _, rfl, y, C, dy, _, _, rfl, g0, T_Way.cl, T_Way.n1, f5_at.1, netD true ws qs, netD true ws qs, h1, g1, sh, sh, ?_⟩
    rw [eqv_of sh]
    refine ⟨_, rfl, iteF ?_⟩
    refine ⟨_, rfl, x, C, dx, _, _, rfl, h0, T_Way.cl, T_Way.n4, f5_at.2.2.2.1, 1, rfl, a4, _, _, _, rfl, rfl, ha4, at_last, ?_⟩
    refine ⟨_, rfl, y, C, dy, _, _, rfl, g0, T_Way.cl, T_Way.n4, f5_at.2.2.2.1, b4, _, _, _, rfl, rfl, hb4, at_first, rfl, _, rfl, ?_⟩
    rw [decide_eq_true rfl]
    refine iteF ?_
    dsimp only [tNext]
    refine ⟨_, rfl, x, C, dx, _, _, rfl, h0, T_Way.cl, T_Way.n1, f5_at.1, ?_⟩
    refine ⟨_, rfl, x, C, dx, _, _, rfl, h0, T_Way.cl, T_Way.n4, f5_at.2.2.2.1, a4, _, _, _, rfl, rfl, ha4, at_first, ?_⟩
    refine ⟨_, rfl, x, C, dx, _, _, rfl, h0, T_Way.cl, T_Way.n2, f5_at.2.1, _, rfl, y, C, dy, _, _, rfl, g0, T_Way.cl, T_Way.n2, f5_at.2.1, ?_⟩
    have lz : (((ms.map (nmQ qs)).map V.str).length + ((ms2.map (nmQ qs)).map V.str).length) ≤ sizeLine := by
      simp only [List.length_map]
      exact Nat.le_trans (show ms.length + ms2.length ≤ 2000 by omega) (by decide)
    have hcat : path qs (w :: (us ++ us2)) (ms ++ ms2) := path_cat hp hp2
    have fin : ∀ {H1 : Hp} {p : Addr}, Same H H1 → SqT K H1 p (((ms ++ ms2).map (nmQ qs)).map V.str) → ∀ (z dz : Addr), H1 z = none → H1 dz = none → dz ≠ z → spInit K C [.ref z, v1, .str w, .ref p] (upd (upd H1 dz (.own z)) z (.ins C dz [])) (fun v H2 => v = .non ∧ Q (.ref z) H2) E0 := fun {H1 p} s1 hp1 z dz hz hdz ne =>
      make_way (fq := true) hz hdz ne (s1.dp h1) (.tup hp1 dpa_strs) hG hw hcat w6 q6 (by rw [List.length_append]; omega) fun H' s' hway => q H' z (s1.trans s') hway
    have ecat : ((ms ++ ms2).map (nmQ qs)).map V.str = (ms.map (nmQ qs)).map V.str ++ (ms2.map (nmQ qs)).map V.str := by
      rw [List.map_append, List.map_append]
    rw [ecat] at fin
    refine ⟨a2, b2, _, _, rfl, rfl, ha2, hb2, lz, fun e => ?_, fun _ e => ?_, fun _ _ p hp0 => ?_⟩
    · rw [e] at fin
      exact fin (fun _ _ e => e) hb2
    · rw [e, List.append_nil] at fin
      exact fin (fun _ _ e => e) ha2
    · exact fin (.upd hp0) (sqt_of upd_same)
def spNeg (K : PySem.W.Frag) (C : Addr) : Sp := fun vs H Q _ => ∃ (x : Addr) (ws : List Str) (qs : List QD) (w : Str) (us : List Str) (ms : List Mk), vs = [.ref x] ∧ WayAt K C H x ws qs w us ms ∧ NetG ws qs ∧ w ∈ ws ∧ path qs (w :: us) ms ∧ ws.length ≤ 60 ∧ qs.length ≤ 60 ∧ ms.length ≤ 1000 ∧
  ∀ H' z, Same H H' → WayAt K C H' z ws qs (us.getLastD w) ((w :: us).dropLast.reverse) (revR ms) → Q (.ref z) H'
theorem path_back {qs : List QD} {w : Str} {us : List Str} {ms : List Mk} (h : path qs (w :: us) ms) : path qs (us.getLastD w :: (w :: us).dropLast.reverse) (revR ms) := by
  have e := path_rev h
  rw [path_last (qs := qs), List.reverse_append] at e
  exact e
theorem revR_len {ms : List Mk} : (revR ms).length = ms.length := by
  unfold revR
  rw [List.length_reverse, List.length_map]
theorem ok_Way_neg {f fI C : Addr} {fd fdI : FuncData} {k : Nat} (F : Fun K "__neg__" "Way.__neg__" s_Way_neg f fd) (T_Way : TWay K C) (M_Way : L2.Mk K C fI) (mg_Way : mg "Way" = some (.ref C))
    (G_Way_init : FnOk P w K mg base CX0 k fI fdI ["self", "net", "start", "queues"] (spInit K C)) (b_Way_init : Binds K fdI ["self", "net", "start", "queues"] []) : FnOk P w K mg base CX0 (k + 1 + 1) f fd ["self"] (spNeg K C) := by
  refine F.ok sc_Way_neg (fun vs H Q E h => ?_) (fun cdv A outer s0 H vs Q E hr2 h => ?_)
  · obtain ⟨x, ws, qs, w, us, ms, rfl, _⟩ := h
    rfl
  · obtain ⟨x, ws, qs, w, us, ms, rfl, hx, hG, hw, hp, w6, q6, lm, q⟩ := h
    have hr := hr2.mono (Nat.le_succ k)
    refine ⟨_, (pss_one (ps_ret (pe_make M_Way G_Way_init hr2 (by rfl) mg_Way b_Way_init .nil pass0 (pa_cons (pe_fld (pv 0) rfl) (pa_cons (pe_ix ix_tup (pe_fld (pv 0) rfl) (pe_un un_neg pe_int) (fun _ _ => rfl)) (pa_cons (pe_revT (pe_fld (pv 0) rfl)) pa_nil)))))), ?_⟩
    obtain ⟨dx, v1, v2, v3, v4, v5, h0, h1, h2, h3, h4, h5⟩ := id hx.is
    obtain ⟨a4, x4, rfl, ha4, hx4⟩ := Dp.seq_of (f := true) (show Dp K H v4 (seqD true _) from h4)
    have e4 := dpa_strs_of hx4
    subst e4
    obtain ⟨a2, x2, rfl, ha2, hx2⟩ := Dp.seq_of (f := true) (show Dp K H v2 (seqD true _) from h2)
    have e2 := dpa_strs_of hx2
    subst e2
    refine ⟨_, rfl, x, C, dx, _, _, rfl, h0, T_Way.cl, T_Way.n1, f5_at.1, ?_⟩
    refine ⟨_, rfl, x, C, dx, _, _, rfl, h0, T_Way.cl, T_Way.n4, f5_at.2.2.2.1, 1, rfl, a4, _, _, _, rfl, rfl, ha4, at_last, ?_⟩
    refine ⟨_, rfl, x, C, dx, _, _, rfl, h0, T_Way.cl, T_Way.n2, f5_at.2.1, a2, _, rfl, ha2, fun p hp0 z dz hz hdz ne => ?_⟩
    have s1 : Same H (upd H p (.tup ((ms.map (nmQ qs)).map V.str).reverse)) := .upd hp0
    have hp1 : SqT K (upd H p (.tup ((ms.map (nmQ qs)).map V.str).reverse)) p (((revR ms).map (nmQ qs)).map V.str) := by
      unfold revR
      rw [nms_rev, List.map_reverse]
      exact sqt_of upd_same
    exact make_way (fq := true) hz hdz ne (s1.dp h1) (.tup hp1 dpa_strs) hG (last_mem hG hw hp) (path_back hp) w6 q6 (by rw [revR_len]; omega) fun H' s' hway => q H' z (s1.trans s') hway
theorem path_rep {qs : List QD} {w : Str} {us : List Str} {ms : List Mk} (h : path qs (w :: us) ms) : ∀ {k : Nat}, (1 < k → w = us.getLastD w) → path qs (w :: (List.replicate k us).flatten) (List.replicate k ms).flatten
  | 0, _ => True.intro
  | 1, _ => by
    show path qs (w :: (us ++ [])) (ms ++ [])
    rw [List.append_nil, List.append_nil]
    exact h
  | k + 2, hc => by
    have e := hc (by omega)
    rw [List.replicate_succ, List.replicate_succ (a := ms), List.flatten_cons, List.flatten_cons]
    refine path_cat h ?_
    rw [← e]
    exact path_rep h (k := k + 1) fun _ => e
def spMul (K : PySem.W.Frag) (C : Addr) : Sp := fun vs H Q _ => ∃ (x : Addr) (k : Nat) (ws : List Str) (qs : List QD) (w : Str) (us : List Str) (ms : List Mk), vs = [.ref x, .int (k : Nat)] ∧ WayAt K C H x ws qs w us ms ∧ NetG ws qs ∧ w ∈ ws ∧ path qs (w :: us) ms ∧ ws.length ≤ 60 ∧ qs.length ≤ 60 ∧ ms.length ≤ 1000 ∧ k ≤ 90 ∧ (1 < k → w = us.getLastD w) ∧
  ∀ H' z, Same H H' → WayAt K C H' z ws qs w (List.replicate k us).flatten (List.replicate k ms).flatten → Q (.ref z) H'
/-- so many times, refused: the way does not come back -/
def spMulR (K : PySem.W.Frag) (C CS : Addr) : Sp := fun vs H _ E => ∃ (x : Addr) (k : Nat) (ws : List Str) (qs : List QD) (w : Str) (us : List Str) (ms : List Mk), vs = [.ref x, .int (k : Nat)] ∧ WayAt K C H x ws qs w us ms ∧ ms.length ≤ 1000 ∧ 1 < k ∧ w ≠ us.getLastD w ∧ Thrown E H CS "place" (.int (ms.length : Nat))
def spMulX (K : PySem.W.Frag) (C CS : Addr) : Sp := fun vs H Q E => spMul K C vs H Q E ∨ spMulR K C CS vs H Q E
theorem okX_Way_mul {f fI fS C CS : Addr} {fd fdI fdS : FuncData} {k : Nat} (F : Fun K "__mul__" "Way.__mul__" s_Way_mul f fd) (T_Way : TWay K C) (M_Way : L2.Mk K C fI) (mg_Way : mg "Way" = some (.ref C))
    (G_Way_init : FnOk P w K mg base CX0 k fI fdI ["self", "net", "start", "queues"] (spInit K C)) (b_Way_init : Binds K fdI ["self", "net", "start", "queues"] [])
    (mg_NoStep : mg "NoStep" = some (.ref CS)) (XB_NoStep : XcB K CS "ValueError.__new__" [.type "ValueError", .type "Exception", .type "BaseException", .type "object"]) (IN_NoStep : Ini K CS fS) (G_NoStep_init : FnOk P w K mg base CX0 k fS fdS ["self", "place"] (spXi CS "place")) (b_NoStep_init : Binds K fdS ["self", "place"] [])
    (m_len : mg "len" = none) : FnOk P w K mg base (L2.CX P w) (k + 1 + 1) f fd ["self", "many"] (spMulX K C CS) := by
  refine F.okX sc_Way_mul (fun vs H Q E h => ?_) (fun cdv A outer s0 H vs Q E hr2 h => ?_)
  · rcases h with h | h
    · obtain ⟨x, k, ws, qs, w, us, ms, rfl, _⟩ := h
      rfl
    · obtain ⟨x, k, ws, qs, w, us, ms, rfl, _⟩ := h
      rfl
  · have hr := hr2.mono (Nat.le_succ _)
    have tk : Takes (cxOf (L2.CX P w) P w K mg base sc_Way_mul_N "Way.__mul__" (defScope s_Way_mul) f cdv A outer s0 H E) (fun cls d _ H => E cls d H) := takes_of rfl rfl rfl rfl
    refine ⟨_, (pss_cons (ps_if (PW.pt (pw_and (pt_cmpR op_gt (pv 1) pe_int (nomark _)) (pw_and1 (pt_cmpR op_ne (pe_ix ix_tup (pe_fld (pv 0) rfl) pe_int (fun _ _ => rfl)) (pe_ix ix_tup (pe_fld (pv 0) rfl) (pe_un un_neg pe_int) (fun _ _ => rfl)) (nomark _))))) (pss_one (ps_raise rfl tk (pmk_xb PySem.F.excBase_ValueError XB_NoStep IN_NoStep.iC IN_NoStep.tI G_NoStep_init hr2 b_NoStep_init pass0 (by rfl) mg_NoStep (pa_cons (pe_callB call_len_seq (by rfl) m_len PySem.boot_len (pa_cons (pe_fld (pv 0) rfl) pa_nil)) pa_nil)))) pss_nil) 
    (pss_cons (ps_set (i := 2) sc_Way_mul.nd rfl (Or.inl rfl) (pe_ifExp (pt_cmpR op_gt (pe_callB call_len_seq (by rfl) m_len PySem.boot_len (pa_cons (pe_fld (pv 0) rfl) pa_nil)) pe_int (nomark _)) (pe_op op_repW (pe_fld (pv 0) rfl) (pv 1)) (pe_tup pa_nil))) 
    (pss_one (ps_ret (pe_make M_Way G_Way_init hr2 (by rfl) mg_Way b_Way_init .nil pass0 (pa_cons (pe_fld (pv 0) rfl) (pa_cons (pe_ix ix_tup (pe_fld (pv 0) rfl) pe_int (fun _ _ => rfl)) (pa_cons (pv 2) pa_nil)))))))), ?_⟩
    rcases h with h | h
    rotate_left
    · obtain ⟨x, k, ws, qs, w, us, ms, rfl, hx, lm, hk1, hn, hT⟩ := h
      obtain ⟨dx, v1, v2, v3, v4, v5, h0, h1, h2, h3, h4, h5⟩ := id hx.is
      obtain ⟨a4, x4, rfl, ha4, hx4⟩ := Dp.seq_of (f := true) (show Dp K H v4 (seqD true _) from h4)
      have e4 := dpa_strs_of hx4
      subst e4
      obtain ⟨a3, x3, rfl, ha3, hx3⟩ := Dp.seq_of (f := true) (show Dp K H v3 (seqD true _) from h3)
      have l3 : x3.length = ms.length := by rw [dpa_len hx3, List.length_map]
      refine ⟨_, rfl, _, _, rfl, rfl, ⟨_, rfl, ?_⟩⟩
      rw [decide_eq_true (show (1 : Int) < (k : Nat) by omega)]
      refine iteT ?_
      refine ⟨_, rfl, x, C, dx, _, _, rfl, h0, T_Way.cl, T_Way.n4, f5_at.2.2.2.1, a4, _, _, _, rfl, rfl, ha4, at_first, ?_⟩
      refine ⟨_, rfl, x, C, dx, _, _, rfl, h0, T_Way.cl, T_Way.n4, f5_at.2.2.2.1, 1, rfl, a4, _, _, _, rfl, rfl, ha4, at_last, rfl, _, rfl, ?_⟩
      rw [decS', decide_eq_false hn]
      refine iteT ?_
      exact mk_thrown (fun R r => ⟨_, rfl, x, C, dx, _, _, rfl, h0, T_Way.cl, T_Way.n3, f5_at.2.2.1, a3, _, rfl, .inr ha3, by rw [l3]; exact r⟩) hT
    obtain ⟨x, k, ws, qs, w, us, ms, rfl, hx, hG, hw, hp, w6, q6, lm, hk9, hcl, q⟩ := h
    obtain ⟨dx, v1, v2, v3, v4, v5, h0, h1, h2, h3, h4, h5⟩ := id hx.is
    obtain ⟨a4, x4, rfl, ha4, hx4⟩ := Dp.seq_of (f := true) (show Dp K H v4 (seqD true _) from h4)
    have e4 := dpa_strs_of hx4
    subst e4
    obtain ⟨a2, x2, rfl, ha2, hx2⟩ := Dp.seq_of (f := true) (show Dp K H v2 (seqD true _) from h2)
    have e2 := dpa_strs_of hx2
    subst e2
    by_cases hm0 : ms = []
    · subst hm0
      obtain rfl : us = [] := by
        have := path_len hp
        exact List.eq_nil_of_length_eq_zero (by simpa using this)
      have fl : ∀ {α : Type}, (List.replicate k ([] : List α)).flatten = [] := fun {α} => by
        induction k with
        | zero => rfl
        | succ k ih => rw [List.replicate_succ, List.flatten_cons, List.nil_append]; exact List.flatten_replicate_nil
      rw [fl, fl] at q
      have fin : ∀ {H1 : Hp} {p : Addr}, Same H H1 → SqT K H1 p [] → ∀ (z dz : Addr), H1 z = none → H1 dz = none → dz ≠ z → spInit K C [.ref z, v1, .str w, .ref p] (upd (upd H1 dz (.own z)) z (.ins C dz [])) (fun v H2 => v = .non ∧ Q (.ref z) H2) E0 := fun {H1 p} s1 hp1 z dz hz hdz ne =>
        make_way (fq := true) (ms := []) hz hdz ne (s1.dp h1) (.tup hp1 .nil) hG hw hp w6 q6 (by decide) fun H' s' hway => q H' z (s1.trans s') hway
      refine ⟨_, rfl, _, _, rfl, rfl, ⟨_, rfl, ?_⟩⟩
      by_cases hk : (1 : Int) < (k : Nat)
      · rw [decide_eq_true hk]
        refine iteT ?_
        refine ⟨_, rfl, x, C, dx, _, _, rfl, h0, T_Way.cl, T_Way.n4, f5_at.2.2.2.1, a4, _, _, _, rfl, rfl, ha4, at_first, ?_⟩
        refine ⟨_, rfl, x, C, dx, _, _, rfl, h0, T_Way.cl, T_Way.n4, f5_at.2.2.2.1, 1, rfl, a4, _, _, _, rfl, rfl, ha4, at_last, rfl, _, rfl, ?_⟩
        rw [decS', decide_eq_true (hcl (by omega))]
        refine iteF ?_
        dsimp only [tNext]
        refine asg_of ?_
        refine ⟨_, rfl, x, C, dx, _, _, rfl, h0, T_Way.cl, T_Way.n2, f5_at.2.1, a2, _, rfl, .inr ha2, _, _, rfl, rfl, ?_⟩
        refine ⟨_, rfl, ?_⟩
        refine iteF ?_
        refine ⟨by show (0:Nat) ≤ _; decide, fun p hp0 => ?_⟩
        have h0' := Same.upd (o := .tup []) hp0 _ _ h0
        have ha4' := (Same.upd (o := .tup []) hp0).sqF ha4
        dsimp only [List.set]
        refine ⟨_, rfl, x, C, dx, _, _, rfl, h0', T_Way.cl, T_Way.n1, f5_at.1, ?_⟩
        refine ⟨_, rfl, x, C, dx, _, _, rfl, h0', T_Way.cl, T_Way.n4, f5_at.2.2.2.1, a4, _, _, _, rfl, rfl, ha4', at_first, ?_⟩
        refine ⟨_, rfl, ?_⟩
        exact fin (.upd hp0) (sqt_of upd_same)
      · rw [decide_eq_false hk]
        refine iteF ?_
        refine iteF ?_
        dsimp only [tNext]
        refine asg_of ?_
        refine ⟨_, rfl, x, C, dx, _, _, rfl, h0, T_Way.cl, T_Way.n2, f5_at.2.1, a2, _, rfl, .inr ha2, _, _, rfl, rfl, ?_⟩
        refine ⟨_, rfl, ?_⟩
        refine iteF ?_
        refine ⟨by show (0:Nat) ≤ _; decide, fun p hp0 => ?_⟩
        have h0' := Same.upd (o := .tup []) hp0 _ _ h0
        have ha4' := (Same.upd (o := .tup []) hp0).sqF ha4
        dsimp only [List.set]
        refine ⟨_, rfl, x, C, dx, _, _, rfl, h0', T_Way.cl, T_Way.n1, f5_at.1, ?_⟩
        refine ⟨_, rfl, x, C, dx, _, _, rfl, h0', T_Way.cl, T_Way.n4, f5_at.2.2.2.1, a4, _, _, _, rfl, rfl, ha4', at_first, ?_⟩
        refine ⟨_, rfl, ?_⟩
        exact fin (.upd hp0) (sqt_of upd_same)
    have hpos : (0 : Int) < (((ms.map (nmQ qs)).map V.str).length : Nat) := by
      rw [List.length_map, List.length_map]
      have := List.length_pos_iff.mpr hm0
      omega
    have hne : (ms.map (nmQ qs)).map V.str ≠ [] := fun z => by
      rw [z] at hpos
      exact absurd hpos (by decide)
    have hl2 : ((ms.map (nmQ qs)).map V.str).length ≤ 1000 := by
      rw [List.length_map, List.length_map]
      exact lm
    have hrep := path_rep hp hcl
    have erep : (((List.replicate k ms).flatten.map (nmQ qs)).map V.str) = (List.replicate k ((ms.map (nmQ qs)).map V.str)).flatten := by
      rw [List.map_flatten, List.map_flatten, List.map_replicate, List.map_replicate]
    have flen : (List.replicate k ms).flatten.length ≤ 100000 := by
      rw [PyProof.Rows.lm_len_rep_flat]
      have a1 : k * ms.length ≤ 90 * 1000 := Nat.mul_le_mul hk9 lm
      omega
    have fin : ∀ {H1 : Hp} {p : Addr}, Same H H1 → SqT K H1 p (List.replicate k ((ms.map (nmQ qs)).map V.str)).flatten → ∀ (z dz : Addr), H1 z = none → H1 dz = none → dz ≠ z → spInit K C [.ref z, v1, .str w, .ref p] (upd (upd H1 dz (.own z)) z (.ins C dz [])) (fun v H2 => v = .non ∧ Q (.ref z) H2) E0 := fun {H1 p} s1 hp1 z dz hz hdz ne =>
      make_way (fq := true) hz hdz ne (s1.dp h1) (.tup (by rw [erep]; exact hp1) dpa_strs) hG hw hrep w6 q6 flen fun H' s' hway => q H' z (s1.trans s') hway
    refine ⟨_, rfl, _, _, rfl, rfl, ⟨_, rfl, ?_⟩⟩
    by_cases hk : (1 : Int) < (k : Nat)
    · rw [decide_eq_true hk]
      refine iteT ?_
      refine ⟨_, rfl, x, C, dx, _, _, rfl, h0, T_Way.cl, T_Way.n4, f5_at.2.2.2.1, a4, _, _, _, rfl, rfl, ha4, at_first, ?_⟩
      refine ⟨_, rfl, x, C, dx, _, _, rfl, h0, T_Way.cl, T_Way.n4, f5_at.2.2.2.1, 1, rfl, a4, _, _, _, rfl, rfl, ha4, at_last, rfl, _, rfl, ?_⟩
      rw [decS', decide_eq_true (hcl (by omega))]
      refine iteF ?_
      dsimp only [tNext]
      refine asg_of ?_
      refine ⟨_, rfl, x, C, dx, _, _, rfl, h0, T_Way.cl, T_Way.n2, f5_at.2.1, a2, _, rfl, .inr ha2, _, _, rfl, rfl, ?_⟩
      refine ⟨_, rfl, ?_⟩
      rw [decide_eq_true hpos]
      refine iteT ?_
      refine ⟨_, rfl, x, C, dx, _, _, rfl, h0, T_Way.cl, T_Way.n2, f5_at.2.1, _, rfl, ?_⟩
      refine ⟨a2, _, _, rfl, rfl, ha2, hne, by omega, by omega, hl2, fun e1 => ?_, fun e0 p hp0 => ?_, fun e2 p hp0 => ?_⟩
      · exfalso; omega
      · exfalso; omega
      · rw [Int.toNat_natCast]
        have s1 : Same H (upd H p (.tup (List.replicate k ((ms.map (nmQ qs)).map V.str)).flatten)) := .upd hp0
        have h0' := s1 _ _ h0
        have ha4' := s1.sqF ha4
        dsimp only [List.set]
        refine ⟨_, rfl, x, C, dx, _, _, rfl, h0', T_Way.cl, T_Way.n1, f5_at.1, ?_⟩
        refine ⟨_, rfl, x, C, dx, _, _, rfl, h0', T_Way.cl, T_Way.n4, f5_at.2.2.2.1, a4, _, _, _, rfl, rfl, ha4', at_first, ?_⟩
        refine ⟨_, rfl, ?_⟩
        exact fin s1 (sqt_of upd_same)
    · rw [decide_eq_false hk]
      refine iteF ?_
      refine iteF ?_
      dsimp only [tNext]
      refine asg_of ?_
      refine ⟨_, rfl, x, C, dx, _, _, rfl, h0, T_Way.cl, T_Way.n2, f5_at.2.1, a2, _, rfl, .inr ha2, _, _, rfl, rfl, ?_⟩
      refine ⟨_, rfl, ?_⟩
      rw [decide_eq_true hpos]
      refine iteT ?_
      refine ⟨_, rfl, x, C, dx, _, _, rfl, h0, T_Way.cl, T_Way.n2, f5_at.2.1, _, rfl, ?_⟩
      refine ⟨a2, _, _, rfl, rfl, ha2, hne, by omega, by omega, hl2, fun e1 => ?_, fun e0 p hp0 => ?_, fun e2 p hp0 => ?_⟩
      · dsimp only [List.set]
        refine ⟨_, rfl, x, C, dx, _, _, rfl, h0, T_Way.cl, T_Way.n1, f5_at.1, ?_⟩
        refine ⟨_, rfl, x, C, dx, _, _, rfl, h0, T_Way.cl, T_Way.n4, f5_at.2.2.2.1, a4, _, _, _, rfl, rfl, ha4, at_first, ?_⟩
        refine ⟨_, rfl, ?_⟩
        obtain rfl : k = 1 := by omega
        exact fin (fun _ _ e => e) (by rw [List.replicate_one, List.flatten_cons, List.flatten_nil, List.append_nil]; exact ha2)
      · have h0' := Same.upd (o := .tup []) hp0 _ _ h0
        have ha4' := (Same.upd (o := .tup []) hp0).sqF ha4
        dsimp only [List.set]
        refine ⟨_, rfl, x, C, dx, _, _, rfl, h0', T_Way.cl, T_Way.n1, f5_at.1, ?_⟩
        refine ⟨_, rfl, x, C, dx, _, _, rfl, h0', T_Way.cl, T_Way.n4, f5_at.2.2.2.1, a4, _, _, _, rfl, rfl, ha4', at_first, ?_⟩
        refine ⟨_, rfl, ?_⟩
        obtain rfl : k = 0 := by omega
        exact fin (.upd hp0) (sqt_of upd_same)
      · exfalso; omega
end
end Jl

set_option Elab.async false
set_option linter.all false
set_option maxRecDepth 100000
set_option maxHeartbeats 1000000
set_option pp.maxSteps 300
namespace Jl
open PySem PySem.Spec PyProof.Rows L2
open Evl (sz_of sz_lt)
local macro_rules | `(tactic| walk_at "at") => `(tactic| first | exact box0 | exact box1 | exact box2)
local macro_rules | `(tactic| walk_at "sq") => `(tactic| first | (show SqL _ _ _ _; assumption) | (show SqT _ _ _ _; assumption) | (show _ = some _; assumption))
local macro_rules | `(tactic| walk_at "side") => `(tactic| first
  | (show (0 : Int) < _; decide)
  | (show (0 : Int) < _; omega)
  | exact ⟨by decide, by decide, by decide⟩
  | exact sz_of (Nat.le_of_ble_eq_true rfl)
  | exact rfl
  | exact Or.inl (by decide)
  | exact Or.inr (by decide)
  | exact Or.inr ⟨by omega, by omega⟩
  | exact Or.inl ⟨by omega, by omega⟩
  | exact ⟨by decide, by decide +kernel⟩)
local macro_rules | `(tactic| walk_at "ev1") => `(tactic| first
  | refine ⟨_, rfl, ?_⟩
  | refine ⟨_, _, rfl, rfl, ?_⟩
  | refine ⟨_, _, _, _, rfl, rfl, (by walk_at "sq"), (by walk_at "at"), ?_⟩
  | refine ⟨_, _, rfl, (by walk_at "sq"), ?_⟩
  | refine ⟨_, _, rfl, Or.inl (by walk_at "sq"), ?_⟩
  | refine ⟨_, _, rfl, Or.inr (by walk_at "sq"), ?_⟩
  | refine Or.inl ⟨_, rfl, ?_⟩
  | refine Or.inr ⟨_, rfl, ?_⟩
  | refine ⟨(by walk_at "side"), ?_⟩
  | refine ⟨.inl ⟨rfl, _, (by walk_at "sq")⟩, ?_⟩
  | refine ⟨_, _, rfl, ?_⟩)
local macro_rules | `(tactic| walk_at "nrm") => `(tactic| dsimp only [tNil, tCons, tC, tCB])
local macro_rules | `(tactic| walk_at "ev") => `(tactic| repeat (walk_at "ev1"))
/-! ### len, in, ==, != by an own class's methods -/
section
variable {X : Cx} {CX : CXT} {C f : Addr} {fd : FuncData} {ps : List Str} {n : Nat} {sp : Sp}
/-- a def run below the running body -/
theorem run_sub {A : Around} {pins : List (Addr × Obj)} {σ : L2.St} {H : Hp} {s : Shared} {Q : VK} {E : XK} {us : List Value} {vs : List V} (sb : Sub X n A) (F : FnOk X.prog X.w X.K X.mg X.base CX n f fd ps sp) (hb : Binds X.K fd ps []) (hx : Passes CX X E) (I : L2.Inv X pins σ H s) (r : Vals vs us) (h : sp vs H Q E) :
    wpAny (model X.prog X.w) A (call (.ref f) us) (EP X pins σ Q) X.xe s := by
  have hl : us.length = ps.length := by rw [← r.length]; exact F.len _ _ _ _ h
  have e0 : Env0 X.prog X.w X.K X.mg X.base A X.stack s H := by
    have e := I.env0
    exact ⟨by rw [sb.fr]; exact e.frames, e.mod, e.bs, e.bsz, e.funs, e.frf, e.hok, e.bare⟩
  refine wpAny_call (codeAny_mono (F.run A X.stack s H ⟨us, []⟩ us vs Q E sb.room e0 (by
    have := hb s us I.kIn (by simpa using hl)
    simpa using this) r h) fun r s' hq => ?_)
  cases r with
  | error e => exact hx pins σ H s e s' I hq
  | ok fl =>
    cases fl with
    | ret w => exact I.after hq
    | next => exact False.elim hq
    | brk => exact False.elim hq
    | cont => exact False.elim hq
/-- len(x), x of the class at C -/
def rLenI (C : Addr) (sp : Sp) : List V → Hp → VK → Prop := fun xs H Q => ∃ (a dx : Addr) (fs : List (Str × V)), xs = [.ref a] ∧ H a = some (.ins C dx fs) ∧ sp [.ref a] H (fun v H' => (∃ n : Nat, v = .int (n : Nat) ∧ n < 2 ^ 62) ∧ Q v H') E0
theorem call_lenI (F : FnOk X.prog X.w X.K X.mg X.base CX n f fd ps sp) (hr : Room (n + 1) X.A) (hs : Meth X.K C "__len__" f) (hb : Binds X.K fd ps []) (hx : Passes CX X E0) : CallR X (.builtin "len") (rLenI C sp) := by
  intro pins s σ H xs us Q I r h
  obtain ⟨a, dx, fs, rfl, ha, q⟩ := h
  cases r with
  | cons rx rr =>
    cases rr
    cases rx
    obtain ⟨mA, J, _⟩ := ins_get I.hok ha
    obtain ⟨od, J, _⟩ := J.look
    obtain ⟨m, hF⟩ := I.fr
    refine PySem.W.len_K hF I.ok.mod.kin J hs.at_ hs.fn ?_
    refine wpAny_mono (run_sub (us := [.ref a]) (vs := [.ref a]) (Sub.in1 ⟨hr, rfl⟩) F hb hx I (.cons rfl .nil) q) (fun v s' z => ?_) fun _ _ z => z
    obtain ⟨y, H', I', ry, ⟨k, rfl, hk⟩, q'⟩ := z
    obtain ⟨t, rfl⟩ := ry
    exact ⟨⟨by omega, by omega⟩, ⟨.int (k : Nat), H', I'.tok _, ⟨_, rfl⟩, q'⟩⟩
/-- y in x, x of the class at C -/
def rInI (C : Addr) (sp : Sp) : R2 := fun y x H Q => ∃ (a dx : Addr) (fs : List (Str × V)), x = .ref a ∧ H a = some (.ins C dx fs) ∧ sp [.ref a, y] H (fun v H' => (∃ b, v = .bl b) ∧ Q v H') E0
def rNotInI (C : Addr) (sp : Sp) : R2 := fun y x H Q => ∃ (a dx : Addr) (fs : List (Str × V)), x = .ref a ∧ H a = some (.ins C dx fs) ∧ sp [.ref a, y] H (fun v H' => ∃ b, v = .bl b ∧ Q (.bl (!b)) H') E0
theorem op_inI (F : FnOk X.prog X.w X.K X.mg X.base CX n f fd ps sp) (hr : Room n X.A) (hs : Meth X.K C "__contains__" f) (hb : Binds X.K fd ps []) (hx : Passes CX X E0) : OpR X (compareOp .In) (rInI C sp) := by
  intro pins s σ H y x u v Q I ry rx h
  obtain ⟨a, dx, fs, rfl, ha, q⟩ := h
  cases rx
  obtain ⟨mA, J, _⟩ := ins_get I.hok ha
  obtain ⟨od, J, _⟩ := J.look
  obtain ⟨m, hF⟩ := I.fr
  refine PySem.W.in_K hF I.ok.mod.kin J hs.at_ hs.fn ?_
  refine wpAny_mono (run_fn (us := [.ref a, u]) (vs := [.ref a, y]) F hr hb .nil hx I (.cons rfl (.cons ry .nil)) q) (fun w s' z => ?_) fun _ _ z => z
  obtain ⟨y', H', I', ry', ⟨b, rfl⟩, q'⟩ := z
  cases ry'
  exact wpAny_truthy_bool ⟨.bl b, H', I', rfl, q'⟩
theorem op_notInI (F : FnOk X.prog X.w X.K X.mg X.base CX n f fd ps sp) (hr : Room n X.A) (hs : Meth X.K C "__contains__" f) (hb : Binds X.K fd ps []) (hx : Passes CX X E0) : OpR X (compareOp .NotIn) (rNotInI C sp) := by
  intro pins s σ H y x u v Q I ry rx h
  obtain ⟨a, dx, fs, rfl, ha, q⟩ := h
  cases rx
  obtain ⟨mA, J, _⟩ := ins_get I.hok ha
  obtain ⟨od, J, _⟩ := J.look
  obtain ⟨m, hF⟩ := I.fr
  refine PySem.W.notIn_K hF I.ok.mod.kin J hs.at_ hs.fn ?_
  refine wpAny_mono (run_fn (us := [.ref a, u]) (vs := [.ref a, y]) F hr hb .nil hx I (.cons rfl (.cons ry .nil)) q) (fun w s' z => ?_) fun _ _ z => z
  obtain ⟨y', H', I', ry', b, rfl, q'⟩ := z
  cases ry'
  exact wpAny_truthy_bool ⟨.bl (!b), H', I', rfl, q'⟩
/-- what may stand on the right of == -/
def EqTo (K : PySem.W.Frag) (C : Addr) (y : V) (H : Hp) : Prop := (∃ b dy gs, y = .ref b ∧ H b = some (.ins C dy gs)) ∨ ((∃ i, y = .int i) ∧ PySem.W.subIn K (.type "int") (.ref C) = some false) ∨ ((∃ b xs, y = .ref b ∧ SqT K H b xs) ∧ PySem.W.subIn K (.type "tuple") (.ref C) = some false) ∨ ((∃ b xs, y = .ref b ∧ SqL K H b xs) ∧ PySem.W.subIn K (.type "list") (.ref C) = some false)
theorem eqTo_type {pins : List (Addr × Obj)} {σ : L2.St} {H : Hp} {s : Shared} {y : V} {u : Value} (h : EqTo X.K C y H) (I : L2.Inv X pins σ H s) (ry : RelV y u) : ∃ tb, PySem.W.Looks (model X.prog X.w) s.heap (typeOf u) tb ∧ PySem.W.notFirst X.K C tb = true := by
  rcases h with ⟨b, dy, gs, rfl, hb⟩ | ⟨⟨i, rfl⟩, hs⟩ | ⟨⟨b, xs, rfl, hb⟩, hs⟩ | ⟨⟨b, xs, rfl, hb⟩, hs⟩
  · cases ry
    obtain ⟨mB, J', _⟩ := ins_get I.hok hb
    obtain ⟨od', J', _⟩ := J'.look
    exact ⟨_, J'.type, by simp [PySem.W.notFirst]⟩
  · obtain ⟨t, rfl⟩ := ry
    exact ⟨_, PySem.W.Looks.of_pure rfl, by simp [PySem.W.notFirst, hs]⟩
  · cases ry
    obtain ⟨its, r, ⟨o, ho, hc, _⟩, hz⟩ := I.tuple hb
    refine ⟨.type "tuple", ?_, by simp [PySem.W.notFirst, hs]⟩
    rw [← hc]
    exact fun A Q E s' k q => wpAny_typeOf_ref (k _ _ ho) q
  · cases ry
    obtain ⟨its, r, ⟨o, n, ho, hc, _⟩, hz⟩ := I.list hb
    refine ⟨.type "list", ?_, by simp [PySem.W.notFirst, hs]⟩
    rw [← hc]
    exact fun A Q E s' k q => wpAny_typeOf_ref (k _ _ ho) q
def rEqI (K : PySem.W.Frag) (C : Addr) (sp : Sp) : R2 := fun x y H Q => ∃ (a dx : Addr) (fs : List (Str × V)), x = .ref a ∧ H a = some (.ins C dx fs) ∧ EqTo K C y H ∧ sp [.ref a, y] H (fun v H' => (∃ b, v = .bl b) ∧ Q v H') E0
theorem op_eqI (F : FnOk X.prog X.w X.K X.mg X.base CX n f fd ps sp) (hr : Room n X.A) (hs : Meth X.K C "__eq__" f) (hb : Binds X.K fd ps []) (hx : Passes CX X E0) : OpR X (compareOp .Eq) (rEqI X.K C sp) := by
  intro pins s σ H x y v u Q I rx ry h
  obtain ⟨a, dx, fs, rfl, ha, hy, q⟩ := h
  cases rx
  obtain ⟨mA, J, _⟩ := ins_get I.hok ha
  obtain ⟨od, J, _⟩ := J.look
  obtain ⟨m, hF⟩ := I.fr
  obtain ⟨tb, hT, hn⟩ := eqTo_type hy I ry
  show wpAny (model X.prog X.w) X.A (richCompare .Eq (.ref a) u) (EP X pins σ Q) X.xe s
  refine PySem.W.cmp_K (op := .Eq) hr.units0 hF I.ok.mod.kin J hT hn hs.at_ hs.fn ?_
  refine wpAny_mono (run_fn (us := [.ref a, u]) (vs := [.ref a, y]) F hr hb .nil hx I (.cons rfl (.cons ry .nil)) q) (fun w s' z => ?_) fun _ _ z => z
  obtain ⟨y', H', I', ry', ⟨b, rfl⟩, q'⟩ := z
  cases ry'
  exact ⟨.bl b, H', I', rfl, q'⟩
/-- != by object.__ne__, which asks the own == -/
def rNeI (K : PySem.W.Frag) (C : Addr) (sp : Sp) : R2 := fun x y H Q => ∃ (a dx : Addr) (fs : List (Str × V)), x = .ref a ∧ H a = some (.ins C dx fs) ∧ EqTo K C y H ∧ sp [.ref a, y] H (fun v H' => ∃ b, v = .bl b ∧ Q (.bl (!b)) H') E0
theorem ifBound_C {prog : Program} {w : World} {A : Around} {E : Value → Shared → Prop} {s : Shared} {K : PySem.W.Frag} {x C : Addr} {ox : Obj} {od : Option Obj} {name : Str} {i : String} {args : List Value} {Q : Option Value → Shared → Prop} (Y : K.In s.heap) (I : PySem.W.InstAt s.heap x ox C od) (hs : PySem.W.findIn K (.ref C) name = some (some (.builtin i)))
    (hb : bindSpecial (.builtin i) (.ref x) = pure (.builtin i, [.ref x])) (h : wpAny (model prog w) A (call (.builtin i) (.ref x :: args)) (fun v => Q (some v)) E s) : wpAny (model prog w) A (callSpecialIfBound? (.ref x) name args) Q E s := by
  simp only [callSpecialIfBound?, bindSpecialIfBound?]
  refine wpAny_holding (wpAny_bind (wpAny_bind (wpAny_bind (I.type.here ((PySem.W.looks_findIn Y hs).here ?_)))))
  refine wpAny_bind (wpAny_askSetting (wpAny_ite ?_))
  have fin : wpAny (model prog w) A (call (.builtin i) ([.ref x] ++ args) >>= fun v => pure (some v)) Q E s := wpAny_bind (wpAny_mono h (fun v s' h' => wpAny_pure h') fun _ _ h' => h')
  rw [hb]
  split
  · exact wpAny_bind (wpAny_pure (wpAny_pure (by exact fin)))
  · exact wpAny_tryCatch (wpAny_bind (wpAny_pure (wpAny_pure (by exact fin))))
theorem cmp_by {prog : Program} {w : World} {A : Around} {E : Value → Shared → Prop} {s : Shared} {K : PySem.W.Frag} {x C : Addr} {ox : Obj} {od : Option Obj} {b tb : Value} {op : CmpOp} {Q : Value → Shared → Prop} (hu : A.units < cLine) (Y : K.In s.heap) (I : PySem.W.InstAt s.heap x ox C od)
    (hb : PySem.W.Looks (model prog w) s.heap (typeOf b) tb) (hn : PySem.W.notFirst K C tb = true) (one : wpAny (model prog w) A (tryCompare (.ref x) (cmpInfo op).2.1 b) (fun r s' => ∃ v, r = some v ∧ Q v s') E s) : wpAny (model prog w) A (richCompare op (.ref x) b) Q E s := by
  unfold richCompare
  simp only [oneThing_ref]
  refine wpAny_holding (wpAny_bind (wpAny_cRoomFor hu ?_))
  refine wpAny_bind (I.type.here (wpAny_bind (hb.here ?_)))
  have fin : ∀ {P' : Prop}, P' → P' := id
  by_cases e : (Value.ref C != tb) = true
  · have es : PySem.W.subIn K tb (.ref C) = some false := by
      rcases Bool.or_eq_true_iff.mp hn with e' | e'
      · rw [beq_iff_eq.mp e'] at e
        simp at e
      · exact beq_iff_eq.mp e'
    rw [if_pos e]
    refine wpAny_bind ((PySem.W.looks_subIn Y es).here ?_)
    simp only [Bool.false_eq_true, if_false]
    refine wpAny_bind (wpAny_mono one (fun r s' z => ?_) fun _ _ e => e)
    obtain ⟨v, rfl, hq⟩ := z
    exact wpAny_pure hq
  · rw [if_neg e]
    refine wpAny_bind (wpAny_pure ?_)
    simp only [Bool.false_eq_true, if_false]
    refine wpAny_bind (wpAny_mono one (fun r s' z => ?_) fun _ _ e => e)
    obtain ⟨v, rfl, hq⟩ := z
    exact wpAny_pure hq
theorem op_neI (F : FnOk X.prog X.w X.K X.mg X.base CX n f fd ps sp) (hr : Room (n + 1) X.A) (hs : Meth X.K C "__eq__" f) (hne : PySem.W.findIn X.K (.ref C) "__ne__" = some (some (.builtin "object.__ne__"))) (hmo : PySem.W.mroIn X.K C (.type "object") = some true) (hb : Binds X.K fd ps []) (hx : Passes CX X E0) : OpR X (compareOp .NotEq) (rNeI X.K C sp) := by
  intro pins s σ H x y v u Q I rx ry h
  obtain ⟨a, dx, fs, rfl, ha, hy, q⟩ := h
  cases rx
  obtain ⟨mA, J, _⟩ := ins_get I.hok ha
  obtain ⟨od, J, _⟩ := J.look
  obtain ⟨m, hF⟩ := I.fr
  obtain ⟨tb, hT, hn⟩ := eqTo_type hy I ry
  have Y := I.kIn
  show wpAny (model X.prog X.w) X.A (richCompare .NotEq (.ref a) u) (EP X pins σ Q) X.xe s
  have run := wpAny_mono (run_sub (us := [.ref a, u]) (vs := [.ref a, y]) (Sub.in1 ⟨hr, rfl⟩) F hb hx I (.cons rfl (.cons ry .nil)) q) (fun w s' z => z) fun _ _ z => z
  have one : wpAny (model X.prog X.w) X.A (tryCompare (.ref a) "__ne__" u) (fun r s' => ∃ v, r = some v ∧ EP X pins σ Q v s') X.xe s := by
    unfold tryCompare
    refine wpAny_bind (ifBound_C Y J hne (PySem.F.cmp_object.ne.bind _) ?_)
    refine wpAny_call (codeAny_call_builtin PySem.F.cmp_object.ne.plain PySem.F.cmpEntry_ne ?_)
    have sub : PySem.W.Looks (model X.prog X.w) s.heap (isInstance (.ref a) (.type "object")) true := J.type.andThen (PySem.W.looks_mroIn Y hmo)
    refine PySem.W.check_slot PySem.F.cmpKind_ne PySem.F.cmpSplit_ne sub (PySem.F.cmpArgs_ne _ _) ?_
    unfold Builtin.«object.__ne__»
    have hu1 : X.A.in1.units < cLine := (Sub.in1 (X := X) (n := n) ⟨hr, rfl⟩).room.units0
    have h2 : wpAny (model X.prog X.w) X.A.in1 (callSpecialIfBound? (.ref a) "__eq__" [u]) (fun r s' => ∃ b, r = some (.bool b) ∧ EP X pins σ Q (.bool (!b)) s') X.xe s := by
      refine PySem.W.ifBound_K Y J hs.at_ hs.fn (wpAny_mono run (fun w s' z => ?_) fun _ _ z => z)
      obtain ⟨y', H', I', ry', b, rfl, q'⟩ := z
      cases ry'
      exact ⟨b, rfl, .bl (!b), H', I', rfl, q'⟩
    repeat (first | with_reducible refine wpAny_cRoomFor hu1 ?_ | (with_reducible refine wpAny_bind (wpAny_mono h2 (fun r s' z => ?_) fun _ _ z => z); obtain ⟨b, rfl, hq⟩ := z) | wp_step)
    exact ⟨_, rfl, hq⟩
  refine cmp_by (op := .NotEq) hr.units0 Y J hT hn one
end
end Jl

set_option Elab.async false
set_option linter.all false
set_option maxRecDepth 100000
set_option maxHeartbeats 1000000
set_option pp.maxSteps 300
namespace Jl
open PySem PySem.Spec PyProof.Rows L2
open Evl (sz_of sz_lt)
local macro_rules | `(tactic| walk_at "at") => `(tactic| first | exact box0 | exact box1 | exact box2)
local macro_rules | `(tactic| walk_at "sq") => `(tactic| first | (show SqL _ _ _ _; assumption) | (show SqT _ _ _ _; assumption) | (show _ = some _; assumption))
local macro_rules | `(tactic| walk_at "side") => `(tactic| first
  | (show (0 : Int) < _; decide)
  | (show (0 : Int) < _; omega)
  | exact ⟨by decide, by decide, by decide⟩
  | exact sz_of (Nat.le_of_ble_eq_true rfl)
  | exact rfl
  | exact Or.inl (by decide)
  | exact Or.inr (by decide)
  | exact Or.inr ⟨by omega, by omega⟩
  | exact Or.inl ⟨by omega, by omega⟩
  | exact ⟨by decide, by decide +kernel⟩)
local macro_rules | `(tactic| walk_at "ev1") => `(tactic| first
  | refine ⟨_, rfl, ?_⟩
  | refine ⟨_, _, rfl, rfl, ?_⟩
  | refine ⟨_, _, _, _, rfl, rfl, (by walk_at "sq"), (by walk_at "at"), ?_⟩
  | refine ⟨_, _, rfl, (by walk_at "sq"), ?_⟩
  | refine ⟨_, _, rfl, Or.inl (by walk_at "sq"), ?_⟩
  | refine ⟨_, _, rfl, Or.inr (by walk_at "sq"), ?_⟩
  | refine Or.inl ⟨_, rfl, ?_⟩
  | refine Or.inr ⟨_, rfl, ?_⟩
  | refine ⟨(by walk_at "side"), ?_⟩
  | refine ⟨.inl ⟨rfl, _, (by walk_at "sq")⟩, ?_⟩
  | refine ⟨_, _, rfl, ?_⟩)
local macro_rules | `(tactic| walk_at "nrm") => `(tactic| dsimp only [tNil, tCons, tC, tCB])
local macro_rules | `(tactic| walk_at "ev") => `(tactic| repeat (walk_at "ev1"))
abbrev sc_Way_steps_N : List Str := ["self"]
abbrev s_Way_steps : Stmt := inClass (topS 10) 1
theorem sc_Way_steps : FnScope ["self"] ["self"] (defScope s_Way_steps) := ⟨rfl, rfl, rfl, by decide +kernel, rfl, by decide +kernel, by decide +kernel⟩
abbrev sc_Way_len_N : List Str := ["self"]
abbrev s_Way_len : Stmt := inClass (topS 10) 7
theorem sc_Way_len : FnScope ["self"] ["self"] (defScope s_Way_len) := ⟨rfl, rfl, rfl, by decide +kernel, rfl, by decide +kernel, by decide +kernel⟩
abbrev sc_Way_contains_N : List Str := ["self", "queue"]
abbrev s_Way_contains : Stmt := inClass (topS 10) 8
theorem sc_Way_contains : FnScope ["self", "queue"] ["self", "queue"] (defScope s_Way_contains) := ⟨rfl, rfl, rfl, by decide +kernel, rfl, by decide +kernel, by decide +kernel⟩
abbrev sc_Way_eq_N : List Str := ["self", "other"]
abbrev s_Way_eq : Stmt := inClass (topS 10) 12
theorem sc_Way_eq : FnScope ["self", "other"] ["self", "other"] (defScope s_Way_eq) := ⟨rfl, rfl, rfl, by decide +kernel, rfl, by decide +kernel, by decide +kernel⟩
/-- what the head says of the class for == and isinstance -/
structure QWay (K : PySem.W.Frag) (C : Addr) : Prop where
  ci : PySem.W.isClsIn K C = true
  ti : PySem.W.typeIn K (.ref C) = some (.type "type")
  si : PySem.W.subIn K (.type "int") (.ref C) = some false
  st : PySem.W.subIn K (.type "tuple") (.ref C) = some false
  sl : PySem.W.subIn K (.type "list") (.ref C) = some false
  ne : PySem.W.findIn K (.ref C) "__ne__" = some (some (.builtin "object.__ne__"))
  mo : PySem.W.mroIn K C (.type "object") = some true
theorem kit_no {K : PySem.W.Frag} {C : Addr} {T : String} (h1 : PySem.W.isClsIn K C = true) (h2 : PySem.W.typeIn K (.ref C) = some (.type "type")) (h3 : PySem.W.subIn K (.type T) (.ref C) = some false) : PySem.W.kitOne K (.type T) (.ref C) = some false := by
  have e2 : ((PySem.W.clsIn K C).isSome && PySem.W.typeIn K (.ref C) == some (.type "type")) = true := by
    have h1' : (PySem.W.clsIn K C).isSome = true := h1
    rw [h1', h2] <;> rfl
  show (if (Value.type T == Value.ref C) = true then some true else if ((PySem.W.clsIn K C).isSome && PySem.W.typeIn K (.ref C) == some (.type "type")) = true then PySem.W.subIn K (.type T) (.ref C) else none) = some false
  rw [if_neg (fun z => by cases beq_iff_eq.mp z), if_pos e2]
  exact h3
section
variable {P : Program} {w : World} {K : PySem.W.Frag} {mg : Str → Option Value} {base : Heap}
def spSteps (K : PySem.W.Frag) (C : Addr) : Sp := fun vs H Q _ => ∃ (x : Addr) (ws : List Str) (qs : List QD) (w : Str) (us : List Str) (ms : List Mk), vs = [.ref x] ∧ WayAt K C H x ws qs w us ms ∧ ∀ v, Dp K H v (stepsD qs ms) → Q v H
theorem ok_Way_steps {f C : Addr} {fd : FuncData} {k : Nat} (F : Fun K "steps" "Way.steps" s_Way_steps f fd) (T_Way : TWay K C) : FnOk P w K mg base CX0 (k + 1) f fd ["self"] (spSteps K C) := by
  refine F.ok sc_Way_steps (fun vs H Q E h => ?_) (fun cdv A outer s0 H vs Q E hr h => ?_)
  · obtain ⟨x, ws, qs, w, us, ms, rfl, _⟩ := h
    rfl
  · obtain ⟨x, ws, qs, w, us, ms, rfl, hw, q⟩ := h
    refine ⟨_, (pss_one (ps_ret (pe_fld (pv 0) rfl))), ?_⟩
    obtain ⟨dx, v1, v2, v3, v4, v5, h0, h1, h2, h3, h4, h5⟩ := hw.is
    exact ⟨_, rfl, x, C, dx, _, _, rfl, h0, T_Way.cl, T_Way.n3, f5_at.2.2.1, q v3 h3⟩
def spLen (K : PySem.W.Frag) (C : Addr) : Sp := fun vs H Q _ => ∃ (x : Addr) (ws : List Str) (qs : List QD) (w : Str) (us : List Str) (ms : List Mk), vs = [.ref x] ∧ WayAt K C H x ws qs w us ms ∧ Q (.int (ms.length : Nat)) H
theorem ok_Way_len {f C : Addr} {fd : FuncData} {k : Nat} (F : Fun K "__len__" "Way.__len__" s_Way_len f fd) (T_Way : TWay K C) (m_len : mg "len" = none) : FnOk P w K mg base CX0 (k + 1) f fd ["self"] (spLen K C) := by
  refine F.ok sc_Way_len (fun vs H Q E h => ?_) (fun cdv A outer s0 H vs Q E hr h => ?_)
  · obtain ⟨x, ws, qs, w, us, ms, rfl, _⟩ := h
    rfl
  · obtain ⟨x, ws, qs, w, us, ms, rfl, hw, q⟩ := h
    refine ⟨_, (pss_one (ps_ret (pe_callB call_len_seq (by rfl) m_len PySem.boot_len (pa_cons (pe_fld (pv 0) rfl) pa_nil)))), ?_⟩
    obtain ⟨dx, v1, v2, v3, v4, v5, h0, h1, h2, h3, h4, h5⟩ := hw.is
    obtain ⟨a3, x3, rfl, ha3, hx3⟩ := Dp.seq_of (f := true) (show Dp K H v3 (seqD true (ms.map (stD qs))) from h3)
    have l3 := dpa_len hx3
    rw [List.length_map] at l3
    rw [← l3] at q
    exact ⟨_, rfl, x, C, dx, _, _, rfl, h0, T_Way.cl, T_Way.n3, f5_at.2.2.1, a3, x3, rfl, .inr ha3, q⟩
def spHas (K : PySem.W.Frag) (C : Addr) : Sp := fun vs H Q _ => ∃ (x : Addr) (z : Str) (ws : List Str) (qs : List QD) (w : Str) (us : List Str) (ms : List Mk), vs = [.ref x, .str z] ∧ WayAt K C H x ws qs w us ms ∧ Q (.bl (decide (z ∈ ms.map (nmQ qs)))) H
theorem ok_Way_contains {f C : Addr} {fd : FuncData} {k : Nat} (F : Fun K "__contains__" "Way.__contains__" s_Way_contains f fd) (T_Way : TWay K C) : FnOk P w K mg base CX0 (k + 1) f fd ["self", "queue"] (spHas K C) := by
  refine F.ok sc_Way_contains (fun vs H Q E h => ?_) (fun cdv A outer s0 H vs Q E hr h => ?_)
  · obtain ⟨x, z, ws, qs, w, us, ms, rfl, _⟩ := h
    rfl
  · obtain ⟨x, z, ws, qs, w, us, ms, rfl, hw, q⟩ := h
    refine ⟨_, (pss_one (ps_ret (pe_cmpR op_in_seq (pv 1) (pe_fld (pv 0) rfl) (by with_unfolding_all rfl)))), ?_⟩
    obtain ⟨dx, v1, v2, v3, v4, v5, h0, h1, h2, h3, h4, h5⟩ := hw.is
    obtain ⟨a2, x2, rfl, ha2, hx2⟩ := Dp.seq_of (f := true) (show Dp K H v2 (seqD true _) from h2)
    have e2 := dpa_strs_of hx2
    subst e2
    rw [← in_strs] at q
    exact ⟨_, rfl, _, rfl, x, C, dx, _, _, rfl, h0, T_Way.cl, T_Way.n2, f5_at.2.1, a2, _, rfl, .inr ha2, rfl, flat_strs _, q⟩
/-- what == says of two Ways -/
def eqF (ws : List Str) (qs : List QD) (w : Str) (ms : List Mk) (ws2 : List Str) (qs2 : List QD) (w2 : Str) (ms2 : List Mk) : Bool := PyData.eqv (netD true ws qs) (netD true ws2 qs2) && (decide (w = w2) && PyData.eqv (stepsD qs ms) (stepsD qs2 ms2))
theorem steps_shaped {qs : List QD} {ms : List Mk} (h : ∀ m ∈ ms, PyData.strOk (nmQ qs m) = true) : SeqAt.shaped (stepsD qs ms) = true := by
  refine shaped_of (can_seq (f := true) fun d hd => ?_) (Nat.le_trans steps_depth (by decide))
  obtain ⟨m, hm, rfl⟩ := List.mem_map.mp hd
  refine can_seq (f := true) fun d hd => ?_
  rcases List.mem_cons.mp hd with rfl | hd
  · rw [PyData.canLay0]
    exact h m hm
  · rw [List.mem_singleton.mp hd]
    split
    · decide +kernel
    · decide +kernel
/-- == against a Way -/
def spEqW (K : PySem.W.Frag) (C : Addr) : Sp := fun vs H Q _ => ∃ (x y : Addr) (ws ws2 : List Str) (qs qs2 : List QD) (w w2 : Str) (us us2 : List Str) (ms ms2 : List Mk), vs = [.ref x, .ref y] ∧ WayAt K C H x ws qs w us ms ∧ WayAt K C H y ws2 qs2 w2 us2 ms2 ∧
  SeqAt.shaped (netD true ws qs) = true ∧ SeqAt.shaped (netD true ws2 qs2) = true ∧ SeqAt.shaped (stepsD qs ms) = true ∧ SeqAt.shaped (stepsD qs2 ms2) = true ∧ Q (.bl (eqF ws qs w ms ws2 qs2 w2 ms2)) H
/-- == against anything else -/
def spEqO (K : PySem.W.Frag) (C : Addr) : Sp := fun vs H Q _ => ∃ (x dx : Addr) (fs : List (Str × V)) (y : V) (T : String), vs = [.ref x, y] ∧ H x = some (.ins C dx fs) ∧ TyX K H y (.type T) ∧ PySem.W.subIn K (.type T) (.ref C) = some false ∧ Q (.bl false) H
def spEqA (K : PySem.W.Frag) (C : Addr) : Sp := fun vs H Q E => spEqW K C vs H Q E ∨ spEqO K C vs H Q E
theorem ok_Way_eq {f C : Addr} {fd : FuncData} {k : Nat} (F : Fun K "__eq__" "Way.__eq__" s_Way_eq f fd) (T_Way : TWay K C) (mg_Way : mg "Way" = some (.ref C)) (Q_Way : QWay K C) (IC_Way : C8.InsC K C) (m_isinstance : mg "isinstance" = none) : FnOk P w K mg base CX0 (k + 1) f fd ["self", "other"] (spEqA K C) := by
  refine F.ok sc_Way_eq (fun vs H Q E h => ?_) (fun cdv A outer s0 H vs Q E hr h => ?_)
  · rcases h with ⟨x, y, ws, ws2, qs, qs2, w, w2, us, us2, ms, ms2, rfl, _⟩ | ⟨x, dx, fs, y, T, rfl, _⟩ <;> rfl
  · rcases h with ⟨x, y, ws, ws2, qs, qs2, w, w2, us, us2, ms, ms2, rfl, hx, hy, sh1, sh2, sh3, sh4, q⟩ | ⟨x, dx, fs, y, T, rfl, hx, hT, hS, q⟩
    · refine ⟨_, (pss_cons (ps_if (pt_not (pt_val (pe_callB call_isi (by rfl) m_isinstance (by decide +kernel) (pa_cons (pv 1) (pa_cons (pe_glob (v := .ref _) rfl mg_Way rfl) pa_nil))))) (pss_one (ps_ret pe_bl)) pss_nil) 
    (pss_one (ps_ret (pe_and (pe_cmpR (op_eqD hr.units) (pe_fld (pv 0) rfl) (pe_fld (pv 1) rfl) (nomark _)) (pe_and (pe_cmpR op_eq (pe_ix ix_tup (pe_fld (pv 0) rfl) pe_int (fun _ _ => rfl)) (pe_ix ix_tup (pe_fld (pv 1) rfl) pe_int (fun _ _ => rfl)) (nomark _)) (pe_one (pe_cmpR (op_eqD hr.units) (pe_fld (pv 0) rfl) (pe_fld (pv 1) rfl) (nomark _)))))))), ?_⟩
      obtain ⟨dx, v1, v2, v3, v4, v5, h0, h1, h2, h3, h4, h5⟩ := hx.is
      obtain ⟨dy, u1, u2, u3, u4, u5, g0, g1, g2, g3, g4, g5⟩ := hy.is
      obtain ⟨a4, x4, rfl, ha4, hx4⟩ := Dp.seq_of (f := true) (show Dp K H v4 (seqD true _) from h4)
      have e4 := dpa_strs_of hx4
      subst e4
      obtain ⟨b4, y4, rfl, hb4, hy4⟩ := Dp.seq_of (f := true) (show Dp K H u4 (seqD true _) from g4)
      have e4 := dpa_strs_of hy4
      subst e4
      refine ⟨_, rfl, .ref y, .ref C, .ref C, .ref C, true, rfl, .own C, .base (.ins g0 IC_Way.cl IC_Way.ha IC_Way.hn IC_Way.htk IC_Way.hm), if_pos (beq_self_eq_true _), _, rfl, iteF ?_⟩
      try dsimp only [tNext]
      refine ⟨_, rfl, x, C, dx, _, _, rfl, h0, T_Way.cl, T_Way.n1, f5_at.1, _, rfl, y, C, dy, _, _, rfl, g0, T_Way.cl, T_Way.n1, f5_at.1, _, _, h1, g1, sh1, sh2, _, rfl, ?_⟩
      unfold eqF at q
      cases he : PyData.eqv (netD true ws qs) (netD true ws2 qs2) with
      | false =>
        refine iteF ?_
        rw [he] at q
        exact q
      | true =>
        refine iteT ?_
        rw [he] at q
        refine ⟨_, rfl, x, C, dx, _, _, rfl, h0, T_Way.cl, T_Way.n4, f5_at.2.2.2.1, a4, _, _, _, rfl, rfl, ha4, at_first, ?_⟩
        refine ⟨_, rfl, y, C, dy, _, _, rfl, g0, T_Way.cl, T_Way.n4, f5_at.2.2.2.1, b4, _, _, _, rfl, rfl, hb4, at_first, rfl, _, rfl, ?_⟩
        rw [decS']
        cases hd : decide (w = w2) with
        | false =>
          refine iteF ?_
          rw [hd] at q
          exact q
        | true =>
          refine iteT ?_
          rw [hd] at q
          exact ⟨_, rfl, x, C, dx, _, _, rfl, h0, T_Way.cl, T_Way.n3, f5_at.2.2.1, _, rfl, y, C, dy, _, _, rfl, g0, T_Way.cl, T_Way.n3, f5_at.2.2.1, _, _, h3, g3, sh3, sh4, q⟩
    · refine ⟨_, (pss_cons (ps_if (pt_not (pt_val (pe_callB call_isi (by rfl) m_isinstance (by decide +kernel) (pa_cons (pv 1) (pa_cons (pe_glob (v := .ref _) rfl mg_Way rfl) pa_nil))))) (pss_one (ps_ret pe_bl)) pss_nil) 
    (pss_one (ps_ret (pe_and (pe_cmpR (op_eqD hr.units) (pe_fld (pv 0) rfl) (pe_fld (pv 1) rfl) (nomark _)) (pe_and (pe_cmpR op_eq (pe_ix ix_tup (pe_fld (pv 0) rfl) pe_int (fun _ _ => rfl)) (pe_ix ix_tup (pe_fld (pv 1) rfl) pe_int (fun _ _ => rfl)) (nomark _)) (pe_one (pe_cmpR (op_eqD hr.units) (pe_fld (pv 0) rfl) (pe_fld (pv 1) rfl) (nomark _)))))))), ?_⟩
      exact ⟨_, rfl, y, .ref C, .type T, .ref C, false, rfl, .own C, hT, kit_no Q_Way.ci Q_Way.ti hS, _, rfl, iteT q⟩
end
end Jl

set_option Elab.async false
set_option linter.all false
set_option maxRecDepth 100000
set_option maxHeartbeats 1000000
set_option pp.maxSteps 300
namespace Jl
open PySem PySem.Spec PyProof.Rows L2
open Evl (sz_of sz_lt)
local macro_rules | `(tactic| walk_at "at") => `(tactic| first | exact box0 | exact box1 | exact box2)
local macro_rules | `(tactic| walk_at "sq") => `(tactic| first | (show SqL _ _ _ _; assumption) | (show SqT _ _ _ _; assumption) | (show _ = some _; assumption))
local macro_rules | `(tactic| walk_at "side") => `(tactic| first
  | (show (0 : Int) < _; decide)
  | (show (0 : Int) < _; omega)
  | exact ⟨by decide, by decide, by decide⟩
  | exact sz_of (Nat.le_of_ble_eq_true rfl)
  | exact rfl
  | exact Or.inl (by decide)
  | exact Or.inr (by decide)
  | exact Or.inr ⟨by omega, by omega⟩
  | exact Or.inl ⟨by omega, by omega⟩
  | exact ⟨by decide, by decide +kernel⟩)
local macro_rules | `(tactic| walk_at "ev1") => `(tactic| first
  | refine ⟨_, rfl, ?_⟩
  | refine ⟨_, _, rfl, rfl, ?_⟩
  | refine ⟨_, _, _, _, rfl, rfl, (by walk_at "sq"), (by walk_at "at"), ?_⟩
  | refine ⟨_, _, rfl, (by walk_at "sq"), ?_⟩
  | refine ⟨_, _, rfl, Or.inl (by walk_at "sq"), ?_⟩
  | refine ⟨_, _, rfl, Or.inr (by walk_at "sq"), ?_⟩
  | refine Or.inl ⟨_, rfl, ?_⟩
  | refine Or.inr ⟨_, rfl, ?_⟩
  | refine ⟨(by walk_at "side"), ?_⟩
  | refine ⟨.inl ⟨rfl, _, (by walk_at "sq")⟩, ?_⟩
  | refine ⟨_, _, rfl, ?_⟩)
local macro_rules | `(tactic| walk_at "nrm") => `(tactic| dsimp only [tNil, tCons, tC, tCB])
local macro_rules | `(tactic| walk_at "ev") => `(tactic| repeat (walk_at "ev1"))
abbrev sc_w_of_N : List Str := ["_law_box_here", "_law_some"]
abbrev s_w_of : Stmt := topS 15
theorem sc_w_of : FnScope ["_law_box_here", "_law_some"] ["_law_box_here", "_law_some"] (defScope s_w_of) := ⟨rfl, rfl, rfl, by decide +kernel, rfl, by decide +kernel, by decide +kernel⟩
theorem mark_of {qs : List QD} {q : QD} {here : Str} (hq : q ∈ qs) (hh : here = q.st ∨ here = q.en) (hne : q.st ≠ q.en) : ∃ m : Mk, nmQ qs m = q.nm ∧ link qs m here (if here = q.st then q.en else q.st) := by
  obtain ⟨i, hi, e⟩ := List.getElem_of_mem hq
  have h1 : qs[i]? = some q := by rw [List.getElem?_eq_getElem hi, e]
  by_cases h : here = q.st
  · refine ⟨(i, true), ?_, q, h1, .inl ⟨rfl, h.symm, ?_⟩⟩
    · unfold nmQ
      rw [h1]
    · rw [if_pos h]
  · have h2 : here = q.en := hh.resolve_left h
    refine ⟨(i, false), ?_, q, h1, .inr ⟨rfl, h2.symm, ?_⟩⟩
    · unfold nmQ
      rw [h1]
    · rw [if_neg h]
section
variable {P : Program} {w : World} {K : PySem.W.Frag} {mg : Str → Option Value} {base : Heap}
def spOf (K : PySem.W.Frag) : Sp := fun vs H Q _ => ∃ (b sa : Addr) (fb : Bool) (xs bx : List V) (N : Nat), vs = [.ref b, .ref sa] ∧ H b = some (.lst bx) ∧ BoxL bx N ∧ N < 2 ^ 50 ∧ SqF fb K (cutS [b] H) sa xs ∧ 1 ≤ xs.length ∧ xs.length ≤ 100000 ∧
  ∀ (r : Nat) (x : V) (bx' : List V), xs[r]? = some x → BoxL bx' (N + 1) → Q x (upd H b (.lst bx'))
theorem ok_w_of {f fT : Addr} {fd fdT : FuncData} {k : Nat} (F : Fun K "_law_of" "_law_of" s_w_of f fd)
    (G_w_take : FnOk P w K mg base CX0 k fT fdT ["_law_box_here", "_law_below"] spTake2) (g_w_take : mg "_law_take" = some (.ref fT)) (F_w_take : Fun K "_law_take" "_law_take" s_w_take fT fdT) (b_w_take : Binds K fdT ["_law_box_here", "_law_below"] [])
    (m_len : mg "len" = none) : FnOk P w K mg base CX0 (k + 1) f fd ["_law_box_here", "_law_some"] (spOf K) := by
  refine F.ok sc_w_of (fun vs H Q E h => ?_) (fun cdv A outer s0 H vs Q E hr h => ?_)
  · obtain ⟨b, sa, fb, xs, bx, N, rfl, _⟩ := h
    rfl
  · obtain ⟨b, sa, fb, xs, bx, N, rfl, hb, hB, hN, hS, l1, l2, q⟩ := h
    refine ⟨_, (pss_one (ps_ret (pe_ix ix_lt (pv 1) (pe_call G_w_take hr (by rfl) g_w_take F_w_take.kp b_w_take .nil pass0 (pa_cons (pv 0) (pa_cons (pe_callB call_len_seq (by rfl) m_len PySem.boot_len (pa_cons (pv 1) pa_nil)) pa_nil))) (fun _ _ => rfl)))), ?_⟩
    refine ⟨_, rfl, _, rfl, _, rfl, ?_⟩
    refine ⟨sa, xs, rfl, (cutS_le.sqF hS).or, ?_⟩
    refine ⟨b, (xs.length : Nat), bx, N, rfl, hb, hB, by omega, by omega, small8000 (by omega), fun r bx1 r0 r1 hB1 => ?_⟩
    have hc : cutS [b] (upd H b (.lst bx1)) = cutS [b] H := cutS_upd List.mem_cons_self
    have hr2 : r.toNat < xs.length := by omega
    have hat : atI xs r = some xs[r.toNat] := at_of (j := r.toNat) (by omega) (List.getElem?_eq_getElem hr2)
    exact rIxF_at (cutS_le.sqF (by rw [hc]; exact hS)) hat (q r.toNat _ bx1 (List.getElem?_eq_getElem hr2) hB1)
end
end Jl

set_option Elab.async false
set_option linter.all false
set_option maxRecDepth 100000
set_option maxHeartbeats 1000000
set_option pp.maxSteps 300
namespace Jl
open PySem PySem.Spec PyProof.Rows L2
open Evl (sz_of sz_lt)
local macro_rules | `(tactic| walk_at "at") => `(tactic| first | exact box0 | exact box1 | exact box2)
local macro_rules | `(tactic| walk_at "sq") => `(tactic| first | (show SqL _ _ _ _; assumption) | (show SqT _ _ _ _; assumption) | (show _ = some _; assumption))
local macro_rules | `(tactic| walk_at "side") => `(tactic| first
  | (show (0 : Int) < _; decide)
  | (show (0 : Int) < _; omega)
  | exact ⟨by decide, by decide, by decide⟩
  | exact sz_of (Nat.le_of_ble_eq_true rfl)
  | exact rfl
  | exact Or.inl (by decide)
  | exact Or.inr (by decide)
  | exact Or.inr ⟨by omega, by omega⟩
  | exact Or.inl ⟨by omega, by omega⟩
  | exact ⟨by decide, by decide +kernel⟩)
local macro_rules | `(tactic| walk_at "ev1") => `(tactic| first
  | refine ⟨_, rfl, ?_⟩
  | refine ⟨_, _, rfl, rfl, ?_⟩
  | refine ⟨_, _, _, _, rfl, rfl, (by walk_at "sq"), (by walk_at "at"), ?_⟩
  | refine ⟨_, _, rfl, (by walk_at "sq"), ?_⟩
  | refine ⟨_, _, rfl, Or.inl (by walk_at "sq"), ?_⟩
  | refine ⟨_, _, rfl, Or.inr (by walk_at "sq"), ?_⟩
  | refine Or.inl ⟨_, rfl, ?_⟩
  | refine Or.inr ⟨_, rfl, ?_⟩
  | refine ⟨(by walk_at "side"), ?_⟩
  | refine ⟨.inl ⟨rfl, _, (by walk_at "sq")⟩, ?_⟩
  | refine ⟨_, _, rfl, ?_⟩)
local macro_rules | `(tactic| walk_at "nrm") => `(tactic| dsimp only [tNil, tCons, tC, tCB])
local macro_rules | `(tactic| walk_at "ev") => `(tactic| repeat (walk_at "ev1"))
abbrev sc_w_marks_N : List Str := ["_law_box_here", "_law_web_here", "_law_first", "_law_size_so", "_law_here", "_law_marks_here", "_law_turn", "_law_some", "_law_row"]
abbrev s_w_marks : Stmt := topS 19
theorem sc_w_marks : FnScope ["_law_box_here", "_law_web_here", "_law_first", "_law_size_so", "_law_here", "_law_marks_here", "_law_turn", "_law_some", "_law_row"] ["_law_box_here", "_law_web_here", "_law_first", "_law_size_so"] (defScope s_w_marks) := ⟨rfl, rfl, rfl, by decide +kernel, rfl, by decide +kernel, by decide +kernel⟩
theorem dp_q {K : PySem.W.Frag} {H : Hp} {v : V} {fb : Bool} {q : QD} (h : Dp K H v (q.d fb)) : ∃ a, v = .ref a ∧ SqF fb K H a [.str q.nm, .str q.st, .str q.en, .int q.room, .int q.gap] := by
  obtain ⟨a, x, rfl, g1, g2⟩ := Dp.seq_of h
  cases g2 with
  | cons c1 g2 =>
    cases g2 with
    | cons c2 g2 =>
      cases g2 with
      | cons c3 g2 =>
        cases g2 with
        | cons c4 g2 =>
          cases g2 with
          | cons c5 g2 =>
            cases g2
            cases c1
            cases c2
            cases c3
            cases c4
            cases c5
            exact ⟨a, rfl, g1⟩
theorem dpa_of_get {K : PySem.W.Frag} {H : Hp} : ∀ {xs : List V} {ds : List PyData}, xs.length = ds.length → (∀ (i : Nat) (v : V), xs[i]? = some v → ∃ d, ds[i]? = some d ∧ Dp K H v d) → DpAll K H xs ds
  | [], [], _, _ => .nil
  | [], _ :: _, h, _ => nomatch h
  | _ :: _, [], h, _ => nomatch h
  | x :: xs, d :: ds, h, g => .cons (by
      obtain ⟨d', h1, h2⟩ := g 0 x rfl
      cases h1
      exact h2) (dpa_of_get (by simpa using h) fun i v hv => g (i + 1) v hv)
theorem dp_row {K : PySem.W.Frag} {H : Hp} {fb : Bool} {a : Addr} {q : QD} (h : SqF fb K H a [.str q.nm, .str q.st, .str q.en, .int q.room, .int q.gap]) : Dp K H (.ref a) (q.d fb) := by
  have d : DpAll K H [V.str q.nm, .str q.st, .str q.en, .int q.room, .int q.gap] [.str q.nm, .str q.st, .str q.en, .int q.room, .int q.gap] := .cons (.str _) (.cons (.str _) (.cons (.str _) (.cons (.int _) (.cons (.int _) .nil))))
  cases fb with
  | false => exact .lst h d
  | true => exact .tup h d
theorem net_all {K : PySem.W.Frag} {H : Hp} {fb : Bool} {a0 a1 a2 : Addr} {ws : List Str} {qs : List QD} {xq : List V} (N : NetAt K H fb a0 a1 a2 ws qs xq) : DpAll K H xq (qs.map (QD.d fb)) := dpa_of_get (by rw [List.length_map]; exact N.ll) fun i v hv => by
  obtain ⟨q, a, h1, rfl, h2⟩ := N.hq i v hv
  exact ⟨q.d fb, by rw [List.getElem?_map, h1]; rfl, dp_row h2⟩
/-- the mark of a row, seen from here -/
theorem mark_of2 {qs : List QD} {q : QD} {here : Str} (hq : q ∈ qs) (hh : here = q.st ∨ here = q.en) : ∃ m : Mk, nmQ qs m = q.nm ∧ stD qs m = .tuple [.str q.nm, .str (if here = q.st then alS else agS)] ∧ prQ qs m = (if here = q.st then q.room else 1 - q.gap) ∧ link qs m here (if here = q.st then q.en else q.st) := by
  obtain ⟨i, hi, e⟩ := List.getElem_of_mem hq
  have h1 : qs[i]? = some q := by rw [List.getElem?_eq_getElem hi, e]
  by_cases h : here = q.st
  · have en : nmQ qs (i, true) = q.nm := by
      unfold nmQ
      rw [h1]
    refine ⟨(i, true), en, ?_, ?_, q, h1, .inl ⟨rfl, h.symm, ?_⟩⟩
    · unfold stD
      rw [en, if_pos h]
      rfl
    · unfold prQ
      rw [h1, if_pos h]
      rfl
    · rw [if_pos h]
  · have h2 : here = q.en := hh.resolve_left h
    have en : nmQ qs (i, false) = q.nm := by
      unfold nmQ
      rw [h1]
    refine ⟨(i, false), en, ?_, ?_, q, h1, .inr ⟨rfl, h2.symm, ?_⟩⟩
    · unfold stD
      rw [en, if_neg h]
      rfl
    · unfold prQ
      rw [h1, if_neg h]
      rfl
    · rw [if_neg h]
/-- one list that grows beside a box -/
structure W1 (b m : Addr) (H3 : Hp) (ns : List Str) (Hc : Hp) (bx : List V) (n : Nat) : Prop where
  hb : Hc b = some (.lst bx)
  hB : BoxL bx n
  hm : Hc m = some (.lst (ns.map V.str))
  hS : Same (cutS [b] H3) (cutS [m, b] Hc)
section
variable {b m : Addr} {H3 Hc Hd : Hp} {ns : List Str} {bx bx' : List V} {n n' : Nat}
theorem W1.take (w : W1 b m H3 ns Hc bx n) (d : m ≠ b) (h : BoxL bx' n') : W1 b m H3 ns (upd Hc b (.lst bx')) bx' n' := by
  have e : cutS [m, b] (upd Hc b (.lst bx')) = cutS [m, b] Hc := cutS_upd (by simp)
  exact ⟨upd_same, h, by rw [upd_ne d]; exact w.hm, by rw [e]; exact w.hS⟩
theorem W1.same (w : W1 b m H3 ns Hc bx n) (e : Same Hc Hd) : W1 b m H3 ns Hd bx n := ⟨e _ _ w.hb, w.hB, e _ _ w.hm, w.hS.trans (cutS_mono e)⟩
theorem W1.mono (w : W1 b m H3 ns Hc bx n) (h : n ≤ n') : W1 b m H3 ns Hc bx n' := ⟨w.hb, w.hB.mono h, w.hm, w.hS⟩
theorem W1.pushM (w : W1 b m H3 ns Hc bx n) (d : m ≠ b) (x : Str) : W1 b m H3 (ns ++ [x]) (upd Hc m (.lst (ns.map V.str ++ [.str x]))) bx n := by
  have e : cutS [m, b] (upd Hc m (.lst (ns.map V.str ++ [.str x]))) = cutS [m, b] Hc := cutS_upd (by simp)
  exact ⟨by rw [upd_ne d.symm]; exact w.hb, w.hB, by rw [upd_same, List.map_append]; rfl, by rw [e]; exact w.hS⟩
end
section
variable {P : Program} {w : World} {K : PySem.W.Frag} {mg : Str → Option Value} {base : Heap}
def spMarks (K : PySem.W.Frag) : Sp := fun vs H Q _ => ∃ (b : Addr) (v : V) (z : Nat) (ws : List Str) (qs : List QD) (bx : List V) (N : Nat) (w0 : Str), vs = [.ref b, v, .str w0, .int (z : Nat)] ∧ H b = some (.lst bx) ∧ BoxL bx N ∧ N < 2 ^ 48 ∧ z ≤ 100 ∧ Dp K (cutS [b] H) v (netD true ws qs) ∧ NetG ws qs ∧ w0 ∈ ws ∧ ws.length ≤ 60 ∧ qs.length ≤ 60 ∧
  (∀ x ∈ ws, PyData.strOk x = true) ∧ (∀ q ∈ qs, PyData.strOk q.nm = true) ∧ ∀ H' p bx' us ms, path qs (w0 :: us) ms → ms.length ≤ z → us.getLastD w0 ∈ ws → H' b = some (.lst bx') → BoxL bx' (N + z) → Same (cutS [b] H) (cutS [b] H') →
    Dp K (cutS [b] H') (.ref p) (.tuple [.list ((ms.map (nmQ qs)).map PyData.str), .str (us.getLastD w0)]) → Q (.ref p) H'
theorem ok_w_marks {f fO : Addr} {fd fdO : FuncData} {k : Nat} (F : Fun K "_law_marks" "_law_marks" s_w_marks f fd)
    (G_w_of : FnOk P w K mg base CX0 k fO fdO ["_law_box_here", "_law_some"] (spOf K)) (g_w_of : mg "_law_of" = some (.ref fO)) (F_w_of : Fun K "_law_of" "_law_of" s_w_of fO fdO) (b_w_of : Binds K fdO ["_law_box_here", "_law_some"] [])
    (m_range : mg "range" = none) : FnOk P w K mg base CX0 (k + 1) f fd ["_law_box_here", "_law_web_here", "_law_first", "_law_size_so"] (spMarks K) := by
  refine F.ok sc_w_marks (fun vs H Q E h => ?_) (fun cdv A outer s H vs Q E hr h => ?_)
  · obtain ⟨b, v, z, ws, qs, bx, N, w0, rfl, _⟩ := h
    rfl
  · obtain ⟨b, v, z, ws, qs, bx, N, w0, rfl, hb, hB, hN, hz, hD, hG, hw, w6, q6, ok1, ok2, q⟩ := h
    refine ⟨_, (pss_cons (ps_asg (pe_tup (pa_cons (pv 2) (pa_cons (pe_lst pa_nil) pa_nil))) (pg_tup rfl (pgs_cons (pg_name (i := 4) sc_w_marks.nd rfl (Or.inr rfl)) (pgs_cons (pg_name (i := 5) sc_w_marks.nd rfl (Or.inl rfl)) pgs_nil)))) 
    (pss_cons (ps_forX (ps_for PassesOwn.never rfl (pi_range1 (by rfl) m_range (pa_cons (pv 3) pa_nil)) (pg_name (i := 6) sc_w_marks.nd rfl (Or.inl rfl)) 
      (pss_cons (ps_setLcX (ps_setLc (i := 7) (own := [("_law_row", 8)]) (g := gName 8) (tt := (tOr (tTest (tOp rEq (tVar 4) (tOp (rIxF K) (tVar 8) (tC (.int 1))))) (tTest (tOp rEq (tVar 4) (tOp (rIxF K) (tVar 8) (tC (.int 2))))))) rfl sc_w_marks.nd rfl rfl (sw_true rfl rfl rfl (by decide +kernel)) (pi_seq (pe_ix ix_lt (pv 1) pe_int (fun _ _ => rfl))) (blkOk_by (own := [("_law_row", 8)]) (N := sc_w_marks_N) (sc := defScope s_w_marks) (by decide +kernel)) (fun _ _ _ _ _ => pg_name (i := 8) sc_w_marks.nd rfl (Or.inl rfl)) (fun _ _ _ _ _ => (pts_one (PW.pt (pw_or (pt_cmpR op_eq (pv 4) (pe_ix ix_lt (pv 8) pe_int (fun _ _ => rfl)) (nomark _)) (pw_or1 (pt_cmpR op_eq (pv 4) (pe_ix ix_lt (pv 8) pe_int (fun _ _ => rfl)) (nomark _))))))) (fun _ _ _ _ _ => (pv 8)))) 
      (pss_one (ps_if (pt_cmpR (op_neD hr.units) (pv 7) (pe_lst pa_nil) (nomark _)) 
        (pss_cons (ps_set (i := 8) sc_w_marks.nd rfl (Or.inl rfl) (pe_call G_w_of hr (by rfl) g_w_of F_w_of.kp b_w_of .nil pass0 (pa_cons (pv 0) (pa_cons (pv 7) pa_nil)))) 
        (pss_cons (ps_expr (pe_bm PySem.F.plainAttrs_list PySem.F.slot_list_append PySem.F.type_list_append mt_append (pv 5) (pa_cons (pe_ix ix_lt (pv 8) pe_int (fun _ _ => rfl)) pa_nil))) 
        (pss_one (ps_set (i := 4) sc_w_marks.nd rfl (Or.inr rfl) (pe_ifExp (pt_cmpR op_eq (pv 4) (pe_ix ix_lt (pv 8) pe_int (fun _ _ => rfl)) (nomark _)) (pe_ix ix_lt (pv 8) pe_int (fun _ _ => rfl)) (pe_ix ix_lt (pv 8) pe_int (fun _ _ => rfl))))))) pss_nil))))) 
    (pss_one (ps_ret (pe_tup (pa_cons (pv 5) (pa_cons (pv 4) pa_nil))))))), ?_⟩
    rw [show L2.start (["_law_box_here", "_law_web_here", "_law_first", "_law_size_so", "_law_here", "_law_marks_here", "_law_turn", "_law_some", "_law_row"] : List Str) [.ref b, v, .str w0, .int (z : Nat)] = [some (.ref b), some v, some (.str w0), some (.int (z : Nat)), none, none, none, none, none] from rfl]
    obtain ⟨a0, a1, a2, xq, rfl, N0⟩ := netAt hD
    have i1 : atI [V.ref a1, V.ref a2] 1 = some (.ref a2) := atI_nat (j := 1) rfl
    refine ⟨_, rfl, ⟨by show 0 ≤ sizeLine; exact Nat.zero_le _, fun m hm0 => ?_⟩⟩
    refine ⟨by show 2 ≤ sizeLine; decide, fun p hp0 => ?_⟩
    have mb : m ≠ b := fun e => by
      rw [e, hb] at hm0
      cases hm0
    have w0' : W1 b m H [] (upd H m (.lst [])) bx N := by
      refine ⟨(Same.upd hm0) _ _ hb, hB, upd_same, fun a o ha => ?_⟩
      obtain ⟨h1, h2⟩ := cutS_some ha
      have am : a ≠ m := fun e => by
        rw [e, hm0] at h2
        cases h2
      rw [cutS_out (by
        intro z
        rcases List.mem_cons.mp z with z | z
        · exact am z
        · exact h1 z)]
      exact (Same.upd hm0) _ _ h2
    have w1 := w0'.same (.upd (o := .tup [.str w0, .ref m]) hp0)
    have hpt : (upd (upd H m (.lst [])) p (.tup [.str w0, .ref m])) p = some (.tup [.str w0, .ref m]) := upd_same
    generalize upd (upd H m (.lst [])) p (.tup [.str w0, .ref m]) = H2 at w1 hpt ⊢
    refine ⟨p, _, rfl, sqt_of hpt, rfl, _, _, rfl, _, _, rfl, rfl, ?_⟩
    clear hp0 hm0 w0' hpt
    try dsimp only [List.set]
    refine for_of ?_
    refine ⟨_, rfl, (z : Nat), rfl, by omega, by omega, ?_⟩
    refine forR_it (walk_range (lo := 0) (n := z)) (fun j σ Hc => ∃ (x6 x7 x8 : Option V) (bx : List V) (here : Str) (us : List Str) (ms : List Mk), σ = [some (.ref b), some (.ref a0), some (.str w0), some (.int (z : Nat)), some (.str here), some (.ref m), x6, x7, x8] ∧ W1 b m H (ms.map (nmQ qs)) Hc bx (N + j) ∧ path qs (w0 :: us) ms ∧ us.getLastD w0 = here ∧ here ∈ ws ∧ ms.length ≤ j) ⟨_, _, _, bx, w0, [], [], rfl, w1, True.intro, rfl, hw, Nat.le_refl _⟩ (fun _ _ _ _ _ => trivial) (fun j x σ Hd Hd' hj hh y => ?_) (fun σ Hd hh => ?_)
    · obtain ⟨x6, x7, x8, bx2, here, us, ms, rfl, wd, hpa, hlast, hhere, hml⟩ := hh
      obtain ⟨rfl, rfl⟩ := y
      have sH : Same (cutS [b] H) (cutS [m, b] Hd') := wd.hS
      have Nd : NetAt K (cutS [m, b] Hd') true a0 a1 a2 ws qs xq := N0.same sH
      dsimp only [List.set]
      refine asg_of ?_
      refine lcs (K := K) (fb := true) qs (fun x q => Dp K (cutS [m, b] Hd') x (q.d true)) (fun _ u q => Dp K (cutS [m, b] Hd') u (q.d true)) (fun q => decide (here = q.st) || decide (here = q.en)) (fun R' r => ⟨_, rfl, rIxF_at (cutS_le.sqF Nd.h0) i1 r⟩) (cutS_le.sqF Nd.h2) (fun k x z g1 g2 => ?_) Nd.ll (by omega) (fun _ _ _ _ _ h => h) (fun x => rfl) (fun x z H3 hz e3 hx Q' q' => ?_) (fun x z H3 T hz _ e1 e2 tr hx hT Q' q' => ⟨_, rfl, q' H3 _ (fun _ _ e => e) hx⟩) (fun D ys H3 s3 hD0 hD1 hA => ?_)
      · obtain ⟨d, hd, h3⟩ := dpa_get (net_all Nd) g1
        rw [List.getElem?_map, g2] at hd
        cases hd
        exact h3
      · obtain ⟨aq, rfl, hs⟩ := dp_q hx
        have hs3 : SqT K H3 aq _ := (cutS_le.trans e3).sqF hs
        refine ⟨_, rfl, _, rfl, rIxF_at (f := true) hs3 (atI_nat (j := 1) rfl) ⟨rfl, _, rfl, ?_⟩⟩
        rw [decS']
        cases hc1 : decide (here = z.st) with
        | true =>
          rw [hc1] at q'
          exact q' H3 fun _ _ e => e
        | false =>
          rw [hc1] at q'
          refine ⟨_, rfl, _, rfl, rIxF_at (f := true) hs3 (atI_nat (j := 2) rfl) ⟨rfl, _, rfl, ?_⟩⟩
          rw [decS']
          exact q' H3 fun _ _ e => e
      · have ly := a2_len hA
        have s3c : Same (cutS [m, b] Hd') H3 := cutS_le.trans s3
        have hda : DpAll K H3 ys ((qs.filter fun q => decide (here = q.st) || decide (here = q.en)).map (QD.d true)) := s3c.dpa (a2_dpa (h := QD.d true) hA)
        have hlf : (qs.filter fun q => decide (here = q.st) || decide (here = q.en)).length ≤ 60 := Nat.le_trans (List.length_filter_le _ _) q6
        have nDb : D ≠ b := fun z => by
          rw [z, wd.hb] at hD0
          cases hD0
        try dsimp only [List.set]
        refine ne_nilD rfl (sql_of hD1) hda (fun d hd => ?_) fun H4 s4 => ⟨_, rfl, ?_⟩
        · obtain ⟨q0, hq0, rfl⟩ := List.mem_map.mp hd
          have hq1 := (List.mem_filter.mp hq0).1
          exact okE_q (ok2 q0 hq1) (ok1 _ (hG.q1 q0 hq1).1) (ok1 _ (hG.q1 q0 hq1).2.1)
        · have s34 := s3.trans s4
          have wd4 := wd.same s34
          cases hfe : (qs.filter fun q => decide (here = q.st) || decide (here = q.en)) with
          | nil =>
            refine iteF ?_
            exact ⟨_, _, _, bx2, here, us, ms, rfl, wd4.mono (by omega), hpa, hlast, hhere, by omega⟩
          | cons qf qt =>
            refine iteT ?_
            have hD4 := s4 _ _ hD1
            have l1 : 1 ≤ ys.length := by rw [ly, hfe]; exact Nat.succ_le_succ (Nat.zero_le _)
            refine asg_of ?_
            refine ⟨_, rfl, _, rfl, b, D, false, ys, bx2, _, rfl, wd4.hb, wd4.hB, by omega, sql_of (cutS_at hD4 (not1 nDb)), l1, by omega, fun r x bx3 hx hB3 => ?_⟩
            have hrl : r < (qs.filter fun q => decide (here = q.st) || decide (here = q.en)).length := by
              rw [← ly]
              exact (List.getElem?_eq_some_iff.mp hx).1
            have hqg := List.getElem?_eq_getElem hrl
            have hqm := List.getElem_mem hrl
            have hxd := a2_get (R := fun u q => Dp K (cutS [m, b] Hd') u (QD.d true q)) hA hx hqg
            generalize (qs.filter fun q => decide (here = q.st) || decide (here = q.en))[r] = qd at hqg hqm hxd
            obtain ⟨hqm, hqt⟩ := List.mem_filter.mp hqm
            have hor : here = qd.st ∨ here = qd.en := by
              rcases (Bool.or_eq_true _ _).mp hqt with h | h
              · exact .inl (of_decide_eq_true h)
              · exact .inr (of_decide_eq_true h)
            obtain ⟨g1, g2, g3⟩ := hG.q1 qd hqm
            obtain ⟨aq, rfl, hs⟩ := dp_q hxd
            have w5 := wd4.take mb hB3
            have c5 : Same (cutS [m, b] Hd') (cutS [m, b] (upd H4 b (.lst bx3))) := by
              rw [cutS_upd (by simp)]
              exact cutS_mono s34
            generalize upd H4 b (.lst bx3) = H5 at w5 c5 ⊢
            obtain ⟨mk, hnm, hst, hpr, hlk⟩ := mark_of2 hqm hor
            try dsimp only [List.set]
            have hs5 : SqT K H5 aq _ := (c5.trans cutS_le).sqF hs
            refine ⟨_, rfl, .inl ⟨rfl, _, sql_of w5.hm⟩, _, rfl, rIxF_at (f := true) hs5 (atI_nat (j := 0) rfl) ?_⟩
            refine ⟨m, _, _, rfl, rfl, w5.hm, szL (by simp only [List.length_map]; omega), ?_⟩
            have w6' := w5.pushM mb qd.nm
            have c6 : Same (cutS [m, b] Hd') (cutS [m, b] (upd H5 m (.lst ((ms.map (nmQ qs)).map V.str ++ [.str qd.nm])))) := by
              rw [cutS_upd (by simp)]
              exact c5
            generalize upd H5 m (.lst ((ms.map (nmQ qs)).map V.str ++ [.str qd.nm])) = H6 at w6' c6 ⊢
            have hs6 : SqT K H6 aq _ := (c6.trans cutS_le).sqF hs
            have e1 : (ms ++ [mk]).map (nmQ qs) = ms.map (nmQ qs) ++ [qd.nm] := by
              rw [List.map_append, ← hnm]
              rfl
            refine ⟨_, rfl, _, rfl, rIxF_at (f := true) hs6 (atI_nat (j := 1) rfl) ⟨rfl, _, rfl, ?_⟩⟩
            by_cases hc : here = qd.st
            · rw [if_pos hc] at hlk
              rw [decS', decide_eq_true hc]
              refine iteT ?_
              refine ⟨_, rfl, rIxF_at (f := true) hs6 (atI_nat (j := 2) rfl) ?_⟩
              refine ⟨_, _, _, bx3, qd.en, us ++ [qd.en], ms ++ [mk], rfl, ?_, path_cat hpa (by rw [hlast]; exact ⟨hlk, True.intro⟩), List.getLastD_concat .., g2, by rw [List.length_append, List.length_singleton]; omega⟩
              rw [e1]
              exact w6'.mono (by omega)
            · rw [if_neg hc] at hlk
              rw [decS', decide_eq_false hc]
              refine iteF ?_
              refine ⟨_, rfl, rIxF_at (f := true) hs6 (atI_nat (j := 1) rfl) ?_⟩
              refine ⟨_, _, _, bx3, qd.st, us ++ [qd.st], ms ++ [mk], rfl, ?_, path_cat hpa (by rw [hlast]; exact ⟨hlk, True.intro⟩), List.getLastD_concat .., g1, by rw [List.length_append, List.length_singleton]; omega⟩
              rw [e1]
              exact w6'.mono (by omega)
    · obtain ⟨x6, x7, x8, bx2, here, us, ms, rfl, wd, hpa, hlast, hhere, hml⟩ := hh
      refine ⟨_, rfl, _, rfl, by show 2 ≤ sizeLine; decide, fun p hp => ?_⟩
      have up : Same Hd (upd Hd p (.tup [.ref m, .str here])) := .upd hp
      have pb : p ≠ b := fun z => by
        rw [z, wd.hb] at hp
        cases hp
      refine q _ p bx2 us ms hpa hml (by rw [hlast]; exact hhere) (up _ _ wd.hb) wd.hB ((wd.hS.trans cutS_tail).trans (cutS_mono up)) ?_
      have cm : ∀ {a : Addr} {o : HO}, Hd a = some o → a ≠ b → cutS [b] (upd Hd p (.tup [.ref m, .str here])) a = some o := fun {a o} h n => cutS_at (up _ _ h) (not1 n)
      rw [hlast]
      exact .tup (sqt_of (cutS_at upd_same (not1 pb))) (.cons (.lst (sql_of (cm wd.hm mb)) dpa_strs) (.cons (.str _) .nil))
end
end Jl

set_option Elab.async false
set_option linter.all false
set_option maxRecDepth 100000
set_option maxHeartbeats 1000000
set_option pp.maxSteps 300
namespace Jl
open PySem PySem.Spec PyProof.Rows L2
open Evl (sz_of sz_lt)
local macro_rules | `(tactic| walk_at "at") => `(tactic| first | exact box0 | exact box1 | exact box2)
local macro_rules | `(tactic| walk_at "sq") => `(tactic| first | (show SqL _ _ _ _; assumption) | (show SqT _ _ _ _; assumption) | (show _ = some _; assumption))
local macro_rules | `(tactic| walk_at "side") => `(tactic| first
  | (show (0 : Int) < _; decide)
  | (show (0 : Int) < _; omega)
  | exact ⟨by decide, by decide, by decide⟩
  | exact sz_of (Nat.le_of_ble_eq_true rfl)
  | exact rfl
  | exact Or.inl (by decide)
  | exact Or.inr (by decide)
  | exact Or.inr ⟨by omega, by omega⟩
  | exact Or.inl ⟨by omega, by omega⟩
  | exact ⟨by decide, by decide +kernel⟩)
local macro_rules | `(tactic| walk_at "ev1") => `(tactic| first
  | refine ⟨_, rfl, ?_⟩
  | refine ⟨_, _, rfl, rfl, ?_⟩
  | refine ⟨_, _, _, _, rfl, rfl, (by walk_at "sq"), (by walk_at "at"), ?_⟩
  | refine ⟨_, _, rfl, (by walk_at "sq"), ?_⟩
  | refine ⟨_, _, rfl, Or.inl (by walk_at "sq"), ?_⟩
  | refine ⟨_, _, rfl, Or.inr (by walk_at "sq"), ?_⟩
  | refine Or.inl ⟨_, rfl, ?_⟩
  | refine Or.inr ⟨_, rfl, ?_⟩
  | refine ⟨(by walk_at "side"), ?_⟩
  | refine ⟨.inl ⟨rfl, _, (by walk_at "sq")⟩, ?_⟩
  | refine ⟨_, _, rfl, ?_⟩)
local macro_rules | `(tactic| walk_at "nrm") => `(tactic| dsimp only [tNil, tCons, tC, tCB])
local macro_rules | `(tactic| walk_at "ev") => `(tactic| repeat (walk_at "ev1"))
/-! ### what is asked of a kept exception, and of classes -/
theorem ic_xk {K : PySem.W.Frag} {H0 : Hp} {σ : L2.St} {i : Nat} {v : V} {C : Addr} {fn x : Str} (hi : σ[i]? = some (some v)) (h : ExcAt H0 v C fn (.str x)) : IsC K [] H0 (tXk C fn (tVar i)) (.str x) σ := fun H Q e _ q => ⟨_, hi, _, h.same e, q H _ (fun _ _ e => e) (.str x)⟩
theorem is_k {K : PySem.W.Frag} {H : Hp} {Q : VK} {v c : V} {C : Addr} {fn : Str} {y : V} {cv : Value} {b : Bool} (h : ExcAt H v C fn y) (T : XcI K C) (hc : ∀ u, RelV c u → u = cv) (hk : PySem.W.kitOne K (.ref C) cv = some b) (q : Q (.bl b) H) : rIsK K [v, c] H Q := ⟨v, c, C, fn, y, cv, b, rfl, h, T, hc, hk, q⟩
/-- a class, asked in an except clause or by isinstance -/
structure XcC (K : PySem.W.Frag) (C : Addr) : Prop where
  ci : PySem.W.isClsIn K C = true
  ty : PySem.W.typeIn K (.ref C) = some (.type "type")
  ex : PySem.W.subIn K (.ref C) (.type "BaseException") = some true
theorem kitCls_ref {K : PySem.W.Frag} {C : Addr} {t : Value} {b : Bool} (T : XcC K C) (h : PySem.W.subIn K t (.ref C) = some b) : PySem.W.kitCls K t (.ref C) = some b := by
  have h1 : (PySem.W.clsIn K C).isSome = true := T.ci
  have e2 : ((PySem.W.clsIn K C).isSome && PySem.W.typeIn K (.ref C) == some (.type "type")) = true := by
    rw [h1, T.ty] <;> rfl
  show (if ((PySem.W.clsIn K C).isSome && PySem.W.typeIn K (.ref C) == some (.type "type")) = true then PySem.W.subIn K t (.ref C) else none) = some b
  rw [if_pos e2]
  exact h
theorem exmOne_ref {K : PySem.W.Frag} {C : Addr} {t : Value} {b : Bool} (T : XcC K C) (h : PySem.W.subIn K t (.ref C) = some b) : PySem.W.exmOne K t (.ref C) = some b := by
  have e1 : (PySem.W.subIn K (.ref C) (.type "BaseException") == some true) = true := by rw [T.ex] <;> rfl
  show (if (PySem.W.subIn K (.ref C) (.type "BaseException") == some true) = true then PySem.W.kitCls K t (.ref C) else none) = some b
  rw [if_pos e1]
  exact kitCls_ref T h
theorem exmAny_one {K : PySem.W.Frag} {t c : Value} {r : List Value} {b d : Bool} (h : PySem.W.exmOne K t c = some b) (hr : PySem.W.exmAny K t r = some d) : PySem.W.exmAny K t (c :: r) = some (b || d) := by
  show (match PySem.W.exmOne K t c, PySem.W.exmAny K t r with
    | some b, some d => some (b || d)
    | _, _ => none) = some (b || d)
  rw [h, hr]
theorem exmAny_nil {K : PySem.W.Frag} {t : Value} : PySem.W.exmAny K t [] = some false := rfl
theorem kitOne_self {K : PySem.W.Frag} {t : Value} : PySem.W.kitOne K t t = some true := if_pos (beq_self_eq_true t)
theorem kitOne_ref {K : PySem.W.Frag} {C D : Addr} {b : Bool} (hne : C ≠ D) (T : XcC K D) (h : PySem.W.subIn K (.ref C) (.ref D) = some b) : PySem.W.kitOne K (.ref C) (.ref D) = some b := by
  unfold PySem.W.kitOne
  rw [if_neg (fun z => hne (Value.ref.inj (beq_iff_eq.mp z)))]
  exact kitCls_ref T h
theorem kitOne_ty {K : PySem.W.Frag} {C : Addr} {T : String} {b : Bool} (hm : PySem.W.kitMeta T = true) (h : PySem.W.subIn K (.ref C) (.type T) = some b) : PySem.W.kitOne K (.ref C) (.type T) = some b := by
  unfold PySem.W.kitOne
  rw [if_neg (fun z => by cases beq_iff_eq.mp z)]
  show (if PySem.W.kitMeta T = true then PySem.W.subIn K (.ref C) (.type T) else none) = some b
  rw [if_pos hm]
  exact h
theorem ne_of_sub {K : PySem.W.Frag} {C D : Addr} (h : PySem.W.subIn K (.ref C) (.ref D) = some false) (h2 : PySem.W.subIn K (.ref D) (.ref D) = some true) : C ≠ D := fun z => by
  rw [z, h2] at h
  cases h
theorem ic_isK {K : PySem.W.Frag} {H0 : Hp} {σ : L2.St} {i : Nat} {v c : V} {C : Addr} {fn : Str} {y : V} {cv : Value} {b : Bool} (hi : σ[i]? = some (some v)) (h : ExcAt H0 v C fn y) (T : XcI K C) (hc : ∀ u, RelV c u → u = cv) (hk : PySem.W.kitOne K (.ref C) cv = some b) : IsC K [] H0 (tCB (rIsK K) (tCons (tVar i) (tCons (tC c) tNil))) (.bool b) σ := fun H Q e _ q =>
  ⟨_, hi, is_k (h.same e) T hc hk (q H _ (fun _ _ e => e) (.bl _))⟩
theorem ic_xkI {K : PySem.W.Frag} {H0 : Hp} {σ : L2.St} {i : Nat} {v : V} {C : Addr} {fn : Str} {n : Int} (hi : σ[i]? = some (some v)) (h : ExcAt H0 v C fn (.int n)) : IsC K [] H0 (tXk C fn (tVar i)) (.int n) σ := fun H Q e _ q => ⟨_, hi, _, h.same e, q H _ (fun _ _ e => e) (.int n)⟩
/-- caught: the exception stands in the heap -/
theorem caught_at {H H' : Hp} {a dx C : Addr} {fn : Str} {y : V} (s : Same H H') (hdx : H' dx = some (.xd [(fn, y)])) (ha : H' a = none) : Same H (upd H' a (exk a (.ref C) (some dx))) ∧ ExcAt (upd H' a (exk a (.ref C) (some dx))) (.ref a) C fn y := by
  have nd : dx ≠ a := fun z => by
    rw [z, ha] at hdx
    cases hdx
  exact ⟨s.trans (.upd ha), a, dx, rfl, upd_same, by rw [upd_ne nd]; exact hdx⟩
end Jl

set_option Elab.async false
set_option linter.all false
set_option maxRecDepth 100000
set_option maxHeartbeats 1000000
set_option pp.maxSteps 300
namespace Jl
open PySem PySem.Spec PyProof.Rows L2
open Evl (sz_of sz_lt)
local macro_rules | `(tactic| walk_at "at") => `(tactic| first | exact box0 | exact box1 | exact box2)
local macro_rules | `(tactic| walk_at "sq") => `(tactic| first | (show SqL _ _ _ _; assumption) | (show SqT _ _ _ _; assumption) | (show _ = some _; assumption))
local macro_rules | `(tactic| walk_at "side") => `(tactic| first
  | (show (0 : Int) < _; decide)
  | (show (0 : Int) < _; omega)
  | exact ⟨by decide, by decide, by decide⟩
  | exact sz_of (Nat.le_of_ble_eq_true rfl)
  | exact rfl
  | exact Or.inl (by decide)
  | exact Or.inr (by decide)
  | exact Or.inr ⟨by omega, by omega⟩
  | exact Or.inl ⟨by omega, by omega⟩
  | exact ⟨by decide, by decide +kernel⟩)
local macro_rules | `(tactic| walk_at "ev1") => `(tactic| first
  | refine ⟨_, rfl, ?_⟩
  | refine ⟨_, _, rfl, rfl, ?_⟩
  | refine ⟨_, _, _, _, rfl, rfl, (by walk_at "sq"), (by walk_at "at"), ?_⟩
  | refine ⟨_, _, rfl, (by walk_at "sq"), ?_⟩
  | refine ⟨_, _, rfl, Or.inl (by walk_at "sq"), ?_⟩
  | refine ⟨_, _, rfl, Or.inr (by walk_at "sq"), ?_⟩
  | refine Or.inl ⟨_, rfl, ?_⟩
  | refine Or.inr ⟨_, rfl, ?_⟩
  | refine ⟨(by walk_at "side"), ?_⟩
  | refine ⟨.inl ⟨rfl, _, (by walk_at "sq")⟩, ?_⟩
  | refine ⟨_, _, rfl, ?_⟩)
local macro_rules | `(tactic| walk_at "nrm") => `(tactic| dsimp only [tNil, tCons, tC, tCB])
local macro_rules | `(tactic| walk_at "ev") => `(tactic| repeat (walk_at "ev1"))
abbrev sc_w_heard_N : List Str := ["_law_one", "_law_two", "_law_times_so", "_law_caught", "_law_both", "error"]
abbrev s_w_heard : Stmt := topS 20
theorem sc_w_heard : FnScope ["_law_one", "_law_two", "_law_times_so", "_law_caught", "_law_both", "error"] ["_law_one", "_law_two", "_law_times_so"] (defScope s_w_heard) := ⟨rfl, rfl, rfl, by decide +kernel, rfl, by decide +kernel, by decide +kernel⟩
theorem mt_add {K : PySem.W.Frag} {C f : Addr} (h : Meth K C "__add__" f) : Meth K C (PySem.dunder Operator.Add.info.2) f := by
  have e : PySem.dunder Operator.Add.info.2 = ("__add__" : Str) := by decide +kernel
  rw [e]
  exact h
theorem mt_mul {K : PySem.W.Frag} {C f : Addr} (h : Meth K C "__mul__" f) : Meth K C (PySem.dunder Operator.Mult.info.2) f := by
  have e : PySem.dunder Operator.Mult.info.2 = ("__mul__" : Str) := by decide +kernel
  rw [e]
  exact h
section
variable {P : Program} {w : World} {K : PySem.W.Frag} {mg : Str → Option Value} {base : Heap}
/-- a sum, or so many of one: nothing, or the place that is refused -/
def spHeard (K : PySem.W.Frag) (C : Addr) : Sp := fun vs H Q _ => ∃ (x : Addr) (y : V) (k : Nat), vs = [.ref x, y, .int (k : Nat)] ∧
  ((∃ yy, y = .ref yy ∧ spAdd K C [.ref x, .ref yy] H (fun _ H' => Q .non H') E0) ∨ (y = .non ∧ spMul K C [.ref x, .int (k : Nat)] H (fun _ H' => Q .non H') E0) ∨
   (∃ (yy : Addr) (ws : List Str) (qs : List QD) (w : Str) (us us2 : List Str) (ms ms2 : List Mk) (ws2 : List Str) (qs2 : List QD) (w2 : Str), y = .ref yy ∧ WayAt K C H x ws qs w us ms ∧ WayAt K C H yy ws2 qs2 w2 us2 ms2 ∧ SeqAt.shaped (netD true ws qs) = true ∧ SeqAt.shaped (netD true ws2 qs2) = true ∧ ms.length ≤ 1000 ∧ (PyData.eqv (netD true ws qs) (netD true ws2 qs2) = false ∨ us.getLastD w ≠ w2) ∧ ∀ H', Same H H' → Q (.int (ms.length : Nat)) H') ∨
   (∃ (ws : List Str) (qs : List QD) (w : Str) (us : List Str) (ms : List Mk), y = .non ∧ WayAt K C H x ws qs w us ms ∧ ms.length ≤ 1000 ∧ 1 < k ∧ w ≠ us.getLastD w ∧ ∀ H', Same H H' → Q (.int (ms.length : Nat)) H'))
theorem ok_w_heard {f fA fM C C1 C2 CS : Addr} {fd fdA fdM : FuncData} {k : Nat} (F : Fun K "_law_heard" "_law_heard" s_w_heard f fd) (O_Way : OWay K C)
    (mg_NoWorker : mg "NoWorker" = some (.ref C1)) (mg_NoQueue : mg "NoQueue" = some (.ref C2)) (mg_NoStep : mg "NoStep" = some (.ref CS)) (XI_NoStep : XcI K CS) (XC_NoWorker : XcC K C1) (XC_NoQueue : XcC K C2) (XC_NoStep : XcC K CS) (nf_NoStep_place : PySem.W.findIn K (.ref CS) "place" = some none)
    (sub_NoStep_NoWorker : PySem.W.subIn K (.ref CS) (.ref C1) = some false) (sub_NoStep_NoQueue : PySem.W.subIn K (.ref CS) (.ref C2) = some false) (sub_NoStep_NoStep : PySem.W.subIn K (.ref CS) (.ref CS) = some true)
    (GX_Way_add : FnOk P w K mg base (L2.CX P w) k fA fdA ["self", "other"] (spAddX K C CS)) (mt_Way_add : Meth K C "__add__" fA) (b_Way_add : Binds K fdA ["self", "other"] [])
    (GX_Way_mul : FnOk P w K mg base (L2.CX P w) k fM fdM ["self", "many"] (spMulX K C CS)) (mt_Way_mul : Meth K C "__mul__" fM) (b_Way_mul : Binds K fdM ["self", "many"] [])
    (m_isinstance : mg "isinstance" = none) : FnOk P w K mg base CX0 (k + 1) f fd ["_law_one", "_law_two", "_law_times_so"] (spHeard K C) := by
  refine F.ok sc_w_heard (fun vs H Q E h => ?_) (fun cdv A outer sS H vs Q E hr h => ?_)
  · obtain ⟨x, y, k, rfl, _⟩ := h
    rfl
  · obtain ⟨x, y, k, rfl, h⟩ := h
    refine ⟨_, (pss_cons (ps_set (i := 3) sc_w_heard.nd rfl (Or.inl rfl) pe_non) 
    (pss_cons (ps_try_keep (i := 5) rfl rfl sc_w_heard.nd rfl rfl (test3 ⟨by rfl, by decide, .inl mg_NoStep⟩ ⟨by rfl, by decide, .inl mg_NoQueue⟩ ⟨by rfl, by decide, .inl mg_NoWorker⟩) takes0 (fun W pn xe tk _ => (pss_one (ps_set (i := 4) sc_w_heard.nd rfl (Or.inl rfl) (pe_ifExp (pt_cmpR op_notN (pv 1) pe_non (nomark _)) (pe_opS (op_ownS GX_Way_add hr (mt_add mt_Way_add) O_Way.sf b_Way_add (passAt tk)) (pv 0) (pv 1)) (pe_opS (op_ownIS GX_Way_mul hr (mt_mul mt_Way_mul) O_Way.sf O_Way.rm O_Way.im.choose_spec O_Way.ir.choose_spec O_Way.ns b_Way_mul (passAt tk)) (pv 0) (pv 2)))))) (fun a pn => (pss_one (ps_set (i := 3) sc_w_heard.nd rfl (Or.inl rfl) (pv 5))))) 
    (pss_cons (ps_if (pt_cmpR op_isN (pv 3) pe_non (nomark _)) (pss_one (ps_ret pe_non)) pss_nil) 
    (pss_one (ps_ret (pe_ifExp (pt_val (pe_callB call_isK (by rfl) m_isinstance (by decide +kernel) (pa_cons (pv 3) (pa_cons (pe_glob (v := .ref _) rfl mg_NoStep rfl) pa_nil)))) (pe_xk XI_NoStep nf_NoStep_place (pv 3)) pe_str)))))), ?_⟩
    rw [show L2.start (["_law_one", "_law_two", "_law_times_so", "_law_caught", "_law_both", "error"] : List Str) [.ref x, y, .int (k : Nat)] = [some (.ref x), some y, some (.int (k : Nat)), none, none, none] from rfl]
    have hm : PySem.W.exmAny K (.ref CS) [.ref CS, .ref C2, .ref C1] = some true := exmAny_one (exmOne_ref XC_NoStep sub_NoStep_NoStep) (exmAny_one (exmOne_ref XC_NoQueue sub_NoStep_NoQueue) (exmAny_one (exmOne_ref XC_NoWorker sub_NoStep_NoWorker) exmAny_nil))
    refine asg_of ?_
    dsimp only [tC, List.set]
    refine seq_byC (fun σ H' => ∃ (c : V) (s4 : Option V), σ = [some (.ref x), some y, some (.int (k : Nat)), some c, s4, none] ∧ ((c = .non ∧ Q .non H') ∨ (∃ (a : Addr) (n : Int), c = .ref a ∧ ExcAt H' (.ref a) CS "place" (.int n) ∧ Q (.int n) H'))) (fun σ H' hh => ?_) (fun D' hD' => ?_)
    · obtain ⟨c, s4, rfl, hh⟩ := hh
      rcases hh with ⟨rfl, hq⟩ | ⟨a, n, rfl, hE, hq⟩
      · exact ⟨_, rfl, rfl, true, rfl, iteT hq⟩
      · refine ⟨_, rfl, rfl, false, rfl, iteF ?_⟩
        try dsimp only [tNext]
        refine ⟨_, rfl, ?_⟩
        walk_at "nrm"
        refine is_k (c := .ref CS) (cv := .ref CS) hE XI_NoStep (fun u r => r) kitOne_self ⟨true, rfl, iteT ?_⟩
        exact ⟨_, rfl, _, hE, hq⟩
    · have caught : ∀ (n : Nat), (∀ H', Same H H' → Q (.int (n : Nat)) H') → ∀ (H2 : Hp) (dx : Addr), Same H H2 → H2 dx = some (.xd [("place", .int (n : Nat))]) → ∀ a, H2 a = none → D'.nx [some (.ref x), some y, some (.int (k : Nat)), some (.ref a), none, none] (upd H2 a (exk a (.ref CS) (some dx))) := fun n hq H2 dx s hdx a ha => by
        obtain ⟨s2, hE⟩ := caught_at (C := CS) s hdx ha
        exact hD' _ _ ⟨.ref a, none, rfl, .inr ⟨a, (n : Nat), rfl, hE, hq _ s2⟩⟩
      rcases h with ⟨yy, rfl, hA⟩ | ⟨rfl, hM⟩ | ⟨yy, ws, qs, w, us, us2, ms, ms2, ws2, qs2, w2, rfl, hx, hy, sh, sh2, lm, hne, hq⟩ | ⟨ws, qs, w, us, ms, rfl, hx, lm, hk1, hn, hq⟩
      · obtain ⟨x', y', ws, qs, w, us, us2, ms, ms2, e, hx, hy, hG, hw, hp, hp2, w6, q6, lm, lm2, o1, o2, hq⟩ := hA
        cases e
        obtain ⟨dx, v1, v2, v3, v4, v5, h0, _⟩ := id hx.is
        obtain ⟨dy, u1, u2, u3, u4, u5, g0, _⟩ := id hy.is
        refine ⟨_, rfl, rfl, true, rfl, iteT ?_⟩
        exact ⟨_, rfl, _, rfl, x, dx, _, yy, dy, _, rfl, rfl, h0, g0, .inl ⟨x, yy, ws, qs, w, us, us2, ms, ms2, rfl, hx, hy, hG, hw, hp, hp2, w6, q6, lm, lm2, o1, o2, fun H' z s hz => ⟨⟨z, rfl⟩, hD' _ _ ⟨.non, some (.ref z), rfl, .inl ⟨rfl, hq H' z s hz⟩⟩⟩⟩⟩
      · obtain ⟨x', k', ws, qs, w, us, ms, e, hx, hG, hw, hp, w6, q6, lm, k9, hcl, hq⟩ := hM
        have e1 : x = x' := by
          have := (List.cons.inj e).1
          exact V.ref.inj this
        have e2 : k = k' := by
          have := (List.cons.inj (List.cons.inj e).2).1
          have := V.int.inj this
          omega
        subst e1 e2
        obtain ⟨dx, v1, v2, v3, v4, v5, h0, _⟩ := id hx.is
        refine ⟨_, rfl, rfl, false, rfl, iteF ?_⟩
        exact ⟨_, rfl, _, rfl, x, dx, _, (k : Nat), rfl, rfl, h0, .inl ⟨x, k, ws, qs, w, us, ms, rfl, hx, hG, hw, hp, w6, q6, lm, k9, hcl, fun H' z s hz => ⟨⟨z, rfl⟩, hD' _ _ ⟨.non, some (.ref z), rfl, .inl ⟨rfl, hq H' z s hz⟩⟩⟩⟩⟩
      · obtain ⟨dx, v1, v2, v3, v4, v5, h0, _⟩ := id hx.is
        obtain ⟨dy, u1, u2, u3, u4, u5, g0, _⟩ := id hy.is
        refine ⟨_, rfl, rfl, true, rfl, iteT ?_⟩
        exact ⟨_, rfl, _, rfl, x, dx, _, yy, dy, _, rfl, rfl, h0, g0, .inr ⟨x, yy, ws, qs, w, us, us2, ms, ms2, ws2, qs2, w2, rfl, hx, hy, sh, sh2, lm, hne, fun H' dx s hdx => ⟨true, hm, fun _ a ha => ⟨_, rfl, caught ms.length hq H' dx s hdx a ha⟩, fun z => nomatch z⟩⟩⟩
      · obtain ⟨dx, v1, v2, v3, v4, v5, h0, _⟩ := id hx.is
        refine ⟨_, rfl, rfl, false, rfl, iteF ?_⟩
        exact ⟨_, rfl, _, rfl, x, dx, _, (k : Nat), rfl, rfl, h0, .inr ⟨x, k, ws, qs, w, us, ms, rfl, hx, lm, hk1, hn, fun H' dx s hdx => ⟨true, hm, fun _ a ha => ⟨_, rfl, caught ms.length hq H' dx s hdx a ha⟩, fun z => nomatch z⟩⟩⟩
end
end Jl

set_option Elab.async false
set_option linter.all false
set_option maxRecDepth 100000
set_option maxHeartbeats 1000000
set_option pp.maxSteps 300
namespace Jl
open PySem PySem.Spec PyProof.Rows L2
open Evl (sz_of sz_lt)
local macro_rules | `(tactic| walk_at "at") => `(tactic| first | exact box0 | exact box1 | exact box2)
local macro_rules | `(tactic| walk_at "sq") => `(tactic| first | (show SqL _ _ _ _; assumption) | (show SqT _ _ _ _; assumption) | (show _ = some _; assumption))
local macro_rules | `(tactic| walk_at "side") => `(tactic| first
  | (show (0 : Int) < _; decide)
  | (show (0 : Int) < _; omega)
  | exact ⟨by decide, by decide, by decide⟩
  | exact sz_of (Nat.le_of_ble_eq_true rfl)
  | exact rfl
  | exact Or.inl (by decide)
  | exact Or.inr (by decide)
  | exact Or.inr ⟨by omega, by omega⟩
  | exact Or.inl ⟨by omega, by omega⟩
  | exact ⟨by decide, by decide +kernel⟩)
local macro_rules | `(tactic| walk_at "ev1") => `(tactic| first
  | refine ⟨_, rfl, ?_⟩
  | refine ⟨_, _, rfl, rfl, ?_⟩
  | refine ⟨_, _, _, _, rfl, rfl, (by walk_at "sq"), (by walk_at "at"), ?_⟩
  | refine ⟨_, _, rfl, (by walk_at "sq"), ?_⟩
  | refine ⟨_, _, rfl, Or.inl (by walk_at "sq"), ?_⟩
  | refine ⟨_, _, rfl, Or.inr (by walk_at "sq"), ?_⟩
  | refine Or.inl ⟨_, rfl, ?_⟩
  | refine Or.inr ⟨_, rfl, ?_⟩
  | refine ⟨(by walk_at "side"), ?_⟩
  | refine ⟨.inl ⟨rfl, _, (by walk_at "sq")⟩, ?_⟩
  | refine ⟨_, _, rfl, ?_⟩)
local macro_rules | `(tactic| walk_at "nrm") => `(tactic| dsimp only [tNil, tCons, tC, tCB])
local macro_rules | `(tactic| walk_at "ev") => `(tactic| repeat (walk_at "ev1"))
theorem okD_few {ds : List PyData} (hl : ds.length ≤ 1000) (h : ∀ d ∈ ds, okD 4 d) : okD 5 (.list ds) := (okD_seq (f := false)).mpr ⟨Nat.le_trans hl (by decide), h⟩
section
variable {K : PySem.W.Frag} {C x : Addr} {H0 : Hp} {σ : L2.St} {ws : List Str} {qs : List QD} {w : Str} {us : List Str} {ms : List Mk} {i : Nat}
theorem ic_lenW (hi : σ[i]? = some (some (.ref x))) (hw : WayAt K C H0 x ws qs w us ms) (hl : ms.length ≤ 1000) : IsC K [] H0 (tCB (rLenI C (spLen K C)) (tCons (tVar i) tNil)) (.int (ms.length : Nat)) σ := fun H Q e tr q => by
  obtain ⟨dx, v1, v2, v3, v4, v5, h0, _⟩ := (hw.same e).is
  exact ⟨_, hi, x, dx, _, rfl, h0, x, ws, qs, w, us, ms, rfl, hw.same e, ⟨_, rfl, by omega⟩, q H _ (fun _ _ e => e) (.int _)⟩
end
def zzS : Str := Str.ofString "zz"
/-! ### an expression that is a Way -/
section
variable {K : PySem.W.Frag} {C : Addr} {H0 : Hp} {σ : L2.St} {ws : List Str} {qs : List QD} {w : Str} {us : List Str} {ms : List Mk} {te : TE}
def IsWy (K : PySem.W.Frag) (C : Addr) (H0 : Hp) (te : TE) (ws : List Str) (qs : List QD) (w : Str) (us : List Str) (ms : List Mk) (σ : L2.St) : Prop := ∀ (H : Hp) (Q : VK), Same H0 H → (∀ H' z, Same H H' → WayAt K C H' z ws qs w us ms → Q (.ref z) H') → te σ H Q
theorem iw_var {i : Nat} {x : Addr} (hi : σ[i]? = some (some (.ref x))) (hw : WayAt K C H0 x ws qs w us ms) : IsWy K C H0 (tVar i) ws qs w us ms σ := fun H Q e q => ⟨_, hi, q H x (fun _ _ e => e) (hw.same e)⟩
theorem iw_make {t : TA} {fb fq : Bool} (h : AreC K [] H0 t [netD fb ws qs, .str w, seqD fq ((ms.map (nmQ qs)).map PyData.str)] σ) (hG : NetG ws qs) (hw : w ∈ ws) (hp : path qs (w :: us) ms) (w6 : ws.length ≤ 60) (q6 : qs.length ≤ 60) (m6 : ms.length ≤ 1000) : IsWy K C H0 (tMake C (spInit K C) [] E0 t) ws qs w us ms σ := fun H Q e q =>
  h H _ e Trk.nil fun H1 vs s1 d1 => by
    rw [cutS_nil] at d1
    cases d1 with
    | cons k1 d1 =>
    cases d1 with
    | cons k2 d1 =>
    cases d1 with
    | cons k3 d1 =>
    cases d1
    cases k2
    exact fun z dz hz hdz ne => make_way hz hdz ne k1 k3 hG hw hp w6 q6 (by omega) fun H' s' hway => q H' z (s1.trans s') hway
theorem iw_cost (h : IsWy K C H0 te ws qs w us ms σ) : IsC K [] H0 (tMeth C "cost" (spCost K C) [] E0 te tNil) (.int (costQ qs ms)) σ := fun H Q e tr q => h H _ e fun H1 x s1 hw => by
  obtain ⟨dx, v1, v2, v3, v4, v5, h0, _⟩ := id hw.is
  exact ⟨x, dx, _, rfl, h0, f5_no (by decide +kernel), x, ws, qs, w, us, ms, rfl, hw, q H1 _ s1 (.int _)⟩
theorem iw_steps (h : IsWy K C H0 te ws qs w us ms σ) : IsC K [] H0 (tMeth C "steps" (spSteps K C) [] E0 te tNil) (stepsD qs ms) σ := fun H Q e tr q => h H _ e fun H1 x s1 hw => by
  obtain ⟨dx, v1, v2, v3, v4, v5, h0, _⟩ := id hw.is
  exact ⟨x, dx, _, rfl, h0, f5_no (by decide +kernel), x, ws, qs, w, us, ms, rfl, hw, fun v hv => q H1 v s1 (by rw [cutS_nil]; exact hv)⟩
theorem iw_workers (h : IsWy K C H0 te ws qs w us ms σ) : IsC K [] H0 (tMeth C "workers" (spWorkers K C) [] E0 te tNil) (.tuple ((w :: us).map PyData.str)) σ := fun H Q e tr q => h H _ e fun H1 x s1 hw => by
  obtain ⟨dx, v1, v2, v3, v4, v5, h0, _⟩ := id hw.is
  exact ⟨x, dx, _, rfl, h0, f5_no (by decide +kernel), x, ws, qs, w, us, ms, rfl, hw, fun v hv => q H1 v s1 (by rw [cutS_nil]; exact hv)⟩
/-- one Way == another -/
theorem iw_eq {te2 : TE} {ws2 : List Str} {qs2 : List QD} {w2 : Str} {us2 : List Str} {ms2 : List Mk} (h : IsWy K C H0 te ws qs w us ms σ) (h2 : IsWy K C H0 te2 ws2 qs2 w2 us2 ms2 σ) (sh1 : SeqAt.shaped (netD true ws qs) = true) (sh2 : SeqAt.shaped (netD true ws2 qs2) = true) (sh3 : SeqAt.shaped (stepsD qs ms) = true) (sh4 : SeqAt.shaped (stepsD qs2 ms2) = true) :
    IsC K [] H0 (tOp (rEqI K C (spEqA K C)) te te2) (.bool (eqF ws qs w ms ws2 qs2 w2 ms2)) σ := fun H Q e tr q => h H _ e fun H1 x s1 hw => h2 H1 _ (e.trans s1) fun H2 y s2 hw2 => by
  obtain ⟨dx, v1, v2, v3, v4, v5, h0, _⟩ := id (hw.same s2).is
  obtain ⟨dy, u1, u2, u3, u4, u5, g0, _⟩ := id hw2.is
  exact ⟨x, dx, _, rfl, h0, .inl ⟨y, dy, _, rfl, g0⟩, .inl ⟨x, y, ws, ws2, qs, qs2, w, w2, us, us2, ms, ms2, rfl, hw.same s2, hw2, sh1, sh2, sh3, sh4, ⟨_, rfl⟩, q H2 _ (s1.trans s2) (.bl _)⟩⟩
end
/-! ### a Way stands beside lists and boxes that change -/
section
variable {K : PySem.W.Frag} {H : Hp} {S : List Addr}
def LstS (S : List Addr) (H : Hp) : Prop := ∀ b ∈ S, ∃ l, H b = some (.lst l)
theorem sqt_cutS {a : Addr} {xs : List V} (h : SqT K H a xs) (hS : LstS S H) : SqT K (cutS S H) a xs := by
  rcases h with (h | ⟨o, h⟩) | h
  · refine .inl (.inl (cutS_at h fun z => ?_))
    obtain ⟨l, hl⟩ := hS a z
    rw [hl] at h
    cases h
  · refine .inl (.inr ⟨o, cutS_at h fun z => ?_⟩)
    obtain ⟨l, hl⟩ := hS a z
    rw [hl] at h
    cases h
  · exact .inr h
theorem strs_cut {v : V} {xs : List Str} (h : Dp K H v (.tuple (xs.map PyData.str))) (hS : LstS S H) : Dp K (cutS S H) v (.tuple (xs.map PyData.str)) := by
  obtain ⟨a, ys, rfl, ha, hy⟩ := Dp.seq_of (f := true) (show Dp K H v (seqD true (xs.map PyData.str)) from h)
  have e := dpa_strs_of hy
  subst e
  exact .tup (sqt_cutS ha hS) dpa_strs
theorem ints_cut {v : V} {xs : List Int} (h : Dp K H v (.tuple (xs.map PyData.int))) (hS : LstS S H) : Dp K (cutS S H) v (.tuple (xs.map PyData.int)) := by
  obtain ⟨a, ys, rfl, ha, hy⟩ := Dp.seq_of (f := true) (show Dp K H v (seqD true (xs.map PyData.int)) from h)
  have e := dpa_ints_of hy
  subst e
  exact .tup (sqt_cutS ha hS) dpa_ints
theorem dpa_cut {α : Type} {f : α → PyData} (hf : ∀ v x, Dp K H v (f x) → Dp K (cutS S H) v (f x)) : ∀ {xs : List α} {vs : List V}, DpAll K H vs (xs.map f) → DpAll K (cutS S H) vs (xs.map f)
  | [], _, .nil => .nil
  | x :: xs, _, .cons h1 h2 => .cons (hf _ _ h1) (dpa_cut hf h2)
theorem row_cutS {v : V} {q : QD} (h : Dp K H v (q.d true)) (hS : LstS S H) : Dp K (cutS S H) v (q.d true) := by
  obtain ⟨a, rfl, hs⟩ := dp_q h
  exact .tup (sqt_cutS hs hS) (.cons (.str _) (.cons (.str _) (.cons (.str _) (.cons (.int _) (.cons (.int _) .nil)))))
theorem net_cut {v : V} {ws : List Str} {qs : List QD} (h : Dp K H v (netD true ws qs)) (hS : LstS S H) : Dp K (cutS S H) v (netD true ws qs) := by
  obtain ⟨a, ys, rfl, ha, hy⟩ := Dp.seq_of (f := true) (show Dp K H v (seqD true [.tuple (ws.map PyData.str), .tuple (qs.map (QD.d true))]) from h)
  cases hy with
  | cons k1 hy =>
  cases hy with
  | cons k2 hy =>
  cases hy
  refine .tup (sqt_cutS ha hS) (.cons (strs_cut k1 hS) (.cons ?_ .nil))
  obtain ⟨a2, y2, rfl, ha2, hy2⟩ := Dp.seq_of (f := true) (show Dp K H _ (seqD true (qs.map (QD.d true))) from k2)
  exact .tup (sqt_cutS ha2 hS) (dpa_cut (fun _ _ h => row_cutS h hS) hy2)
theorem steps_cut {v : V} {qs : List QD} {ms : List Mk} (h : Dp K H v (stepsD qs ms)) (hS : LstS S H) : Dp K (cutS S H) v (stepsD qs ms) := by
  obtain ⟨a, ys, rfl, ha, hy⟩ := Dp.seq_of (f := true) (show Dp K H v (seqD true (ms.map (stD qs))) from h)
  refine .tup (sqt_cutS ha hS) (dpa_cut (fun v m h => ?_) hy)
  obtain ⟨a2, y2, rfl, ha2, hy2⟩ := Dp.seq_of (f := true) (show Dp K H v (seqD true ([nmQ qs m, if m.2 = true then alS else agS].map PyData.str)) from h)
  have e := dpa_strs_of hy2
  subst e
  exact .tup (sqt_cutS ha2 hS) dpa_strs
theorem WayAt.cut {C x : Addr} {ws : List Str} {qs : List QD} {w : Str} {us : List Str} {ms : List Mk} (h : WayAt K C H x ws qs w us ms) (hS : LstS S H) : WayAt K C (cutS S H) x ws qs w us ms := by
  obtain ⟨dx, v1, v2, v3, v4, v5, h0, h1, h2, h3, h4, h5⟩ := h.is
  refine ⟨dx, v1, v2, v3, v4, v5, cutS_at h0 fun z => ?_, net_cut h1 hS, strs_cut h2 hS, steps_cut h3 hS, strs_cut h4 hS, ints_cut h5 hS⟩
  obtain ⟨l, hl⟩ := hS x z
  rw [hl] at h0
  cases h0
end
theorem path_lt {qs : List QD} {vs : List Str} {ms : List Mk} (h : path qs vs ms) : ∀ m ∈ ms, m.1 < qs.length := fun m hm => by
  obtain ⟨x, y, hl, _⟩ := path_in h hm
  exact link_lt hl
theorem par_of {ta : TA} {i j : Nat} {u : TS} {D : Ends} {σ : L2.St} {H : Hp} (h : ta σ H fun vs H1 => ∃ v w, vs = [v, w] ∧ u D ((σ.set i (some v)).set j (some w)) H1) : tSeq (tPar i j ta) u D σ H := h
theorem drop_of {te : TE} {u : TS} {D : Ends} {σ : L2.St} {H : Hp} (h : te σ H fun _ H1 => u D σ H1) : tSeq (tDrop te) u D σ H := h
theorem asgG_of {te : TE} {g : TG} {u : TS} {D : Ends} {σ : L2.St} {H : Hp} (h : te σ H fun x H1 => g x σ H1 (u D)) : tSeq (tAsg te g) u D σ H := h
section
variable {K : PySem.W.Frag} {C : Addr} {H0 : Hp} {σ : L2.St} {te ta tb : TE} {ds es : List PyData} {d : PyData}
theorem ic_at {fb : Bool} {j : Int} (k : Nat) (h : IsC K [] H0 te (seqD fb ds) σ) (hd : ds[k]? = some d) (hj : j = (k : Nat) := by rfl) : IsC K [] H0 (tOp (rIxF K) te (tC (.int j))) d σ := fun H Q e tr q => h H _ e tr fun H1 v s1 d1 => by
  rw [cutS_nil] at d1
  obtain ⟨a, xs, rfl, ha, hx⟩ := Dp.seq_of d1
  obtain ⟨u, hu, du⟩ := dpa_get' hx hd
  exact rIxF_at ha (by rw [hj]; exact atI_nat hu) (q H1 u s1 (by rw [cutS_nil]; exact du))
theorem ic_atT {j : Int} (k : Nat) (h : IsC K [] H0 te (.tuple ds) σ) (hd : ds[k]? = some d) (hj : j = (k : Nat) := by rfl) : IsC K [] H0 (tOp (rIxT K) te (tC (.int j))) d σ := fun H Q e tr q => h H _ e tr fun H1 v s1 d1 => by
  rw [cutS_nil] at d1
  obtain ⟨a, xs, rfl, ha, hx⟩ := Dp.seq_of (f := true) d1
  obtain ⟨u, hu, du⟩ := dpa_get' hx hd
  exact ⟨a, xs, _, u, rfl, rfl, ha, by rw [hj]; exact atI_nat hu, q H1 u s1 (by rw [cutS_nil]; exact du)⟩
theorem dpa_last {H : Hp} : ∀ {xs : List V} {es : List PyData}, DpAll K H xs (es ++ [d]) → ∃ ys v, xs = ys ++ [v] ∧ DpAll K H ys es ∧ Dp K H v d
  | _, [], h => by
    cases h with
    | cons h1 h2 =>
      cases h2
      exact ⟨[], _, rfl, .nil, h1⟩
  | _, e :: es, h => by
    cases h with
    | cons h1 h2 =>
      obtain ⟨ys, v, rfl, h3, h4⟩ := dpa_last h2
      exact ⟨_ :: ys, v, rfl, .cons h1 h3, h4⟩
theorem ic_lastT (h : IsC K [] H0 te (.tuple (es ++ [d])) σ) : IsC K [] H0 (tOp (rIxT K) te (tUn (rU fun i => .int (-i)) (tC (.int 1)))) d σ := fun H Q e tr q => h H _ e tr fun H1 v s1 d1 => by
  rw [cutS_nil] at d1
  obtain ⟨a, xs, rfl, ha, hx⟩ := Dp.seq_of (f := true) d1
  obtain ⟨ys, u, rfl, _, du⟩ := dpa_last hx
  exact ⟨1, rfl, a, _, _, u, rfl, rfl, ha, atI_last ys u, q H1 u s1 (by rw [cutS_nil]; exact du)⟩
theorem cut_m1 {xs : List V} : cutV xs none (some (-1)) = xs.take (xs.length - 1) := by
  unfold cutV
  have e : HT.sIx xs.length xs.length (some (-1)) = xs.length - 1 := by
    show (if (-1 : Int) < 0 then ((-1 : Int) + (xs.length : Int)).toNat else min (-1 : Int).toNat xs.length) = xs.length - 1
    rw [if_pos (by decide)]
    omega
  rw [e, show HT.sIx xs.length 0 none = 0 from HT.sIx_none _ _, List.drop_zero, Nat.sub_zero]
theorem ic_initT (h : IsC K [] H0 te (.tuple (es ++ [d])) σ) : IsC K [] H0 (tSl (rSlA K) te tNoPart (tPart (tUn (rU fun i => .int (-i)) (tC (.int 1))))) (.tuple es) σ := fun H Q e tr q => h H _ e tr fun H1 v s1 d1 => by
  rw [cutS_nil] at d1
  obtain ⟨a, xs, rfl, ha, hx⟩ := Dp.seq_of (f := true) d1
  obtain ⟨ys, u, rfl, dy, _⟩ := dpa_last hx
  refine ⟨1, rfl, -1, rfl, a, _, rfl, ha, fun z => ?_, fun _ p hp => ?_⟩
  · have e : HT.sIx (ys ++ [u]).length (ys ++ [u]).length (some (-1)) = (ys ++ [u]).length - 1 := by
      show (if (-1 : Int) < 0 then ((-1 : Int) + ((ys ++ [u]).length : Int)).toNat else min (-1 : Int).toNat (ys ++ [u]).length) = (ys ++ [u]).length - 1
      rw [if_pos (by decide)]
      omega
    have z2 := z.2
    rw [e, List.length_append, List.length_singleton] at z2
    omega
  · refine q _ _ (s1.trans (.upd hp)) ?_
    rw [cutS_nil, cut_m1, List.length_append, List.length_singleton, Nat.add_sub_cancel, List.take_left']
    · exact .tup (sqt_of upd_same) ((Same.upd hp).dpa dy)
    · rfl
theorem ic_eqS {a b : Str} (h1 : IsC K [] H0 ta (.str a) σ) (h2 : IsC K [] H0 tb (.str b) σ) : IsC K [] H0 (tOp rEq ta tb) (.bool (decide (a = b))) σ := fun H Q e tr q => h1 H _ e tr fun H1 v s1 d1 => h2 H1 _ (e.trans s1) (tr.mono s1) fun H2 u s2 d2 => by
  cases d1
  cases d2
  refine ⟨rfl, ?_⟩
  rw [decS']
  exact q H2 _ (s1.trans s2) (.bl _)
theorem ic_eqD {a b : PyData} (h1 : IsC K [] H0 ta a σ) (h2 : IsC K [] H0 tb b σ) (sh1 : SeqAt.shaped a = true) (sh2 : SeqAt.shaped b = true) : IsC K [] H0 (tOp (rEqD K) ta tb) (.bool (PyData.eqv a b)) σ := fun H Q e tr q => h1 H _ e tr fun H1 v s1 d1 => h2 H1 _ (e.trans s1) (tr.mono s1) fun H2 u s2 d2 => by
  rw [cutS_nil] at d1 d2
  exact ⟨a, b, s2.dp d1, d2, sh1, sh2, q H2 _ (s1.trans s2) (.bl _)⟩
theorem ic_and {a b : Bool} (h1 : IsC K [] H0 ta (.bool a) σ) (h2 : IsC K [] H0 tb (.bool b) σ) : IsC K [] H0 (tAndV ta tb) (.bool (a && b)) σ := fun H Q e tr q => h1 H _ e tr fun H1 v s1 d1 => by
  cases d1
  refine ⟨a, rfl, ?_⟩
  cases a with
  | false => exact iteF (q H1 _ s1 (.bl _))
  | true =>
    refine iteT (h2 H1 _ (e.trans s1) (tr.mono s1) fun H2 u s2 d2 => ?_)
    cases d2
    exact q H2 _ (s1.trans s2) (.bl _)
theorem ic_not {a : Bool} (h1 : IsC K [] H0 ta (.bool a) σ) : IsC K [] H0 (tNotV ta) (.bool (!a)) σ := fun H Q e tr q => h1 H _ e tr fun H1 v s1 d1 => by
  cases d1
  exact ⟨a, rfl, q H1 _ s1 (.bl _)⟩
theorem ic_sub {i j : Int} (h1 : IsC K [] H0 ta (.int i) σ) (h2 : IsC K [] H0 tb (.int j) σ) : IsC K [] H0 (tOp (rI0 fun i j => .int (i - j)) ta tb) (.int (i - j)) σ := fun H Q e tr q => h1 H _ e tr fun H1 v s1 d1 => h2 H1 _ (e.trans s1) (tr.mono s1) fun H2 u s2 d2 => by
  cases d1
  cases d2
  exact ⟨_, _, rfl, rfl, q H2 _ (s1.trans s2) (.int _)⟩
theorem ic_min {i j : Int} (h1 : IsC K [] H0 ta (.int i) σ) (h2 : IsC K [] H0 tb (.int j) σ) : IsC K [] H0 (tCB (fun xs H Q => ∃ i j, xs = [.int i, .int j] ∧ Q (.int (if j < i then j else i)) H) (tCons ta (tCons tb tNil))) (.int (if j < i then j else i)) σ := fun H Q e tr q => h1 H _ e tr fun H1 v s1 d1 => h2 H1 _ (e.trans s1) (tr.mono s1) fun H2 u s2 d2 => by
  cases d1
  cases d2
  exact ⟨_, _, rfl, q H2 _ (s1.trans s2) (.int _)⟩
theorem ic_ifC {t : TT} {c : Bool} (ht : ∀ (H : Hp) (R : Bool → Hp → Prop), Same H0 H → (∀ H', Same H H' → R c H') → t σ H R) (h1 : c = true → IsC K [] H0 ta d σ) (h2 : c = false → IsC K [] H0 tb d σ) : IsC K [] H0 (tIf t ta tb) d σ := fun H Q e tr q => ht H _ e fun H1 s1 => by
  cases c with
  | true => exact iteT (h1 rfl H1 Q (e.trans s1) (tr.mono s1) fun H2 v s2 d2 => q H2 v (s1.trans s2) d2)
  | false => exact iteF (h2 rfl H1 Q (e.trans s1) (tr.mono s1) fun H2 v s2 d2 => q H2 v (s1.trans s2) d2)
theorem tt_gt {i j : Int} (h1 : IsC K [] H0 ta (.int i) σ) (h2 : IsC K [] H0 tb (.int j) σ) : ∀ (H : Hp) (R : Bool → Hp → Prop), Same H0 H → (∀ H', Same H H' → R (decide (j < i)) H') → tTest (tOp (rI0 fun i j => .bl (decide (j < i))) ta tb) σ H R := fun H R e q => h1 H _ e Trk.nil fun H1 v s1 d1 => h2 H1 _ (e.trans s1) Trk.nil fun H2 u s2 d2 => by
  cases d1
  cases d2
  exact ⟨_, _, rfl, rfl, _, rfl, q H2 (s1.trans s2)⟩
/-! ### Ways -/
variable {ws ws2 : List Str} {qs qs2 : List QD} {w w2 : Str} {us us2 : List Str} {ms ms2 : List Mk}
theorem iw_ne (h : IsWy K C H0 ta ws qs w us ms σ) (h2 : IsWy K C H0 tb ws2 qs2 w2 us2 ms2 σ) (sh1 : SeqAt.shaped (netD true ws qs) = true) (sh2 : SeqAt.shaped (netD true ws2 qs2) = true) (sh3 : SeqAt.shaped (stepsD qs ms) = true) (sh4 : SeqAt.shaped (stepsD qs2 ms2) = true) :
    IsC K [] H0 (tOp (rNeI K C (spEqA K C)) ta tb) (.bool (!eqF ws qs w ms ws2 qs2 w2 ms2)) σ := fun H Q e tr q => h H _ e fun H1 x s1 hw => h2 H1 _ (e.trans s1) fun H2 y s2 hw2 => by
  obtain ⟨dx, v1, v2, v3, v4, v5, h0, _⟩ := id (hw.same s2).is
  obtain ⟨dy, u1, u2, u3, u4, u5, g0, _⟩ := id hw2.is
  exact ⟨x, dx, _, rfl, h0, .inl ⟨y, dy, _, rfl, g0⟩, .inl ⟨x, y, ws, ws2, qs, qs2, w, w2, us, us2, ms, ms2, rfl, hw.same s2, hw2, sh1, sh2, sh3, sh4, _, rfl, q H2 _ (s1.trans s2) (.bl _)⟩⟩
theorem iw_eqL (h : IsWy K C H0 ta ws qs w us ms σ) (h2 : IsC K [] H0 tb (.list ds) σ) (sl : PySem.W.subIn K (.type "list") (.ref C) = some false) : IsC K [] H0 (tOp (rEqI K C (spEqA K C)) ta tb) (.bool false) σ := fun H Q e tr q => h H _ e fun H1 x s1 hw => h2 H1 _ (e.trans s1) Trk.nil fun H2 v s2 d2 => by
  rw [cutS_nil] at d2
  obtain ⟨a, xs, rfl, ha, hx⟩ := Dp.seq_of (f := false) d2
  obtain ⟨dx, v1, v2, v3, v4, v5, h0, _⟩ := id (hw.same s2).is
  exact ⟨x, dx, _, rfl, h0, .inr (.inr (.inr ⟨⟨a, xs, rfl, ha⟩, sl⟩)), .inr ⟨x, dx, _, .ref a, "list", rfl, h0, tyx_list ha, sl, ⟨_, rfl⟩, q H2 _ (s1.trans s2) (.bl _)⟩⟩
theorem iw_eqI {i : Int} (h : IsWy K C H0 ta ws qs w us ms σ) (si : PySem.W.subIn K (.type "int") (.ref C) = some false) : IsC K [] H0 (tOp (rEqI K C (spEqA K C)) ta (tC (.int i))) (.bool false) σ := fun H Q e tr q => h H _ e fun H1 x s1 hw => by
  obtain ⟨dx, v1, v2, v3, v4, v5, h0, _⟩ := id hw.is
  exact ⟨x, dx, _, rfl, h0, .inr (.inl ⟨⟨i, rfl⟩, si⟩), .inr ⟨x, dx, _, .int i, "int", rfl, h0, .base (.int i), si, ⟨_, rfl⟩, q H1 _ s1 (.bl _)⟩⟩
end
theorem GoodNet.net {s m : Nat} {h : Int} {ws : List Str} {qs : List QD} (hG : GoodNet s m h ws qs) : NetG ws qs := by
  refine ⟨fun q hq => ⟨(hG.qq q hq).1, (hG.qq q hq).2.1, (hG.qq q hq).2.2.1⟩, ?_⟩
  obtain ⟨l, hl, _, _, k, e⟩ := hG.qn
  rw [e]
  exact hl.sublist (List.take_sublist k l)
theorem sh_strs {xs : List Str} (h : ∀ x ∈ xs, PyData.strOk x = true) : SeqAt.shaped (.list (xs.map PyData.str)) = true := by
  refine shaped_of (can_seq (f := false) fun d hd => ?_) (Nat.le_trans (dep_seq (f := false) (n := 0) fun d hd => ?_) (by decide))
  · obtain ⟨x, hx, rfl⟩ := List.mem_map.mp hd
    rw [PyData.canLay0]
    exact h x hx
  · obtain ⟨x, hx, rfl⟩ := List.mem_map.mp hd
    simp [PyData.depth]
theorem nm_in {qs : List QD} {us : List Str} {ms : List Mk} (h2 : ∀ q ∈ qs, PyData.strOk q.nm = true) (hp : path qs us ms) : ∀ m ∈ ms, PyData.strOk (nmQ qs m) = true := fun m hm => by
  have hq := List.getElem?_eq_getElem (path_lt hp m hm)
  unfold nmQ
  rw [hq]
  exact h2 _ (List.getElem_mem _)
/-! ### when Ways are the same -/
theorem eqv_str {a b : Str} : PyData.eqv (.str a) (.str b) = decide (a = b) := by
  rw [PyData.eqv]
  by_cases h : a = b
  · rw [decide_eq_true h, beq_iff_eq]
    exact h
  · rw [decide_eq_false h]
    exact beq_eq_false_iff_ne.mpr h
theorem eqvA_map {α β : Type} [DecidableEq β] {f : α → PyData} {g : α → β} (h : ∀ x y, PyData.eqv (f x) (f y) = decide (g x = g y)) : ∀ xs ys : List α, PyData.eqvAll (xs.map f) (ys.map f) = decide (xs.map g = ys.map g)
  | [], [] => by simp [PyData.eqvAll]
  | [], _ :: _ => by simp [PyData.eqvAll]
  | _ :: _, [] => by simp [PyData.eqvAll]
  | x :: xs, y :: ys => by
    rw [List.map_cons, List.map_cons, PyData.eqvAll, h, eqvA_map h xs ys, List.map_cons, List.map_cons]
    by_cases e : g x = g y
    · by_cases e2 : xs.map g = ys.map g
      · rw [e, e2]
        simp
      · simp [e2]
    · simp [e]
theorem eqv_strs {a b : List Str} : PyData.eqv (.list (a.map PyData.str)) (.list (b.map PyData.str)) = decide (a = b) := by
  rw [PyData.eqv, eqvA_map (f := PyData.str) (g := id) (fun _ _ => eqv_str), List.map_id, List.map_id]
def sgQ (qs : List QD) (m : Mk) : Str × Bool := (nmQ qs m, m.2)
theorem al_ag : alS ≠ agS := by decide +kernel
theorem eqv_stD {qs : List QD} {m m2 : Mk} : PyData.eqv (stD qs m) (stD qs m2) = decide (sgQ qs m = sgQ qs m2) := by
  have e : PyData.eqv (stD qs m) (stD qs m2) = (decide (nmQ qs m = nmQ qs m2) && decide ((if m.2 = true then alS else agS) = (if m2.2 = true then alS else agS))) := by
    show PyData.eqv (.tuple _) (.tuple _) = _
    rw [PyData.eqv, PyData.eqvAll, PyData.eqvAll, PyData.eqvAll, eqv_str, eqv_str, Bool.and_true]
  rw [e]
  obtain ⟨i, b⟩ := m
  obtain ⟨j, c⟩ := m2
  unfold sgQ
  by_cases h : nmQ qs (i, b) = nmQ qs (j, c)
  · cases b <;> cases c <;> simp [h, al_ag, al_ag.symm]
  · simp [h]
theorem eqv_steps {qs : List QD} {ms ms2 : List Mk} : PyData.eqv (stepsD qs ms) (stepsD qs ms2) = decide (ms.map (sgQ qs) = ms2.map (sgQ qs)) := by
  show PyData.eqv (.tuple _) (.tuple _) = _
  rw [PyData.eqv, eqvA_map (g := sgQ qs) (fun _ _ => eqv_stD)]
theorem nm_injI {qs : List QD} (nn : (qs.map QD.nm).Nodup) {i j : Nat} {q p : QD} (h1 : qs[i]? = some q) (h2 : qs[j]? = some p) (e : q.nm = p.nm) : i = j := by
  have hi := (List.getElem?_eq_some_iff.mp h1).1
  have hj := (List.getElem?_eq_some_iff.mp h2).1
  refine (List.getElem_inj (h₀ := by rw [List.length_map]; exact hi) (h₁ := by rw [List.length_map]; exact hj) nn).mp ?_
  rw [List.getElem_map, List.getElem_map, (List.getElem?_eq_some_iff.mp h1).2, (List.getElem?_eq_some_iff.mp h2).2]
  exact e
theorem path_same {ws : List Str} {qs : List QD} (g : NetG ws qs) : ∀ {ms ms2 : List Mk} {w : Str} {us us2 : List Str}, path qs (w :: us) ms → path qs (w :: us2) ms2 → ms.map (nmQ qs) = ms2.map (nmQ qs) → ms = ms2
  | [], [], _, _, _, _, _, _ => rfl
  | [], _ :: _, _, _, _, _, _, e => nomatch e
  | _ :: _, [], _, _, _, _, _, e => nomatch e
  | m :: ms, m2 :: ms2, w, us, us2, h1, h2, e => by
    cases us with
    | nil => exact absurd h1 id
    | cons u us =>
    cases us2 with
    | nil => exact absurd h2 id
    | cons u2 us2 =>
    obtain ⟨k1, k2⟩ := (show link qs m w u ∧ path qs (u :: us) ms from h1)
    obtain ⟨l1, l2⟩ := (show link qs m2 w u2 ∧ path qs (u2 :: us2) ms2 from h2)
    obtain ⟨e1, e2⟩ := List.cons.inj (show nmQ qs m :: ms.map (nmQ qs) = nmQ qs m2 :: ms2.map (nmQ qs) from e)
    obtain ⟨q, hq, hk⟩ := k1
    obtain ⟨p, hp, hl⟩ := l1
    have en : q.nm = p.nm := by
      unfold nmQ at e1
      rw [hq, hp] at e1
      exact e1
    have ei := nm_injI g.nn hq hp en
    rw [← ei, hq] at hp
    cases hp
    have hne := (g.q1 q (List.mem_of_getElem? hq)).2.2
    obtain ⟨i, b⟩ := m
    obtain ⟨j, c⟩ := m2
    cases (show i = j from ei)
    have hb : b = c ∧ u = u2 := by
      rcases hk with ⟨a1, a2, a3⟩ | ⟨a1, a2, a3⟩ <;> rcases hl with ⟨b1, b2, b3⟩ | ⟨b1, b2, b3⟩
      · exact ⟨a1.trans b1.symm, a3.symm.trans b3⟩
      · exact absurd (a2.trans b2.symm) hne
      · exact absurd (b2.trans a2.symm) hne
      · exact ⟨a1.trans b1.symm, a3.symm.trans b3⟩
    obtain ⟨rfl, rfl⟩ := hb
    rw [path_same g k2 l2 e2]
/-- Ways of one net are the same just if they begin at the same worker and go over the same queues -/
theorem eqF_alike {ws : List Str} {qs : List QD} {w w2 : Str} {us us2 : List Str} {ms ms2 : List Mk} (g : NetG ws qs) (sh : SeqAt.shaped (netD true ws qs) = true) (h1 : path qs (w :: us) ms) (h2 : path qs (w2 :: us2) ms2) : eqF ws qs w ms ws qs w2 ms2 = (decide (w2 = w) && decide (ms2.map (nmQ qs) = ms.map (nmQ qs))) := by
  unfold eqF
  rw [eqv_of sh, Bool.true_and, eqv_steps]
  by_cases e : w = w2
  · subst e
    by_cases e2 : ms.map (nmQ qs) = ms2.map (nmQ qs)
    · cases path_same g h1 h2 e2
      simp
    · have n1 : ¬ ms.map (sgQ qs) = ms2.map (sgQ qs) := fun z => e2 (by
        have := congrArg (List.map Prod.fst) z
        rw [List.map_map, List.map_map] at this
        exact this)
      have n2 : ¬ ms2.map (nmQ qs) = ms.map (nmQ qs) := fun z => e2 z.symm
      rw [decide_eq_false n1, decide_eq_false n2, Bool.and_false]
  · have e3 : ¬ w2 = w := fun z => e z.symm
    rw [decide_eq_false e, decide_eq_false e3, Bool.false_and, Bool.false_and]
theorem eqF_more {ws : List Str} {qs : List QD} {w : Str} {ms : List Mk} {z : Str} : eqF (ws ++ [z]) qs w ms ws qs w ms = false := by
  unfold eqF
  have e : PyData.eqv (netD true (ws ++ [z]) qs) (netD true ws qs) = false := by
    show PyData.eqv (.tuple [.tuple _, .tuple _]) (.tuple [.tuple _, .tuple _]) = false
    rw [PyData.eqv, PyData.eqvAll, PyData.eqv, eqvA_map (f := PyData.str) (g := id) (fun _ _ => eqv_str), List.map_id, List.map_id, decide_eq_false fun h => ?_, Bool.false_and]
    have := congrArg List.length h
    rw [List.length_append, List.length_singleton] at this
    omega
  rw [e, Bool.false_and]
theorem eqvA_app : ∀ {xs ys xs2 ys2 : List PyData}, xs.length = xs2.length → PyData.eqvAll (xs ++ ys) (xs2 ++ ys2) = (PyData.eqvAll xs xs2 && PyData.eqvAll ys ys2)
  | [], _, [], _, _ => by simp [PyData.eqvAll]
  | [], _, _ :: _, _, h => nomatch h
  | _ :: _, _, [], _, h => nomatch h
  | x :: xs, ys, y :: xs2, ys2, h => by
    rw [List.cons_append, List.cons_append, PyData.eqvAll, PyData.eqvAll, eqvA_app (by simpa using h), Bool.and_assoc]
theorem eqF_room {ws : List Str} {qs : List QD} {w w2 : Str} {ms ms2 : List Mk} {q p : QD} (h : p.room ≠ q.room) : eqF ws (qs ++ [p]) w ms ws (qs ++ [q]) w2 ms2 = false := by
  unfold eqF
  have e : PyData.eqv (netD true ws (qs ++ [p])) (netD true ws (qs ++ [q])) = false := by
    show PyData.eqv (.tuple [.tuple _, .tuple _]) (.tuple [.tuple _, .tuple _]) = false
    have e2 : PyData.eqv (p.d true) (q.d true) = false := by
      show PyData.eqv (.tuple [.str _, .str _, .str _, .int _, .int _]) (.tuple [.str _, .str _, .str _, .int _, .int _]) = false
      have e3 : PyData.eqv (.int p.room) (.int q.room) = false := by
        rw [PyData.eqv]
        exact beq_eq_false_iff_ne.mpr h
      rw [PyData.eqv, PyData.eqvAll, PyData.eqvAll, PyData.eqvAll, PyData.eqvAll, e3]
      simp
    have e4 : PyData.eqvAll [.tuple ((qs ++ [p]).map (QD.d true))] [.tuple ((qs ++ [q]).map (QD.d true))] = false := by
      rw [PyData.eqvAll, PyData.eqv, List.map_append, List.map_append, eqvA_app rfl]
      show (PyData.eqvAll _ _ && PyData.eqvAll [p.d true] [q.d true] && _) = false
      rw [show PyData.eqvAll [p.d true] [q.d true] = false by rw [PyData.eqvAll, e2, Bool.false_and], Bool.and_false, Bool.false_and]
    rw [PyData.eqv, PyData.eqvAll, e4, Bool.and_false]
  rw [e, Bool.false_and]
/-- a net with other rooms has the same ways -/
theorem like_get {qs : List QD} {p q : QD} (e1 : p.nm = q.nm) (e2 : p.st = q.st) (e3 : p.en = q.en) {i : Nat} {x : QD} (h : (qs ++ [q])[i]? = some x) : ∃ y, (qs ++ [p])[i]? = some y ∧ y.nm = x.nm ∧ y.st = x.st ∧ y.en = x.en := by
  by_cases hi : i < qs.length
  · rw [List.getElem?_append_left hi] at h
    exact ⟨x, by rw [List.getElem?_append_left hi]; exact h, rfl, rfl, rfl⟩
  · rw [List.getElem?_append_right (by omega)] at h
    rw [List.getElem?_append_right (by omega)]
    cases hk : i - qs.length with
    | zero =>
      rw [hk] at h
      cases h
      exact ⟨p, rfl, e1, e2, e3⟩
    | succ k =>
      rw [hk] at h
      simp at h
theorem like_path {qs : List QD} {p q : QD} (e1 : p.nm = q.nm) (e2 : p.st = q.st) (e3 : p.en = q.en) : ∀ {us : List Str} {ms : List Mk}, path (qs ++ [q]) us ms → path (qs ++ [p]) us ms
  | [_], [], h => h
  | v :: u :: vs, m :: ms, h => by
    obtain ⟨⟨x, hx, hl⟩, h2⟩ := (show link (qs ++ [q]) m v u ∧ path (qs ++ [q]) (u :: vs) ms from h)
    obtain ⟨y, hy, _, g2, g3⟩ := like_get e1 e2 e3 hx
    exact (show link (qs ++ [p]) m v u ∧ path (qs ++ [p]) (u :: vs) ms from ⟨⟨y, hy, by rw [g2, g3]; exact hl⟩, like_path e1 e2 e3 h2⟩)
  | [], _, h => absurd h id
  | [_], _ :: _, h => absurd h id
  | _ :: _ :: _, [], h => absurd h id
theorem like_nm {qs : List QD} {p q : QD} (e1 : p.nm = q.nm) (e2 : p.st = q.st) (e3 : p.en = q.en) {us : List Str} {ms : List Mk} (h : path (qs ++ [q]) us ms) : ms.map (nmQ (qs ++ [p])) = ms.map (nmQ (qs ++ [q])) := by
  refine List.map_congr_left fun m hm => ?_
  have hx := List.getElem?_eq_getElem (path_lt h m hm)
  obtain ⟨y, hy, g1, _⟩ := like_get e1 e2 e3 hx
  unfold nmQ
  rw [hx, hy]
  exact g1
theorem like_net {ws : List Str} {qs : List QD} {p q : QD} (e1 : p.nm = q.nm) (e2 : p.st = q.st) (e3 : p.en = q.en) (g : NetG ws (qs ++ [q])) : NetG ws (qs ++ [p]) := by
  refine ⟨fun x hx => ?_, ?_⟩
  · rcases List.mem_append.mp hx with hx | hx
    · exact g.q1 x (List.mem_append_left _ hx)
    · rw [List.mem_singleton.mp hx, e2, e3]
      exact g.q1 q (List.mem_append_right _ List.mem_cons_self)
  · have := g.nn
    rw [List.map_append] at this ⊢
    show (qs.map QD.nm ++ [p.nm]).Nodup
    rw [e1]
    exact this
theorem more_net {ws : List Str} {qs : List QD} {z : Str} (g : NetG ws qs) : NetG (ws ++ [z]) qs := ⟨fun q hq => ⟨List.mem_append_left _ (g.q1 q hq).1, List.mem_append_left _ (g.q1 q hq).2.1, (g.q1 q hq).2.2⟩, g.nn⟩
theorem poolQ_zz : ∀ x ∈ poolQ, x ≠ zzS := by decide +kernel
theorem good_zz {s m : Nat} {h : Int} {ws : List Str} {qs : List QD} (g : GoodNet s m h ws qs) : ∀ q ∈ qs, q.nm ≠ zzS := fun q hq => by
  obtain ⟨l, _, _, hl, k, e⟩ := g.qn
  have : q.nm ∈ qs.map QD.nm := List.mem_map.mpr ⟨q, hq, rfl⟩
  rw [e] at this
  exact poolQ_zz _ (hl _ (List.mem_of_mem_take this))
end Jl

set_option Elab.async false
set_option linter.all false
set_option maxRecDepth 100000
set_option maxHeartbeats 1000000
set_option pp.maxSteps 300
namespace Jl
open PySem PySem.Spec PyProof.Rows L2
open Evl (sz_of sz_lt)
local macro_rules | `(tactic| walk_at "at") => `(tactic| first | exact box0 | exact box1 | exact box2)
local macro_rules | `(tactic| walk_at "sq") => `(tactic| first | (show SqL _ _ _ _; assumption) | (show SqT _ _ _ _; assumption) | (show _ = some _; assumption))
local macro_rules | `(tactic| walk_at "side") => `(tactic| first
  | (show (0 : Int) < _; decide)
  | (show (0 : Int) < _; omega)
  | exact ⟨by decide, by decide, by decide⟩
  | exact sz_of (Nat.le_of_ble_eq_true rfl)
  | exact rfl
  | exact Or.inl (by decide)
  | exact Or.inr (by decide)
  | exact Or.inr ⟨by omega, by omega⟩
  | exact Or.inl ⟨by omega, by omega⟩
  | exact ⟨by decide, by decide +kernel⟩)
local macro_rules | `(tactic| walk_at "ev1") => `(tactic| first
  | refine ⟨_, rfl, ?_⟩
  | refine ⟨_, _, rfl, rfl, ?_⟩
  | refine ⟨_, _, _, _, rfl, rfl, (by walk_at "sq"), (by walk_at "at"), ?_⟩
  | refine ⟨_, _, rfl, (by walk_at "sq"), ?_⟩
  | refine ⟨_, _, rfl, Or.inl (by walk_at "sq"), ?_⟩
  | refine ⟨_, _, rfl, Or.inr (by walk_at "sq"), ?_⟩
  | refine Or.inl ⟨_, rfl, ?_⟩
  | refine Or.inr ⟨_, rfl, ?_⟩
  | refine ⟨(by walk_at "side"), ?_⟩
  | refine ⟨.inl ⟨rfl, _, (by walk_at "sq")⟩, ?_⟩
  | refine ⟨_, _, rfl, ?_⟩)
local macro_rules | `(tactic| walk_at "nrm") => `(tactic| dsimp only [tNil, tCons, tC, tCB])
local macro_rules | `(tactic| walk_at "ev") => `(tactic| repeat (walk_at "ev1"))
section
variable {K : PySem.W.Frag} {C : Addr} {H : Hp} {σ : L2.St} {te : TE} {i : Nat} {u : TS} {D : Ends}
theorem asg_wy {ws : List Str} {qs : List QD} {w : Str} {us : List Str} {ms : List Mk} (h : IsWy K C H te ws qs w us ms σ) (q : ∀ H' z, Same H H' → WayAt K C H' z ws qs w us ms → u D (σ.set i (some (.ref z))) H') : tSeq (tAsg te (gName i)) u D σ H := h H _ (fun _ _ e => e) fun H' z s hw => q H' z s hw
end
structure Gd (ws : List Str) (qs : List QD) : Prop where
  g : NetG ws qs
  w6 : ws.length ≤ 60
  q6 : qs.length ≤ 60
  o1 : ∀ x ∈ ws, PyData.strOk x = true
  o2 : ∀ q ∈ qs, PyData.strOk q.nm = true
theorem Gd.sh {ws : List Str} {qs : List QD} (g : Gd ws qs) : SeqAt.shaped (netD true ws qs) = true := okE_net g.g g.o1 g.o2
section
variable {K : PySem.W.Frag} {C CS : Addr} {H0 : Hp} {σ : L2.St} {ws : List Str} {qs : List QD} {w w2 : Str} {us us2 : List Str} {ms ms2 : List Mk} {t1 t2 tk : TE}
theorem iw_add (h : IsWy K C H0 t1 ws qs w us ms σ) (h2 : IsWy K C H0 t2 ws qs w2 us2 ms2 σ) (e2 : w2 = us.getLastD w) (G : Gd ws qs) (hw : w ∈ ws) (hp : path qs (w :: us) ms) (hp2 : path qs (w2 :: us2) ms2) (lm : ms.length ≤ 1000) (lm2 : ms2.length ≤ 1000) :
    IsWy K C H0 (tOp (rOwn C (spAddX K C CS)) t1 t2) ws qs w (us ++ us2) (ms ++ ms2) σ := fun H Q e q => h H _ e fun H1 x s1 hx => h2 H1 _ (e.trans s1) fun H2 y s2 hy => by
  subst e2
  obtain ⟨dx, v1, v2, v3, v4, v5, h0, _⟩ := id (hx.same s2).is
  obtain ⟨dy, u1, u2, u3, u4, u5, g0, _⟩ := id hy.is
  exact ⟨x, dx, _, y, dy, _, rfl, rfl, h0, g0, .inl ⟨x, y, ws, qs, w, us, us2, ms, ms2, rfl, hx.same s2, hy, G.g, hw, hp, hp2, G.w6, G.q6, lm, lm2, G.o1, G.o2, fun H' z s hz => ⟨⟨z, rfl⟩, q H' z ((s1.trans s2).trans s) hz⟩⟩⟩
theorem iw_neg (h : IsWy K C H0 t1 ws qs w us ms σ) (G : Gd ws qs) (hw : w ∈ ws) (hp : path qs (w :: us) ms) (lm : ms.length ≤ 1000) :
    IsWy K C H0 (tUn (rOwn1 C (spNeg K C)) t1) ws qs (us.getLastD w) ((w :: us).dropLast.reverse) (revR ms) σ := fun H Q e q => h H _ e fun H1 x s1 hx => by
  obtain ⟨dx, v1, v2, v3, v4, v5, h0, _⟩ := id hx.is
  exact ⟨x, dx, _, rfl, h0, x, ws, qs, w, us, ms, rfl, hx, G.g, hw, hp, G.w6, G.q6, lm, fun H' z s hz => q H' z (s1.trans s) hz⟩
theorem iw_mul {k : Nat} (h : IsWy K C H0 t1 ws qs w us ms σ) (h2 : IsC K [] H0 tk (.int (k : Nat)) σ) (G : Gd ws qs) (hw : w ∈ ws) (hp : path qs (w :: us) ms) (lm : ms.length ≤ 1000) (k9 : k ≤ 90) (hc : 1 < k → w = us.getLastD w) :
    IsWy K C H0 (tOp (rOwnI C (spMulX K C CS)) t1 tk) ws qs w (List.replicate k us).flatten (List.replicate k ms).flatten σ := fun H Q e q => h H _ e fun H1 x s1 hx => h2 H1 _ (e.trans s1) Trk.nil fun H2 y s2 hy => by
  rw [cutS_nil] at hy
  cases hy
  obtain ⟨dx, v1, v2, v3, v4, v5, h0, _⟩ := id (hx.same s2).is
  exact ⟨x, dx, _, (k : Nat), rfl, rfl, h0, .inl ⟨x, k, ws, qs, w, us, ms, rfl, hx.same s2, G.g, hw, hp, G.w6, G.q6, lm, k9, hc, fun H' z s hz => ⟨⟨z, rfl⟩, q H' z ((s1.trans s2).trans s) hz⟩⟩⟩
end
section
variable {K : PySem.W.Frag} {C : Addr} {H0 : Hp} {σ : L2.St} {te ta tb : TE} {ds es : List PyData} {d : PyData}
theorem ic_catA (h1 : IsC K [] H0 ta (.tuple ds) σ) (h2 : IsC K [] H0 tb (.tuple es) σ) (hl : ds.length + es.length ≤ 100000) : IsC K [] H0 (tOp (rCatA K) ta tb) (.tuple (ds ++ es)) σ := fun H Q e tr q => h1 H _ e tr fun H1 v s1 d1 => h2 H1 _ (e.trans s1) (tr.mono s1) fun H2 u s2 d2 => by
  rw [cutS_nil] at d1 d2
  obtain ⟨a, xs, rfl, ha, hx⟩ := Dp.seq_of (f := true) (s2.dp d1)
  obtain ⟨b, ys, rfl, hb, hy⟩ := Dp.seq_of (f := true) d2
  have lx := dpa_len hx
  have ly := dpa_len hy
  refine ⟨a, b, xs, ys, rfl, rfl, ha, hb, Nat.le_trans (show xs.length + ys.length ≤ 100000 by omega) (by decide), fun e => ?_, fun _ e => ?_, fun _ _ p hp => ?_⟩
  · subst e
    cases hx
    refine q H2 _ (s1.trans s2) ?_
    rw [cutS_nil]
    exact .tup hb hy
  · subst e
    cases hy
    refine q H2 _ (s1.trans s2) ?_
    rw [cutS_nil, List.append_nil]
    exact .tup ha hx
  · refine q _ _ ((s1.trans s2).trans (.upd hp)) ?_
    rw [cutS_nil]
    exact .tup (sqt_of upd_same) (dpa_app ((Same.upd hp).dpa hx) ((Same.upd hp).dpa hy))
theorem cut_1 {x : V} {xs : List V} : cutV (x :: xs) (some 1) none = xs := by
  unfold cutV
  have e : HT.sIx (x :: xs).length 0 (some 1) = 1 := by
    show (if (1 : Int) < 0 then ((1 : Int) + ((x :: xs).length : Int)).toNat else min (1 : Int).toNat (x :: xs).length) = 1
    rw [if_neg (by decide), List.length_cons]
    exact Nat.min_eq_left (by omega)
  rw [e, show HT.sIx (x :: xs).length (x :: xs).length none = (x :: xs).length from HT.sIx_none _ _, List.drop_one, List.tail_cons, List.length_cons, Nat.add_sub_cancel, List.take_length]
theorem ic_tailT (h : IsC K [] H0 te (.tuple (d :: es)) σ) : IsC K [] H0 (tSl (rSlA K) te (tPart (tC (.int 1))) tNoPart) (.tuple es) σ := fun H Q e tr q => h H _ e tr fun H1 v s1 d1 => by
  rw [cutS_nil] at d1
  obtain ⟨a, xs, rfl, ha, hx⟩ := Dp.seq_of (f := true) d1
  cases hx with
  | @cons x xs _ _ du hx =>
    refine ⟨1, rfl, a, _, rfl, ha, fun z => ?_, fun _ p hp => ?_⟩
    · have e : HT.sIx (x :: xs).length 0 (some 1) = 1 := by
        show (if (1 : Int) < 0 then ((1 : Int) + ((x :: xs).length : Int)).toNat else min (1 : Int).toNat (x :: xs).length) = 1
        rw [if_neg (by decide), List.length_cons]
        exact Nat.min_eq_left (by omega)
      have z1 := z.1
      rw [e] at z1
      cases z1
    · refine q _ _ (s1.trans (.upd hp)) ?_
      rw [cutS_nil, cut_1]
      exact .tup (sqt_of upd_same) ((Same.upd hp).dpa hx)
theorem ic_addV {i j : Int} (h1 : IsC K [] H0 ta (.int i) σ) (h2 : IsC K [] H0 tb (.int j) σ) : IsC K [] H0 (tOp (rI0 fun i j => .int (i + j)) ta tb) (.int (i + j)) σ := fun H Q e tr q => h1 H _ e tr fun H1 v s1 d1 => h2 H1 _ (e.trans s1) (tr.mono s1) fun H2 u s2 d2 => by
  cases d1
  cases d2
  exact ⟨_, _, rfl, rfl, q H2 _ (s1.trans s2) (.int _)⟩
theorem ic_mulI {i j : Int} (h1 : IsC K [] H0 ta (.int i) σ) (h2 : IsC K [] H0 tb (.int j) σ) (hi : -(2 ^ 64) < i ∧ i < 2 ^ 64) : IsC K [] H0 (tOp (rI CMul fun i j => .int (i * j)) ta tb) (.int (i * j)) σ := fun H Q e tr q => h1 H _ e tr fun H1 v s1 d1 => h2 H1 _ (e.trans s1) (tr.mono s1) fun H2 u s2 d2 => by
  cases d1
  cases d2
  exact ⟨_, _, rfl, rfl, .inl hi, q H2 _ (s1.trans s2) (.int _)⟩
theorem dpa_rep {H : Hp} {xs : List V} (h : DpAll K H xs ds) : ∀ k : Nat, DpAll K H (List.replicate k xs).flatten (List.replicate k ds).flatten
  | 0 => .nil
  | k + 1 => by
    rw [List.replicate_succ, List.replicate_succ (a := ds), List.flatten_cons, List.flatten_cons]
    exact dpa_app h (dpa_rep h k)
theorem ic_repT {k : Nat} (h1 : IsC K [] H0 ta (.tuple ds) σ) (h2 : IsC K [] H0 tb (.int (k : Nat)) σ) (hk : k ≤ 90) (hl : ds.length ≤ 1000) : IsC K [] H0 (tOp (rRepE K) ta tb) (.tuple (List.replicate k ds).flatten) σ := fun H Q e tr q => h1 H _ e tr fun H1 v s1 d1 => h2 H1 _ (e.trans s1) (tr.mono s1) fun H2 u s2 d2 => by
  rw [cutS_nil] at d1 d2
  cases d2
  obtain ⟨a, xs, rfl, ha, hx⟩ := Dp.seq_of (f := true) (s2.dp d1)
  have lx := dpa_len hx
  by_cases h0 : xs = []
  · subst h0
    cases hx
    refine .inr ⟨a, (k : Nat), rfl, rfl, ha, by omega, by omega, q H2 _ (s1.trans s2) ?_⟩
    rw [cutS_nil, List.flatten_replicate_nil]
    exact .tup ha .nil
  · refine .inl ⟨a, (k : Nat), xs, rfl, rfl, ha, h0, by omega, by omega, by omega, fun e1 => ?_, fun e0 p hp => ?_, fun e2 p hp => ?_⟩
    · obtain rfl : k = 1 := by omega
      refine q H2 _ (s1.trans s2) ?_
      rw [cutS_nil, List.replicate_one, List.flatten_cons, List.flatten_nil, List.append_nil]
      exact .tup ha hx
    · obtain rfl : k = 0 := by omega
      refine q _ _ ((s1.trans s2).trans (.upd hp)) ?_
      rw [cutS_nil]
      exact .tup (sqt_of upd_same) .nil
    · refine q _ _ ((s1.trans s2).trans (.upd hp)) ?_
      rw [cutS_nil, Int.toNat_natCast]
      exact .tup (sqt_of upd_same) (dpa_rep ((Same.upd hp).dpa hx) k)
end
/-! ### costs -/
def roomQ (qs : List QD) (m : Mk) : Int := match qs[m.1]? with
  | none => 0
  | some q => q.room
def gapQ (qs : List QD) (m : Mk) : Int := match qs[m.1]? with
  | none => 0
  | some q => q.gap
def wideQ (qs : List QD) (ms : List Mk) : Int := (ms.map fun m => roomQ qs m - gapQ qs m + 1).sum
theorem cost_app {qs : List QD} {a b : List Mk} : costQ qs (a ++ b) = costQ qs a + costQ qs b := by
  unfold costQ
  rw [List.map_append, List.sum_append]
theorem cost_rev {qs : List QD} : ∀ ms : List Mk, (∀ m ∈ ms, m.1 < qs.length) → costQ qs (revR ms) + costQ qs ms = wideQ qs ms
  | [], _ => rfl
  | m :: r, h => by
    have ih := cost_rev r fun x hx => h x (List.mem_cons_of_mem _ hx)
    have hm := h m List.mem_cons_self
    have e : revR (m :: r) = revR r ++ [fl m] := by
      unfold revR
      rw [List.map_cons, List.reverse_cons]
    have c1 : costQ qs (m :: r) = prQ qs m + costQ qs r := by
      unfold costQ
      rw [List.map_cons, List.sum_cons]
    have c2 : costQ qs [fl m] = prQ qs (fl m) := by
      unfold costQ
      rw [List.map_cons, List.sum_cons]
      show _ + 0 = _
      omega
    have c3 : wideQ qs (m :: r) = roomQ qs m - gapQ qs m + 1 + wideQ qs r := by
      unfold wideQ
      rw [List.map_cons, List.sum_cons]
    have c4 : prQ qs (fl m) + prQ qs m = roomQ qs m - gapQ qs m + 1 := by
      obtain ⟨i, b⟩ := m
      have hm : i < qs.length := hm
      unfold prQ roomQ gapQ fl
      dsimp only
      rw [List.getElem?_eq_getElem hm]
      cases b <;> simp <;> omega
    rw [e, cost_app, c2, c1, c3]
    omega
theorem cost_rep {qs : List QD} {ms : List Mk} : ∀ k : Nat, costQ qs (List.replicate k ms).flatten = (k : Nat) * costQ qs ms
  | 0 => by simp [costQ]
  | k + 1 => by
    rw [List.replicate_succ, List.flatten_cons, cost_app, cost_rep k]
    rw [show ((k + 1 : Nat) : Int) = (k : Int) + 1 from rfl, Int.add_mul, Int.one_mul]
    omega
theorem rev_rev {ms : List Mk} : revR (revR ms) = ms := by
  unfold revR
  rw [List.map_reverse, List.reverse_reverse, List.map_map]
  rw [show fl ∘ fl = id from funext fl_fl, List.map_id]
theorem rev_app {a b : List Mk} : revR (a ++ b) = revR b ++ revR a := by
  unfold revR
  rw [List.map_append, List.reverse_append]
theorem last_cat {w : Str} {us us2 : List Str} : (us ++ us2).getLastD w = us2.getLastD (us.getLastD w) := by
  cases us2 with
  | nil => rw [List.append_nil]; rfl
  | cons a b => rw [List.getLastD_eq_getLast?, List.getLastD_eq_getLast?, List.getLast?_append, List.getLast?_cons]; rfl
theorem back_last {w : Str} {us : List Str} : ((w :: us).dropLast.reverse).getLastD (us.getLastD w) = w := by
  cases us with
  | nil => rfl
  | cons a b =>
    rw [List.dropLast_cons₂, List.reverse_cons]
    exact List.getLastD_concat ..
theorem filter_one : ∀ {qs : List QD} {q : QD}, (qs.map QD.nm).Nodup → q ∈ qs → qs.filter (fun p => decide (p.nm = q.nm)) = [q]
  | [], q, _, h => absurd h List.not_mem_nil
  | p :: r, q, hn, h => by
    rw [List.map_cons, List.nodup_cons] at hn
    rcases List.mem_cons.mp h with rfl | h
    · rw [List.filter_cons_of_pos (p := fun p : QD => decide (p.nm = q.nm)) (decide_eq_true rfl)]
      rw [List.filter_eq_nil_iff.mpr fun x hx e => hn.1 (by rw [← of_decide_eq_true e]; exact List.mem_map_of_mem hx)]
    · rw [List.filter_cons_of_neg (p := fun p : QD => decide (p.nm = q.nm)) (fun e => hn.1 (by rw [of_decide_eq_true e]; exact List.mem_map_of_mem h))]
      exact filter_one hn.2 h
end Jl

set_option Elab.async false
set_option linter.all false
set_option maxRecDepth 100000
set_option maxHeartbeats 1000000
set_option pp.maxSteps 300
namespace Jl
open PySem PySem.Spec PyProof.Rows L2
open Evl (sz_of sz_lt)
local macro_rules | `(tactic| walk_at "at") => `(tactic| first | exact box0 | exact box1 | exact box2)
local macro_rules | `(tactic| walk_at "sq") => `(tactic| first | (show SqL _ _ _ _; assumption) | (show SqT _ _ _ _; assumption) | (show _ = some _; assumption))
local macro_rules | `(tactic| walk_at "side") => `(tactic| first
  | (show (0 : Int) < _; decide)
  | (show (0 : Int) < _; omega)
  | exact ⟨by decide, by decide, by decide⟩
  | exact sz_of (Nat.le_of_ble_eq_true rfl)
  | exact rfl
  | exact Or.inl (by decide)
  | exact Or.inr (by decide)
  | exact Or.inr ⟨by omega, by omega⟩
  | exact Or.inl ⟨by omega, by omega⟩
  | exact ⟨by decide, by decide +kernel⟩)
local macro_rules | `(tactic| walk_at "ev1") => `(tactic| first
  | refine ⟨_, rfl, ?_⟩
  | refine ⟨_, _, rfl, rfl, ?_⟩
  | refine ⟨_, _, _, _, rfl, rfl, (by walk_at "sq"), (by walk_at "at"), ?_⟩
  | refine ⟨_, _, rfl, (by walk_at "sq"), ?_⟩
  | refine ⟨_, _, rfl, Or.inl (by walk_at "sq"), ?_⟩
  | refine ⟨_, _, rfl, Or.inr (by walk_at "sq"), ?_⟩
  | refine Or.inl ⟨_, rfl, ?_⟩
  | refine Or.inr ⟨_, rfl, ?_⟩
  | refine ⟨(by walk_at "side"), ?_⟩
  | refine ⟨.inl ⟨rfl, _, (by walk_at "sq")⟩, ?_⟩
  | refine ⟨_, _, rfl, ?_⟩)
local macro_rules | `(tactic| walk_at "nrm") => `(tactic| dsimp only [tNil, tCons, tC, tCB])
local macro_rules | `(tactic| walk_at "ev") => `(tactic| repeat (walk_at "ev1"))
abbrev sc_w_turned_N : List Str := ["_law_trail", "_law_mark", "_law_sign"]
abbrev s_w_turned : Stmt := topS 21
theorem sc_w_turned : FnScope ["_law_trail", "_law_mark", "_law_sign"] ["_law_trail"] (defScope s_w_turned) := ⟨rfl, rfl, rfl, by decide +kernel, rfl, by decide +kernel, by decide +kernel⟩
/-- a comprehension over the pairs of a new tuple -/
theorem lc_pairFD {K : PySem.W.Frag} {tl te : TE} {tt : TT} {j1 j2 : Nat} {vs : List Nat} {σ : L2.St} {H : Hp} {Q : VK} {α : Type} (zs : List α) (f g h : α → PyData) (t : α → Bool)
    (ht : ∀ R' : VK, (∀ a H0 xs, Same H H0 → SqT K H0 a xs → DpAll K H0 xs (zs.map fun z => .tuple [f z, g z]) → R' (.ref a) H0) → tl σ H R') (hl : zs.length ≤ 4000000)
    (hw : ∀ x y, wipe (((wipe σ vs).set j1 (some x)).set j2 (some y)) vs = wipe σ vs)
    (hte : ∀ (x y : V) (z : α) (H1 : Hp), z ∈ zs → Same H H1 → Dp K H1 x (f z) → Dp K H1 y (g z) → ∀ Q' : Bool → Hp → Prop, Q' (t z) H1 → tt (((wipe σ vs).set j1 (some x)).set j2 (some y)) H1 Q')
    (he : ∀ (x y : V) (z : α) (H1 : Hp) (T : List Addr), z ∈ zs → t z = true → Same H H1 → Trk T H1 → Dp K H1 x (f z) → Dp K H1 y (g z) → ∀ Q' : VK, (∀ H2 u, Same H1 H2 → Dp K (cutS T H2) u (h z) → Q' u H2) → te (((wipe σ vs).set j1 (some x)).set j2 (some y)) H1 Q')
    (q : ∀ D ys H', Same H H' → H D = none → H' D = some (.lst ys) → DpAll K (cutS [D] H') ys ((zs.filter t).map h) → Q (.ref D) H') : tLcX (iSeq K tl) (gTup K 2 (gCons (gName j1) (gCons (gName j2) gNil))) tt te vs σ H Q := by
  refine lc_of (.inr (ht _ fun a H0 xs s hs ha => ⟨a, rfl, ⟨xs, hs⟩, fun D hD => ?_⟩))
  have ll := dpa_len ha
  rw [List.length_map] at ll
  refine lc_it (walk_tup (K := K) (a := a) (xs := xs)) (fun i H1 => ∃ ys, Same H0 H1 ∧ H1 D = some (.lst ys) ∧ DpAll K (cutS [D] H1) ys (((zs.take i).filter t).map h)) ⟨[], .upd hD, upd_same, .nil⟩ (fun i H1 _ p => ?_) (fun i x H1 H1' hi p y => ?_) (fun H1 p => ?_)
  · obtain ⟨ys, e1, _⟩ := p
    exact e1.sqT hs
  · obtain ⟨ys, e1, e2, e3⟩ := p
    obtain ⟨rfl, hx⟩ := y
    obtain ⟨d, hd, hxd⟩ := dpa_get ha hx
    rw [List.getElem?_map] at hd
    cases hz : zs[i]? with
    | none =>
      rw [hz] at hd
      cases hd
    | some z =>
      rw [hz] at hd
      cases hd
      have hzm := List.mem_of_getElem? hz
      have hxd1 := e1.dp hxd
      obtain ⟨tt0, xt, rfl, hts, hta⟩ := Dp.seq_of (f := true) hxd1
      cases hta with
      | cons k1 hta =>
        cases hta with
        | cons k2 hta =>
          cases hta
          refine ⟨tt0, _, rfl, hts, rfl, _, _, rfl, _, _, rfl, rfl, hw _ _, ?_⟩
          refine hte _ _ z H1' hzm (s.trans e1) k1 k2 _ ?_
          have yl : ys.length ≤ i := by
            rw [dpa_len e3, List.length_map]
            exact Nat.le_trans (List.length_filter_le _ _) (by rw [List.length_take]; omega)
          have ht2 : zs.take (i + 1) = zs.take i ++ [z] := by rw [List.take_add_one, hz]; rfl
          by_cases hg : t z = true
          · rw [if_pos hg]
            refine he _ _ z H1' [D] hzm hg (s.trans e1) (Trk.cons Trk.nil e2) k1 k2 _ fun H2 u s2 hy => ?_
            refine ⟨ys, s2 _ _ e2, szL (by omega), ys ++ [u], (e1.trans s2).mut hD, upd_same, ?_⟩
            rw [cutS_upd List.mem_cons_self, ht2, List.filter_append, List.filter_cons_of_pos hg, List.map_append]
            exact dpa_app ((cutS_mono s2).dpa e3) (dpa_one hy)
          · rw [if_neg hg]
            refine ⟨ys, e1, e2, ?_⟩
            rw [ht2, List.filter_append, List.filter_cons_of_neg hg, List.filter_nil, List.append_nil]
            exact e3
  · obtain ⟨ys, e1, e2, e3⟩ := p
    refine q D ys H1 (s.trans e1) (s.free hD) e2 ?_
    have e4 : zs.take xs.length = zs := List.take_of_length_le (by omega)
    rw [e4] at e3
    exact e3
theorem dpa_rev {K : PySem.W.Frag} {H : Hp} : ∀ {xs : List V} {ds : List PyData}, DpAll K H xs ds → DpAll K H xs.reverse ds.reverse
  | _, _, .nil => .nil
  | _, _, .cons a b => by
    rw [List.reverse_cons, List.reverse_cons]
    exact dpa_app (dpa_rev b) (dpa_one a)
section
variable {P : Program} {w : World} {K : PySem.W.Frag} {mg : Str → Option Value} {base : Heap}
def spTurned (K : PySem.W.Frag) : Sp := fun vs H Q _ => ∃ (v : V) (qs : List QD) (ms : List Mk), vs = [v] ∧ Dp K H v (stepsD qs ms) ∧ ms.length ≤ 1000 ∧ ∀ H' t, Same H H' → Dp K H' t (stepsD qs (revR ms)) → Q t H'
theorem ok_w_turned {f : Addr} {fd : FuncData} {k : Nat} (F : Fun K "_law_turned" "_law_turned" s_w_turned f fd) (m_tuple : mg "tuple" = none) : FnOk P w K mg base CX0 (k + 1) f fd ["_law_trail"] (spTurned K) := by
  refine F.ok sc_w_turned (fun vs H Q E h => ?_) (fun cdv A outer sS H vs Q E hr h => ?_)
  · obtain ⟨v, qs, ms, rfl, _⟩ := h
    rfl
  · obtain ⟨v, qs, ms, rfl, hD, hl, q⟩ := h
    refine ⟨_, (pss_one (ps_ret (pe_callTy call_tuple_of (by rfl) m_tuple (by decide +kernel) (pa_cons (pe_lcX (pe_lc (own := [("_law_mark", 1), ("_law_sign", 2)]) (g := gTup K 2 (gCons (gName 1) (gCons (gName 2) gNil))) (tt := tYes) (by rfl) sc_w_turned.nd (pi_seq (pe_revT (pv 0))) (blkOk_by (own := [("_law_mark", 1), ("_law_sign", 2)]) (N := sc_w_turned_N) (sc := defScope s_w_turned) (by decide +kernel)) (fun _ _ _ _ _ => pg_tup rfl (pgs_cons (pg_name (i := 1) sc_w_turned.nd rfl (Or.inl rfl)) (pgs_cons (pg_name (i := 2) sc_w_turned.nd rfl (Or.inl rfl)) pgs_nil))) (fun _ _ _ _ _ => pts_nil) (fun _ _ _ _ _ => (pe_tup (pa_cons (pv 1) (pa_cons (pe_ifExp (pt_cmpR op_eq (pv 2) pe_str (nomark _)) pe_str pe_str) pa_nil)))))) pa_nil)))), ?_⟩
    obtain ⟨a, xs, rfl, ha, hx⟩ := Dp.seq_of (f := true) (show Dp K H v (seqD true _) from hD)
    refine lc_pairFD (K := K) ms.reverse (fun m => .str (nmQ qs m)) (fun m => .str (if m.2 = true then alS else agS)) (fun m => stD qs (fl m)) (fun _ => true) (fun R' r => ?_) (by rw [List.length_reverse]; omega) (fun x y => rfl) (fun x y z H1 _ _ _ _ Q' q' => q') (fun x y z H1 T _ _ s1 tr hx1 hy1 Q' q' => ?_) (fun D ys H' s1 h0 h1 h2 => ?_)
    · refine ⟨_, rfl, a, xs, rfl, ha, fun p hp => r p _ _ (.upd hp) (sqt_of upd_same) ?_⟩
      have := dpa_rev ((Same.upd (o := .tup xs.reverse) hp).dpa hx)
      rw [← List.map_reverse] at this
      exact this
    · cases hx1
      cases hy1
      have fin : ∀ (y : Str), stD qs (fl z) = .tuple [.str (nmQ qs z), .str y] → ∀ p, H1 p = none → Q' (.ref p) (upd H1 p (.tup [.str (nmQ qs z), .str y])) := fun y e p hp => q' _ _ (.upd hp) (by
        rw [e]
        exact dp_tup tr hp (.cons (.str _) (.cons (.str _) .nil)))
      refine ⟨_, rfl, _, rfl, rfl, _, rfl, ?_⟩
      have key : ∀ b : Bool, decide ((if b = true then alS else agS) = Str.ofString "along") = b := fun b => by
        cases b
        · exact decide_eq_false al_ag.symm
        · exact decide_eq_true rfl
      rw [decS', key]
      obtain ⟨i, b⟩ := z
      cases b with
      | true => exact iteT ⟨by show 2 ≤ sizeLine; decide, fin _ rfl⟩
      | false => exact iteF ⟨by show 2 ≤ sizeLine; decide, fin _ rfl⟩
    · rw [List.filter_eq_self.mpr fun _ _ => rfl] at h2
      refine ⟨D, _, rfl, .inl ⟨sql_of h1, fun p hp => q _ _ (s1.trans (.upd hp)) ?_⟩⟩
      have e : (revR ms).map (stD qs) = ms.reverse.map fun m => stD qs (fl m) := by
        unfold revR
        rw [← List.map_reverse, List.map_map]
        rfl
      show Dp K _ _ (.tuple ((revR ms).map (stD qs)))
      rw [e]
      exact .tup (sqt_of upd_same) ((Same.upd hp).dpa (cutS_le.dpa h2))
end
end Jl

set_option Elab.async false
set_option linter.all false
set_option maxRecDepth 100000
set_option maxHeartbeats 1000000
set_option pp.maxSteps 300
namespace Jl
open PySem PySem.Spec PyProof.Rows L2
open Evl (sz_of sz_lt)
local macro_rules | `(tactic| walk_at "at") => `(tactic| first | exact box0 | exact box1 | exact box2)
local macro_rules | `(tactic| walk_at "sq") => `(tactic| first | (show SqL _ _ _ _; assumption) | (show SqT _ _ _ _; assumption) | (show _ = some _; assumption))
local macro_rules | `(tactic| walk_at "side") => `(tactic| first
  | (show (0 : Int) < _; decide)
  | (show (0 : Int) < _; omega)
  | exact ⟨by decide, by decide, by decide⟩
  | exact sz_of (Nat.le_of_ble_eq_true rfl)
  | exact rfl
  | exact Or.inl (by decide)
  | exact Or.inr (by decide)
  | exact Or.inr ⟨by omega, by omega⟩
  | exact Or.inl ⟨by omega, by omega⟩
  | exact ⟨by decide, by decide +kernel⟩)
local macro_rules | `(tactic| walk_at "ev1") => `(tactic| first
  | refine ⟨_, rfl, ?_⟩
  | refine ⟨_, _, rfl, rfl, ?_⟩
  | refine ⟨_, _, _, _, rfl, rfl, (by walk_at "sq"), (by walk_at "at"), ?_⟩
  | refine ⟨_, _, rfl, (by walk_at "sq"), ?_⟩
  | refine ⟨_, _, rfl, Or.inl (by walk_at "sq"), ?_⟩
  | refine ⟨_, _, rfl, Or.inr (by walk_at "sq"), ?_⟩
  | refine Or.inl ⟨_, rfl, ?_⟩
  | refine Or.inr ⟨_, rfl, ?_⟩
  | refine ⟨(by walk_at "side"), ?_⟩
  | refine ⟨.inl ⟨rfl, _, (by walk_at "sq")⟩, ?_⟩
  | refine ⟨_, _, rfl, ?_⟩)
local macro_rules | `(tactic| walk_at "nrm") => `(tactic| dsimp only [tNil, tCons, tC, tCB])
local macro_rules | `(tactic| walk_at "ev") => `(tactic| repeat (walk_at "ev1"))
abbrev sc_w_pair_right_N : List Str := ["_law_web_here", "_law_one", "_law_two", "_law_both", "_law_told", "_law_due", "_law_back", "_law_wide", "_law_mark", "_law_sign", "_law_loop", "_law_times_so", "_law_again", "_law_many_so", "_law_row"]
abbrev s_w_pair_right : Stmt := topS 22
theorem sc_w_pair_right : FnScope ["_law_web_here", "_law_one", "_law_two", "_law_both", "_law_told", "_law_due", "_law_back", "_law_wide", "_law_mark", "_law_sign", "_law_loop", "_law_times_so", "_law_again", "_law_many_so", "_law_row"] ["_law_web_here", "_law_one", "_law_two"] (defScope s_w_pair_right) := ⟨rfl, rfl, rfl, by decide +kernel, rfl, by decide +kernel, by decide +kernel⟩
theorem okD_steps {qs : List QD} {ms : List Mk} (h : ms.length ≤ 1000) : okD 4 (stepsD qs ms) := by
  refine (okD_seq (f := true)).mpr ⟨by rw [List.length_map]; omega, fun d hd => ?_⟩
  obtain ⟨m, _, rfl⟩ := List.mem_map.mp hd
  refine (okD_seq (f := true)).mpr ⟨by show 2 ≤ 4000000; decide, fun d hd => ?_⟩
  rcases List.mem_cons.mp hd with rfl | hd
  · exact trivial
  · rw [List.mem_singleton.mp hd]
    exact trivial
theorem okD_strs4 {xs : List Str} (h : xs.length ≤ 1000) : okD 4 (.tuple (xs.map PyData.str)) := by
  refine (okD_seq (f := true)).mpr ⟨by rw [List.length_map]; omega, fun d hd => ?_⟩
  obtain ⟨y, _, rfl⟩ := List.mem_map.mp hd
  exact trivial
theorem okD_two {a b : PyData} (h1 : okD 4 a) (h2 : okD 4 b) : okD 5 (.list [a, b]) := okD_few (by show 2 ≤ 1000; decide) fun d hd => by
  rcases List.mem_cons.mp hd with rfl | hd
  · exact h1
  · rw [List.mem_singleton.mp hd]
    exact h2
theorem eqF_self {ws : List Str} {qs : List QD} {w : Str} {ms : List Mk} (sh : SeqAt.shaped (netD true ws qs) = true) (sh3 : SeqAt.shaped (stepsD qs ms) = true) : eqF ws qs w ms ws qs w ms = true := by
  unfold eqF
  rw [eqv_of sh, eqv_of sh3, decide_eq_true rfl]
  rfl
theorem a2_intsM {α : Type} {f : α → Int} : ∀ {ys : List V} {zs : List α}, A2 (fun u z => u = V.int (f z)) ys zs → ys = (zs.map f).map V.int
  | _, _, .nil => rfl
  | _, _, .cons a b => by rw [a, a2_intsM b]; rfl
theorem ic_turned {K : PySem.W.Frag} {H0 : Hp} {σ : L2.St} {te : TE} {qs : List QD} {ms : List Mk} (h : IsC K [] H0 te (stepsD qs ms) σ) (hl : ms.length ≤ 1000) : IsC K [] H0 (tCall (spTurned K) [] E0 (tCons te tNil)) (stepsD qs (revR ms)) σ := fun H Q e tr q => h H _ e tr fun H1 v s1 d1 => by
  rw [cutS_nil] at d1
  exact ⟨v, qs, ms, rfl, d1, hl, fun H' t s ht => q H' t (s1.trans s) (by rw [cutS_nil]; exact ht)⟩
theorem wide_take {qs : List QD} {ms : List Mk} {i : Nat} {m : Mk} (h : ms[i]? = some m) : wideQ qs (ms.take (i + 1)) = wideQ qs (ms.take i) + (roomQ qs m - gapQ qs m + 1) := by
  unfold wideQ
  rw [List.take_add_one, h, List.map_append, List.sum_append]
  show _ + ((roomQ qs m - gapQ qs m + 1) + 0) = _
  omega
section
variable {P : Program} {w : World} {K : PySem.W.Frag} {mg : Str → Option Value} {base : Heap}
def spPair (K : PySem.W.Frag) (C : Addr) : Sp := fun vs H Q _ => ∃ (v : V) (x y : Addr) (ws : List Str) (qs : List QD) (w : Str) (us us2 : List Str) (ms ms2 : List Mk), vs = [v, .ref x, .ref y] ∧ Dp K H v (netD true ws qs) ∧ WayAt K C H x ws qs w us ms ∧ WayAt K C H y ws qs (us.getLastD w) us2 ms2 ∧ Gd ws qs ∧ w ∈ ws ∧ path qs (w :: us) ms ∧ path qs (us.getLastD w :: us2) ms2 ∧ ms.length ≤ 30 ∧ ms2.length ≤ 30 ∧ ∀ H', Same H H' → Q (.bl true) H'
theorem ok_w_pair_right {f fA fM fN fQ fS fW fC fL fE fT C CS : Addr} {fd fdA fdM fdN fdQ fdS fdW fdC fdL fdE fdT : FuncData} {k : Nat} (F : Fun K "_law_pair_right" "_law_pair_right" s_w_pair_right f fd) (T_Way : TWay K C) (O_Way : OWay K C) (I_Way : IWay K C)
    (GX_Way_add : FnOk P w K mg base (L2.CX P w) k fA fdA ["self", "other"] (spAddX K C CS)) (mt_Way_add : Meth K C "__add__" fA) (b_Way_add : Binds K fdA ["self", "other"] [])
    (GX_Way_mul : FnOk P w K mg base (L2.CX P w) k fM fdM ["self", "many"] (spMulX K C CS)) (mt_Way_mul : Meth K C "__mul__" fM) (b_Way_mul : Binds K fdM ["self", "many"] [])
    (G_Way_neg : FnOk P w K mg base CX0 k fN fdN ["self"] (spNeg K C)) (mt_Way_neg : Meth K C "__neg__" fN) (b_Way_neg : Binds K fdN ["self"] [])
    (G_Way_eq : FnOk P w K mg base CX0 k fQ fdQ ["self", "other"] (spEqA K C)) (mt_Way_eq : Meth K C "__eq__" fQ) (b_Way_eq : Binds K fdQ ["self", "other"] [])
    (G_Way_steps : FnOk P w K mg base CX0 k fS fdS ["self"] (spSteps K C)) (mt_Way_steps : Meth K C "steps" fS) (b_Way_steps : Binds K fdS ["self"] [])
    (G_Way_workers : FnOk P w K mg base CX0 k fW fdW ["self"] (spWorkers K C)) (mt_Way_workers : Meth K C "workers" fW) (b_Way_workers : Binds K fdW ["self"] [])
    (G_Way_cost : FnOk P w K mg base CX0 k fC fdC ["self"] (spCost K C)) (mt_Way_cost : Meth K C "cost" fC) (b_Way_cost : Binds K fdC ["self"] [])
    (G_Way_len : FnOk P w K mg base CX0 k fL fdL ["self"] (spLen K C)) (mt_Way_len : Meth K C "__len__" fL) (b_Way_len : Binds K fdL ["self"] [])
    (G_w_same : FnOk P w K mg base CX0 k fE fdE ["_law_got", "_law_due"] (spSame K 5)) (g_w_same : mg "_law_same" = some (.ref fE)) (F_w_same : Fun K "_law_same" "_law_same" s_w_same fE fdE) (b_w_same : Binds K fdE ["_law_got", "_law_due"] [])
    (G_w_turned : FnOk P w K mg base CX0 k fT fdT ["_law_trail"] (spTurned K)) (g_w_turned : mg "_law_turned" = some (.ref fT)) (F_w_turned : Fun K "_law_turned" "_law_turned" s_w_turned fT fdT) (b_w_turned : Binds K fdT ["_law_trail"] [])
    (m_len : mg "len" = none) (m_sum : mg "sum" = none) (m_range : mg "range" = none) : FnOk P w K mg base CX0 (k + 1 + 1) f fd ["_law_web_here", "_law_one", "_law_two"] (spPair K C) := by
  refine F.ok sc_w_pair_right (fun vs H Q E h => ?_) (fun cdv A outer sS H vs Q E hr2 h => ?_)
  · obtain ⟨v, x, y, ws, qs, w, us, us2, ms, ms2, rfl, _⟩ := h
    rfl
  · obtain ⟨v, x, y, ws, qs, w, us, us2, ms, ms2, rfl, hD, hx, hy, G, hw, hp, hp2, lm, lm2, q⟩ := h
    have hr := hr2.mono (Nat.le_succ k)
    refine ⟨_, (pss_cons (ps_set (i := 3) sc_w_pair_right.nd rfl (Or.inl rfl) (pe_op (op_own GX_Way_add hr (mt_add mt_Way_add) O_Way.sf b_Way_add passL) (pv 1) (pv 2))) 
    (pss_cons (ps_set (i := 4) sc_w_pair_right.nd rfl (Or.inl rfl) (pe_lst (pa_cons (pe_meth0 (pv 3) T_Way.cl mt_Way_steps G_Way_steps hr b_Way_steps .nil pass0) (pa_cons (pe_meth0 (pv 3) T_Way.cl mt_Way_workers G_Way_workers hr b_Way_workers .nil pass0) (pa_cons (pe_meth0 (pv 3) T_Way.cl mt_Way_cost G_Way_cost hr b_Way_cost .nil pass0) (pa_cons (pe_callB (call_lenI G_Way_len hr2 mt_Way_len b_Way_len pass0) (by rfl) m_len (by decide +kernel) (pa_cons (pv 3) pa_nil)) pa_nil)))))) 
    (pss_cons (ps_set (i := 5) sc_w_pair_right.nd rfl (Or.inl rfl) (pe_lst (pa_cons (pe_op op_catA (pe_meth0 (pv 1) T_Way.cl mt_Way_steps G_Way_steps hr b_Way_steps .nil pass0) (pe_meth0 (pv 2) T_Way.cl mt_Way_steps G_Way_steps hr b_Way_steps .nil pass0)) (pa_cons (pe_op op_catA (pe_meth0 (pv 1) T_Way.cl mt_Way_workers G_Way_workers hr b_Way_workers .nil pass0) (pe_slice sl_tupA (pe_meth0 (pv 2) T_Way.cl mt_Way_workers G_Way_workers hr b_Way_workers .nil pass0) (po_some pe_int) po_none)) (pa_cons (pe_op op_add (pe_meth0 (pv 1) T_Way.cl mt_Way_cost G_Way_cost hr b_Way_cost .nil pass0) (pe_meth0 (pv 2) T_Way.cl mt_Way_cost G_Way_cost hr b_Way_cost .nil pass0)) (pa_cons (pe_op op_add (pe_callB (call_lenI G_Way_len hr2 mt_Way_len b_Way_len pass0) (by rfl) m_len (by decide +kernel) (pa_cons (pv 1) pa_nil)) (pe_callB (call_lenI G_Way_len hr2 mt_Way_len b_Way_len pass0) (by rfl) m_len (by decide +kernel) (pa_cons (pv 2) pa_nil))) pa_nil)))))) 
    (pss_cons (ps_if (PW.pt (pw_or (pt_not (pt_val (pe_call G_w_same hr (by rfl) g_w_same F_w_same.kp b_w_same .nil pass0 (pa_cons (pv 4) (pa_cons (pv 5) pa_nil))))) (pw_or1 (pt_not (pt_val (pe_call G_w_same hr (by rfl) g_w_same F_w_same.kp b_w_same .nil pass0 (pa_cons (pe_lst (pa_cons (pe_cmpR (op_eqI G_Way_eq hr mt_Way_eq b_Way_eq pass0) (pe_un (un_own G_Way_neg hr mt_Way_neg b_Way_neg pass0) (pv 3)) (pe_op (op_own GX_Way_add hr (mt_add mt_Way_add) O_Way.sf b_Way_add passL) (pe_un (un_own G_Way_neg hr mt_Way_neg b_Way_neg pass0) (pv 2)) (pe_un (un_own G_Way_neg hr mt_Way_neg b_Way_neg pass0) (pv 1))) (nomark _)) (pa_cons (pe_cmpR (op_eqI G_Way_eq hr mt_Way_eq b_Way_eq pass0) (pe_un (un_own G_Way_neg hr mt_Way_neg b_Way_neg pass0) (pe_un (un_own G_Way_neg hr mt_Way_neg b_Way_neg pass0) (pv 1))) (pv 1) (nomark _)) pa_nil))) (pa_cons (pe_lst (pa_cons pe_bl (pa_cons pe_bl pa_nil))) pa_nil)))))))) (pss_one (ps_ret pe_bl)) pss_nil) 
    (pss_cons (ps_set (i := 6) sc_w_pair_right.nd rfl (Or.inl rfl) (pe_un (un_own G_Way_neg hr mt_Way_neg b_Way_neg pass0) (pv 1))) 
    (pss_cons (ps_set (i := 7) sc_w_pair_right.nd rfl (Or.inl rfl) pe_int) 
    (pss_cons (ps_forX (ps_for PassesOwn.never rfl (pi_tup (pe_meth0 (pv 1) T_Way.cl mt_Way_steps G_Way_steps hr b_Way_steps .nil pass0)) (pg_tup rfl (pgs_cons (pg_name (i := 8) sc_w_pair_right.nd rfl (Or.inr rfl)) (pgs_cons (pg_name (i := 9) sc_w_pair_right.nd rfl (Or.inl rfl)) pgs_nil))) (pss_one (ps_set (i := 7) sc_w_pair_right.nd rfl (Or.inl rfl) (pe_op op_add (pv 7) (pe_callB (cr_sum rfl) (by rfl) m_sum (by decide +kernel) (pa_cons (pe_lcX (pe_lc (own := [("_law_row", 14)]) (g := gName 14) (tt := (tTest (tOp rEq (tOp (rIxF K) (tVar 14) (tC (.int 0))) (tVar 8)))) (te := (tOp (rI0 fun i j => .int (i + j)) (tOp (rI0 fun i j => .int (i - j)) (tOp (rIxF K) (tVar 14) (tC (.int 3))) (tOp (rIxF K) (tVar 14) (tC (.int 4)))) (tC (.int 1)))) (by rfl) sc_w_pair_right.nd (pi_seq (pe_ix ix_lt (pv 0) pe_int (fun _ _ => rfl))) (blkOk_by (own := [("_law_row", 14)]) (N := sc_w_pair_right_N) (sc := defScope s_w_pair_right) (by decide +kernel)) (fun _ _ _ _ _ => pg_name (i := 14) sc_w_pair_right.nd rfl (Or.inl rfl)) (fun _ _ _ _ _ => (pts_one (pt_cmpR op_eq (pe_ix ix_lt (pv 14) pe_int (fun _ _ => rfl)) (pv 8) (nomark _)))) (fun _ _ _ _ _ => (pe_op op_add (pe_op op_sub (pe_ix ix_lt (pv 14) pe_int (fun _ _ => rfl)) (pe_ix ix_lt (pv 14) pe_int (fun _ _ => rfl))) pe_int)))) pa_nil))))))) 
    (pss_cons (ps_if (pt_not (pt_val (pe_call G_w_same hr (by rfl) g_w_same F_w_same.kp b_w_same .nil pass0 (pa_cons (pe_lst (pa_cons (pe_meth0 (pv 6) T_Way.cl mt_Way_steps G_Way_steps hr b_Way_steps .nil pass0) (pa_cons (pe_op op_add (pe_meth0 (pv 6) T_Way.cl mt_Way_cost G_Way_cost hr b_Way_cost .nil pass0) (pe_meth0 (pv 1) T_Way.cl mt_Way_cost G_Way_cost hr b_Way_cost .nil pass0)) pa_nil))) (pa_cons (pe_lst (pa_cons (pe_call G_w_turned hr (by rfl) g_w_turned F_w_turned.kp b_w_turned .nil pass0 (pa_cons (pe_meth0 (pv 1) T_Way.cl mt_Way_steps G_Way_steps hr b_Way_steps .nil pass0) pa_nil)) (pa_cons (pv 7) pa_nil))) pa_nil))))) (pss_one (ps_ret pe_bl)) pss_nil) 
    (pss_cons (ps_set (i := 10) sc_w_pair_right.nd rfl (Or.inl rfl) (pe_op (op_own GX_Way_add hr (mt_add mt_Way_add) O_Way.sf b_Way_add passL) (pv 1) (pv 6))) 
    (pss_cons (ps_forX (ps_for PassesOwn.never rfl (pi_range1 (by rfl) m_range (pa_cons pe_int pa_nil)) (pg_name (i := 11) sc_w_pair_right.nd rfl (Or.inl rfl)) 
      (pss_cons (ps_set (i := 13) sc_w_pair_right.nd rfl (Or.inl rfl) (pe_op (op_ownI GX_Way_mul hr (mt_mul mt_Way_mul) O_Way.sf O_Way.rm O_Way.im.choose_spec O_Way.ir.choose_spec O_Way.ns b_Way_mul passL) (pv 10) (pv 11))) 
      (pss_one (ps_if (pt_not (pt_val (pe_call G_w_same hr (by rfl) g_w_same F_w_same.kp b_w_same .nil pass0 (pa_cons (pe_lst (pa_cons (pe_meth0 (pv 13) T_Way.cl mt_Way_cost G_Way_cost hr b_Way_cost .nil pass0) (pa_cons (pe_meth0 (pv 13) T_Way.cl mt_Way_steps G_Way_steps hr b_Way_steps .nil pass0) pa_nil))) (pa_cons (pe_lst (pa_cons (pe_op op_mul (pv 11) (pv 7)) (pa_cons (pe_op op_repE (pe_meth0 (pv 10) T_Way.cl mt_Way_steps G_Way_steps hr b_Way_steps .nil pass0) (pv 11)) pa_nil))) pa_nil))))) (pss_one (ps_ret pe_bl)) pss_nil))))) 
    (pss_cons (ps_set (i := 12) sc_w_pair_right.nd rfl (Or.inl rfl) (pv 10)) 
    (pss_cons (ps_aug (i := 12) sc_w_pair_right.nd rfl (Or.inl rfl) pe_int (iop_ownI GX_Way_mul hr (mt_mul mt_Way_mul) O_Way.sf I_Way (.inr rfl) O_Way.rm O_Way.im.choose_spec O_Way.ir.choose_spec O_Way.ns b_Way_mul passL)) 
    (pss_one (ps_ret (pe_call G_w_same hr (by rfl) g_w_same F_w_same.kp b_w_same .nil pass0 (pa_cons (pe_lst (pa_cons (pe_cmpR (op_eqI G_Way_eq hr mt_Way_eq b_Way_eq pass0) (pv 12) (pe_op (op_own GX_Way_add hr (mt_add mt_Way_add) O_Way.sf b_Way_add passL) (pe_op (op_own GX_Way_add hr (mt_add mt_Way_add) O_Way.sf b_Way_add passL) (pv 10) (pv 10)) (pv 10)) (nomark _)) (pa_cons (pe_meth0 (pv 10) T_Way.cl mt_Way_cost G_Way_cost hr b_Way_cost .nil pass0) (pa_cons (pe_callB (call_lenI G_Way_len hr2 mt_Way_len b_Way_len pass0) (by rfl) m_len (by decide +kernel) (pa_cons (pv 10) pa_nil)) pa_nil)))) (pa_cons (pe_lst (pa_cons pe_bl (pa_cons (pv 7) (pa_cons (pe_op op_mul pe_int (pe_callB (call_lenI G_Way_len hr2 mt_Way_len b_Way_len pass0) (by rfl) m_len (by decide +kernel) (pa_cons (pv 1) pa_nil))) pa_nil)))) pa_nil))))))))))))))))), ?_⟩
    rw [show L2.start (["_law_web_here", "_law_one", "_law_two", "_law_both", "_law_told", "_law_due", "_law_back", "_law_wide", "_law_mark", "_law_sign", "_law_loop", "_law_times_so", "_law_again", "_law_many_so", "_law_row"] : List Str) [v, .ref x, .ref y] = [some v, some (.ref x), some (.ref y), none, none, none, none, none, none, none, none, none, none, none, none] from rfl]
    have hpb := path_cat hp hp2
    have sh := G.sh
    have hmid := last_mem G.g hw hp
    have hend := last_mem G.g hmid hp2
    have lu := path_len hp
    have lu2 := path_len hp2
    rw [List.length_cons] at lu lu2
    have lb : (ms ++ ms2).length ≤ 60 := by rw [List.length_append]; omega
    have shN : ∀ {us : List Str} {ms : List Mk}, path qs us ms → SeqAt.shaped (stepsD qs ms) = true := fun h => steps_shaped (nm_in G.o2 h)
    -- both
    refine asg_wy (iw_add (iw_var rfl hx) (iw_var rfl hy) rfl G hw hp hp2 (by omega) (by omega)) fun H1 b s1 hb => ?_
    try dsimp only [List.set]
    have hx1 := hx.same s1
    have hy1 := hy.same s1
    refine asg_ic (K := K) (d := .list [stepsD qs (ms ++ ms2), .tuple ((w :: (us ++ us2)).map PyData.str), .int (costQ qs (ms ++ ms2)), .int ((ms ++ ms2).length : Nat)]) (ic_lst (ac_cons (iw_steps (iw_var rfl hb)) (ac_cons (iw_workers (iw_var rfl hb)) (ac_cons (iw_cost (iw_var rfl hb)) (ac_cons (ic_lenW rfl hb (by omega)) ac_nil)))) (by show 4 ≤ 1000; decide)) fun H2 told s2 ht => ?_
    try dsimp only [List.set]
    have hx2 := hx1.same s2
    have hy2 := hy1.same s2
    have eD : PyData.list [stepsD qs (ms ++ ms2), .tuple ((w :: (us ++ us2)).map PyData.str), .int (costQ qs (ms ++ ms2)), .int ((ms ++ ms2).length : Nat)] = .list [.tuple (ms.map (stD qs) ++ ms2.map (stD qs)), .tuple ((w :: us).map PyData.str ++ us2.map PyData.str), .int (costQ qs ms + costQ qs ms2), .int ((ms.length : Nat) + (ms2.length : Nat))] := by
      unfold stepsD
      rw [List.map_append, cost_app, List.length_append, List.map_cons, List.map_append, List.map_cons]
      rfl
    refine asg_ic (K := K) (d := .list [stepsD qs (ms ++ ms2), .tuple ((w :: (us ++ us2)).map PyData.str), .int (costQ qs (ms ++ ms2)), .int ((ms ++ ms2).length : Nat)]) (by
      rw [eD]
      exact ic_lst (ac_cons (ic_catA (iw_steps (iw_var rfl hx2)) (iw_steps (iw_var rfl hy2)) (by rw [List.length_map, List.length_map]; omega)) (ac_cons (ic_catA (iw_workers (iw_var rfl hx2)) (ic_tailT (iw_workers (iw_var rfl hy2))) (by rw [List.length_map, List.length_map, List.length_cons]; omega)) (ac_cons (ic_addV (iw_cost (iw_var rfl hx2)) (iw_cost (iw_var rfl hy2))) (ac_cons (ic_addV (ic_lenW rfl hx2 (by omega)) (ic_lenW rfl hy2 (by omega))) ac_nil)))) (by show 4 ≤ 1000; decide)) fun H3 due s3 hdue => ?_
    try dsimp only [List.set]
    have hx3 := hx2.same s3
    have hy3 := hy2.same s3
    have hb3 := (hb.same s2).same s3
    have t3 := (s1.trans s2).trans s3
    have ok4 : okD 5 (.list [stepsD qs (ms ++ ms2), .tuple ((w :: (us ++ us2)).map PyData.str), .int (costQ qs (ms ++ ms2)), .int ((ms ++ ms2).length : Nat)]) := okD_few (by show 4 ≤ 1000; decide) fun d hd => by
      simp only [List.mem_cons, List.not_mem_nil, or_false] at hd
      rcases hd with rfl | rfl | rfl | rfl
      · exact okD_steps (by omega)
      · exact okD_strs4 (by rw [List.length_cons, List.length_append]; omega)
      · exact trivial
      · exact trivial
    refine same_ac (K := K) (ac_cons (ic_var rfl (by rw [cutS_nil]; exact s3.dp ht)) (ac_cons (ic_var rfl (by rw [cutS_nil]; exact hdue)) ac_nil)) ok4 fun H4 s4 => ⟨_, rfl, iteF ?_⟩
    have hx4 := hx3.same s4
    have hy4 := hy3.same s4
    have hb4 := hb3.same s4
    have eT1 : eqF ws qs ((us ++ us2).getLastD w) (revR (ms ++ ms2)) ws qs (us2.getLastD (us.getLastD w)) (revR ms2 ++ revR ms) = true := by
      rw [last_cat, rev_app]
      exact eqF_self sh (by rw [← rev_app]; exact shN (path_back hpb))
    have eT2 : eqF ws qs (((w :: us).dropLast.reverse).getLastD (us.getLastD w)) (revR (revR ms)) ws qs w ms = true := by
      rw [back_last, rev_rev]
      exact eqF_self sh (shN hp)
    refine same_ac (K := K) (d := .list [.bool true, .bool true]) (ac_cons (ic_lst (ac_cons (by
      rw [← eT1]
      exact iw_eq (iw_neg (iw_var rfl hb4) G hw hpb (by omega)) (iw_add (iw_neg (iw_var rfl hy4) G hmid hp2 (by omega)) (iw_neg (iw_var rfl hx4) G hw hp (by omega)) back_last.symm G hend (path_back hp2) (path_back hp) (by rw [revR_len]; omega) (by rw [revR_len]; omega)) sh sh (shN (path_back hpb)) (by rw [← rev_app]; exact shN (path_back hpb))) (ac_cons (by
      rw [← eT2]
      exact iw_eq (iw_neg (iw_neg (iw_var rfl hx4) G hw hp (by omega)) G hmid (path_back hp) (by rw [revR_len]; omega)) (iw_var rfl hx4) sh sh (by rw [rev_rev]; exact shN hp) (shN hp)) ac_nil)) (by show 2 ≤ 1000; decide)) (ac_cons (ic_lst (ac_cons ic_bl (ac_cons ic_bl ac_nil)) (by show 2 ≤ 1000; decide)) ac_nil)) (okD_two trivial trivial) fun H5 s5 => ⟨_, rfl, iteF ?_⟩
    try dsimp only [tNext]
    have hx5 := hx4.same s5
    have t5 := (t3.trans s4).trans s5
    -- back
    refine asg_wy (iw_neg (iw_var rfl hx5) G hw hp (by omega)) fun H6 bk s6 hbk => ?_
    try dsimp only [List.set]
    have hx6 := hx5.same s6
    have t6 := t5.trans s6
    refine asg_of ?_
    dsimp only [tC, List.set]
    refine for_of ?_
    refine (iw_steps (K := K) (iw_var rfl hx6)) H6 _ (fun _ _ e => e) Trk.nil fun H7 v7 s7 d7 => ?_
    rw [cutS_nil] at d7
    obtain ⟨ta, xt, rfl, hta, hxt⟩ := Dp.seq_of (f := true) (show Dp K H7 v7 (seqD true _) from d7)
    have lxt := dpa_len hxt
    rw [List.length_map] at lxt
    have hD7 := (t6.trans s7).dp hD
    obtain ⟨a0, a1, a2, xq, rfl, N7⟩ := netAt hD7
    have i1 : atI [V.ref a1, V.ref a2] 1 = some (.ref a2) := atI_nat (j := 1) rfl
    refine ⟨ta, rfl, ⟨xt, hta⟩, ?_⟩
    refine forR_it (walk_tup (K := K) (a := ta) (xs := xt)) (fun i σ Hc => ∃ (x8 x9 : Option V), σ = [some (.ref a0), some (.ref x), some (.ref y), some (.ref b), some told, some due, some (.ref bk), some (.int (wideQ qs (ms.take i))), x8, x9, none, none, none, none, none] ∧ Same H7 Hc) ⟨_, _, rfl, fun _ _ e => e⟩ (fun i σ Hc _ hh => ?_) (fun i u σ Hc Hc' hi hh yy => ?_) (fun σ Hc hh => ?_)
    · obtain ⟨_, _, _, e⟩ := hh
      exact e.sqT hta
    · obtain ⟨x8, x9, rfl, sc⟩ := hh
      obtain ⟨rfl, hu⟩ := yy
      obtain ⟨d, hd, hud⟩ := dpa_get hxt hu
      rw [List.getElem?_map] at hd
      cases hm : ms[i]? with
      | none =>
        rw [hm] at hd
        cases hd
      | some m =>
        rw [hm] at hd
        cases hd
        have hmm := List.mem_of_getElem? hm
        have hlt := path_lt hp m hmm
        have hq := List.getElem?_eq_getElem hlt
        obtain ⟨tt0, xt0, rfl, hts, hta0⟩ := Dp.seq_of (f := true) (show Dp K Hc' u (seqD true [.str (nmQ qs m), .str (if m.2 = true then alS else agS)]) from sc.dp hud)
        have e0 : xt0 = [.str (nmQ qs m), .str (if m.2 = true then alS else agS)] := by
          cases hta0 with
          | cons k1 hta0 =>
          cases hta0 with
          | cons k2 hta0 =>
          cases hta0
          cases k1
          cases k2
          rfl
        subst e0
        refine ⟨tt0, _, rfl, hts, rfl, _, _, rfl, _, _, rfl, rfl, ?_⟩
        try dsimp only [List.set]
        have Nc := N7.same sc
        refine ⟨_, rfl, ?_⟩
        refine lcs (K := K) (fb := true) qs (fun z q => Dp K Hc' z (q.d true)) (fun _ u q => u = V.int (q.room - q.gap + 1)) (fun q => decide (q.nm = nmQ qs m)) (fun R' r => ⟨_, rfl, rIxF_at Nc.h0 i1 r⟩) Nc.h2 (fun k z q g1 g2 => ?_) Nc.ll (by have := G.q6; omega) (fun _ _ _ _ _ h => h) (fun z => rfl) (fun z q H3 hz e3 hzd Q' q' => ?_) (fun z q H3 T hz _ e1 e2 tr hzd hT Q' q' => ?_) (fun D ys H3 s3' hD0 hD1 hA => ?_)
        · obtain ⟨d, hd, h3⟩ := dpa_get (net_all Nc) g1
          rw [List.getElem?_map, g2] at hd
          cases hd
          exact h3
        · obtain ⟨aq, rfl, hs⟩ := dp_q hzd
          have hs3 : SqT K H3 aq _ := e3.sqF hs
          refine ⟨_, rfl, rIxF_at (f := true) hs3 (atI_nat (j := 0) rfl) ⟨_, rfl, rfl, _, rfl, ?_⟩⟩
          rw [decS']
          exact q' H3 fun _ _ e => e
        · obtain ⟨aq, rfl, hs⟩ := dp_q hzd
          have hs3 : SqT K H3 aq _ := e1.sqF hs
          exact ⟨_, rfl, rIxF_at (f := true) hs3 (atI_nat (j := 3) rfl) ⟨_, rfl, rIxF_at (f := true) hs3 (atI_nat (j := 4) rfl) ⟨_, _, rfl, rfl, ⟨_, _, rfl, rfl, q' H3 _ (fun _ _ e => e) rfl⟩⟩⟩⟩
        · have ea := a2_intsM hA
          subst ea
          refine ⟨D, _, rfl, sql_of hD1, _, _, rfl, rfl, ?_⟩
          have e1 : (qs.filter fun q => decide (q.nm = nmQ qs m)) = [qs[m.1]] := by
            have e2 : nmQ qs m = qs[m.1].nm := by
              unfold nmQ
              rw [hq]
            rw [e2]
            exact filter_one G.g.nn (List.getElem_mem hlt)
          have e3 : roomQ qs m - gapQ qs m + 1 = qs[m.1].room - qs[m.1].gap + 1 := by
            unfold roomQ gapQ
            rw [hq]
          have ev : wideQ qs (ms.take i) + ((qs.filter fun q => decide (q.nm = nmQ qs m)).map fun q => q.room - q.gap + 1).sum = wideQ qs (ms.take (i + 1)) := by
            rw [wide_take hm, e1, e3]
            show _ + ((qs[m.1].room - qs[m.1].gap + 1) + 0) = _
            rw [Int.add_zero]
          rw [← ev]
          exact ⟨some (.str (nmQ qs m)), some (.str (if m.2 = true then alS else agS)), rfl, sc.trans s3'⟩
    · obtain ⟨x8, x9, rfl, sc⟩ := hh
      rw [lxt, List.take_length]
      dsimp only
      have hx8 := (hx6.same s7).same sc
      have hbk8 := (hbk.same s7).same sc
      have t8 := (t6.trans s7).trans sc
      have wid := cost_rev ms (path_lt hp)
      have lr : (revR ms).length = ms.length := revR_len
      refine same_ac (K := K) (d := .list [stepsD qs (revR ms), .int (wideQ qs ms)]) (ac_cons (by
        rw [← wid]
        exact ic_lst (ac_cons (iw_steps (iw_var rfl hbk8)) (ac_cons (ic_addV (iw_cost (iw_var rfl hbk8)) (iw_cost (iw_var rfl hx8))) ac_nil)) (by show 2 ≤ 1000; decide)) (ac_cons (ic_lst (ac_cons (ic_turned (iw_steps (iw_var rfl hx8)) (by omega)) (ac_cons (ic_var rfl (.int _)) ac_nil)) (by show 2 ≤ 1000; decide)) ac_nil)) (okD_two (okD_steps (by omega)) trivial) fun H9 s9 => ⟨_, rfl, iteF ?_⟩
      try dsimp only [tNext]
      have hx9 := hx8.same s9
      have hbk9 := hbk8.same s9
      -- the loop
      refine asg_wy (iw_add (iw_var rfl hx9) (iw_var rfl hbk9) rfl G hw hp (path_back hp) (by omega) (by omega)) fun H10 lo s10 hlo => ?_
      try dsimp only [List.set]
      have t10 := (t8.trans s9).trans s10
      have hx10 := hx9.same s10
      have hpl := path_cat hp (path_back hp)
      have closed : w = (us ++ (w :: us).dropLast.reverse).getLastD w := by rw [last_cat, back_last]
      have cl : costQ qs (ms ++ revR ms) = wideQ qs ms := by rw [cost_app]; omega
      have ll : (ms ++ revR ms).length ≤ 60 := by rw [List.length_append]; omega
      refine for_of ?_
      refine ⟨4, rfl, by decide, by decide, ?_⟩
      refine forR_it (walk_range (lo := 0) (n := 4)) (fun i σ Hc => ∃ (x11 x13 : Option V), σ = [some (.ref a0), some (.ref x), some (.ref y), some (.ref b), some told, some due, some (.ref bk), some (.int (wideQ qs ms)), x8, x9, some (.ref lo), x11, none, x13, none] ∧ Same H10 Hc) ⟨_, _, rfl, fun _ _ e => e⟩ (fun _ _ _ _ _ => trivial) (fun i u σ Hc Hc' hi hh yy => ?_) (fun σ Hc hh => ?_)
      · obtain ⟨x11, x13, rfl, sc2⟩ := hh
        obtain ⟨rfl, hv⟩ := yy
        have hv : u = .int (0 + (i : Int)) := hv
        rw [Int.zero_add] at hv
        subst hv
        have hlo2 := hlo.same sc2
        try dsimp only [List.set]
        have fl3 : (List.replicate i (ms ++ revR ms)).flatten.length ≤ 1000 := by
          rw [PyProof.Rows.lm_len_rep_flat]
          have a1 : i * (ms ++ revR ms).length ≤ 4 * 60 := Nat.mul_le_mul (by omega) ll
          omega
        refine asg_wy (iw_mul (k := i) (iw_var rfl hlo2) (ic_var rfl (.int _)) G hw hpl (by omega) (by omega) fun _ => closed) fun H11 mn s11 hmn => ?_
        try dsimp only [List.set]
        have hlo3 := hlo2.same s11
        have eR : stepsD qs (List.replicate i (ms ++ revR ms)).flatten = .tuple (List.replicate i ((ms ++ revR ms).map (stD qs))).flatten := by
          unfold stepsD
          rw [List.map_flatten, List.map_replicate]
        refine same_ac (K := K) (d := .list [.int ((i : Nat) * wideQ qs ms), stepsD qs (List.replicate i (ms ++ revR ms)).flatten]) (ac_cons (by
          rw [← cl, ← cost_rep i]
          exact ic_lst (ac_cons (iw_cost (iw_var rfl hmn)) (ac_cons (iw_steps (iw_var rfl hmn)) ac_nil)) (by show 2 ≤ 1000; decide)) (ac_cons (by
          rw [eR]
          exact ic_lst (ac_cons (ic_mulI (ic_var rfl (.int _)) (ic_var rfl (.int _)) ⟨by omega, by omega⟩) (ac_cons (ic_repT (iw_steps (iw_var rfl hlo3)) (ic_var rfl (.int _)) (by omega) (by rw [List.length_map]; omega)) ac_nil)) (by show 2 ≤ 1000; decide)) ac_nil)) (okD_two trivial (okD_steps fl3)) fun H12 s12 => ⟨_, rfl, iteF ?_⟩
        exact ⟨_, _, rfl, sc2.trans (s11.trans s12)⟩
      · obtain ⟨x11, x13, rfl, sc2⟩ := hh
        have hlo2 := hlo.same sc2
        have hx11 := hx10.same sc2
        dsimp only
        refine asg_of ?_
        refine ⟨_, rfl, ?_⟩
        try dsimp only [List.set]
        obtain ⟨dx, v1, v2, v3, v4, v5, h0, _⟩ := id hlo2.is
        refine ⟨_, rfl, lo, dx, _, ((3 : Nat) : Int), rfl, rfl, h0, .inl ⟨lo, 3, ws, qs, w, _, _, rfl, hlo2, G.g, hw, hpl, G.w6, G.q6, by omega, by decide, fun _ => closed, fun H11 ag s11 hag => ⟨⟨ag, rfl⟩, ?_⟩⟩⟩
        try dsimp only [List.set]
        have hlo3 := hlo2.same s11
        have hx12 := hx11.same s11
        have e3 : (List.replicate 3 (ms ++ revR ms)).flatten = (ms ++ revR ms) ++ (ms ++ revR ms) ++ (ms ++ revR ms) := by
          simp only [List.replicate_succ, List.replicate_zero, List.flatten_cons, List.flatten_nil, List.append_nil, List.append_assoc]
        have hp2l : path qs (w :: ((us ++ (w :: us).dropLast.reverse) ++ (us ++ (w :: us).dropLast.reverse))) ((ms ++ revR ms) ++ (ms ++ revR ms)) := path_cat hpl (by rw [← closed]; exact hpl)
        have c2 : w = ((us ++ (w :: us).dropLast.reverse) ++ (us ++ (w :: us).dropLast.reverse)).getLastD w := by rw [last_cat, ← closed, ← closed]
        have hp3l := path_cat (us2 := us ++ (w :: us).dropLast.reverse) (ms2 := ms ++ revR ms) hp2l (by rw [← c2]; exact hpl)
        have eT3 : eqF ws qs w (List.replicate 3 (ms ++ revR ms)).flatten ws qs w ((ms ++ revR ms) ++ (ms ++ revR ms) ++ (ms ++ revR ms)) = true := by
          rw [e3]
          exact eqF_self sh (shN hp3l)
        have el : ((ms ++ revR ms).length : Int) = 2 * (ms.length : Nat) := by
          rw [List.length_append, lr]
          omega
        refine same_ac (K := K) (d := .list [.bool true, .int (wideQ qs ms), .int (2 * (ms.length : Nat))]) (ac_cons (by
          rw [← eT3, ← cl, ← el]
          exact ic_lst (ac_cons (iw_eq (iw_var rfl hag) (iw_add (iw_add (iw_var rfl hlo3) (iw_var rfl hlo3) closed G hw hpl hpl (by omega) (by omega)) (iw_var rfl hlo3) c2 G hw hp2l hpl (by rw [List.length_append]; omega) (by omega)) sh sh (by rw [e3]; exact shN hp3l) (shN hp3l)) (ac_cons (iw_cost (iw_var rfl hlo3)) (ac_cons (ic_lenW rfl hlo3 (by omega)) ac_nil))) (by show 3 ≤ 1000; decide)) (ac_cons (ic_lst (ac_cons ic_bl (ac_cons (ic_var rfl (.int _)) (ac_cons (ic_mulI ic_int (ic_lenW rfl hx12 (by omega)) ⟨by decide, by decide⟩) ac_nil))) (by show 3 ≤ 1000; decide)) ac_nil)) (okD_few (by show 3 ≤ 1000; decide) fun d hd => ?_) fun H12 s12 => ?_
        · simp only [List.mem_cons, List.not_mem_nil, or_false] at hd
          rcases hd with rfl | rfl | rfl <;> exact trivial
        · exact q H12 ((((t10.trans sc2).trans s11).trans s12))
end
end Jl

set_option Elab.async false
set_option linter.all false
set_option maxRecDepth 100000
set_option maxHeartbeats 1000000
set_option pp.maxSteps 300
namespace Jl
open PySem PySem.Spec PyProof.Rows L2
open Evl (sz_of sz_lt)
local macro_rules | `(tactic| walk_at "at") => `(tactic| first | exact box0 | exact box1 | exact box2)
local macro_rules | `(tactic| walk_at "sq") => `(tactic| first | (show SqL _ _ _ _; assumption) | (show SqT _ _ _ _; assumption) | (show _ = some _; assumption))
local macro_rules | `(tactic| walk_at "side") => `(tactic| first
  | (show (0 : Int) < _; decide)
  | (show (0 : Int) < _; omega)
  | exact ⟨by decide, by decide, by decide⟩
  | exact sz_of (Nat.le_of_ble_eq_true rfl)
  | exact rfl
  | exact Or.inl (by decide)
  | exact Or.inr (by decide)
  | exact Or.inr ⟨by omega, by omega⟩
  | exact Or.inl ⟨by omega, by omega⟩
  | exact ⟨by decide, by decide +kernel⟩)
local macro_rules | `(tactic| walk_at "ev1") => `(tactic| first
  | refine ⟨_, rfl, ?_⟩
  | refine ⟨_, _, rfl, rfl, ?_⟩
  | refine ⟨_, _, _, _, rfl, rfl, (by walk_at "sq"), (by walk_at "at"), ?_⟩
  | refine ⟨_, _, rfl, (by walk_at "sq"), ?_⟩
  | refine ⟨_, _, rfl, Or.inl (by walk_at "sq"), ?_⟩
  | refine ⟨_, _, rfl, Or.inr (by walk_at "sq"), ?_⟩
  | refine Or.inl ⟨_, rfl, ?_⟩
  | refine Or.inr ⟨_, rfl, ?_⟩
  | refine ⟨(by walk_at "side"), ?_⟩
  | refine ⟨.inl ⟨rfl, _, (by walk_at "sq")⟩, ?_⟩
  | refine ⟨_, _, rfl, ?_⟩)
local macro_rules | `(tactic| walk_at "nrm") => `(tactic| dsimp only [tNil, tCons, tC, tCB])
local macro_rules | `(tactic| walk_at "ev") => `(tactic| repeat (walk_at "ev1"))
section
variable {K : PySem.W.Frag} {C : Addr} {H0 : Hp} {σ : L2.St} {te ta tb : TE} {ds : List PyData}
theorem ic_nw (h : NwL K [] H0 te ds σ) : IsC K [] H0 te (.list ds) σ := fun H Q e tr q => h H _ e tr fun H' p vs s h0 hp hd => q H' _ s (by rw [cutS_nil]; exact .lst (sql_of hp) (cutS_le.dpa hd))
theorem ic_lenS {f : Bool} (h : IsC K [] H0 te (seqD f ds) σ) : IsC K [] H0 (tCB (fun xs H Q => ∃ p ys, xs = [.ref p] ∧ (SqL K H p ys ∨ SqT K H p ys) ∧ Q (.int ys.length) H) (tCons te tNil)) (.int (ds.length : Nat)) σ := fun H Q e tr q => h H _ e tr fun H1 v s1 d1 => by
  rw [cutS_nil] at d1
  obtain ⟨a, xs, rfl, ha, hx⟩ := Dp.seq_of d1
  refine ⟨a, xs, rfl, SqF.or ha, q H1 _ s1 ?_⟩
  rw [dpa_len hx]
  exact .int _
theorem ic_gt {i j : Int} (h1 : IsC K [] H0 ta (.int i) σ) (h2 : IsC K [] H0 tb (.int j) σ) : IsC K [] H0 (tOp (rI0 fun i j => .bl (decide (j < i))) ta tb) (.bool (decide (j < i))) σ := fun H Q e tr q => h1 H _ e tr fun H1 v s1 d1 => h2 H1 _ (e.trans s1) (tr.mono s1) fun H2 u s2 d2 => by
  cases d1
  cases d2
  exact ⟨_, _, rfl, rfl, q H2 _ (s1.trans s2) (.bl _)⟩
theorem ic_neS {a b : Str} (h1 : IsC K [] H0 ta (.str a) σ) (h2 : IsC K [] H0 tb (.str b) σ) : IsC K [] H0 (tOp rNe ta tb) (.bool (!decide (a = b))) σ := fun H Q e tr q => h1 H _ e tr fun H1 v s1 d1 => h2 H1 _ (e.trans s1) (tr.mono s1) fun H2 u s2 d2 => by
  cases d1
  cases d2
  refine ⟨rfl, ?_⟩
  rw [decS']
  exact q H2 _ (s1.trans s2) (.bl _)
theorem tt_eqS {a b : Str} (h1 : IsC K [] H0 ta (.str a) σ) (h2 : IsC K [] H0 tb (.str b) σ) : ∀ (H : Hp) (R : Bool → Hp → Prop), Same H0 H → (∀ H', Same H H' → R (decide (a = b)) H') → tTest (tOp rEq ta tb) σ H R := fun H R e q => h1 H _ e Trk.nil fun H1 v s1 d1 => h2 H1 _ (e.trans s1) Trk.nil fun H2 u s2 d2 => by
  cases d1
  cases d2
  refine ⟨rfl, ?_⟩
  rw [decS']
  exact ⟨_, rfl, q H2 (s1.trans s2)⟩
variable {ws ws2 : List Str} {qs qs2 : List QD} {w w2 : Str} {us us2 : List Str} {ms ms2 : List Mk} {t1 t2 tk : TE} {k : Nat}
theorem ic_heardA (h : IsWy K C H0 t1 ws qs w us ms σ) (h2 : IsWy K C H0 t2 ws qs w2 us2 ms2 σ) (hk : IsC K [] H0 tk (.int (k : Nat)) σ) (e2 : w2 = us.getLastD w) (G : Gd ws qs) (hw : w ∈ ws) (hp : path qs (w :: us) ms) (hp2 : path qs (w2 :: us2) ms2) (lm : ms.length ≤ 1000) (lm2 : ms2.length ≤ 1000) :
    IsC K [] H0 (tCall (spHeard K C) [] E0 (tCons t1 (tCons t2 (tCons tk tNil)))) .none σ := fun H Q e tr q => h H _ e fun H1 x s1 hx => h2 H1 _ (e.trans s1) fun H2 y s2 hy => hk H2 _ ((e.trans s1).trans s2) Trk.nil fun H3 kv s3 hkv => by
  cases hkv
  subst e2
  exact ⟨x, .ref y, k, rfl, .inl ⟨y, rfl, x, y, ws, qs, w, us, us2, ms, ms2, rfl, hx.same (s2.trans s3), hy.same s3, G.g, hw, hp, hp2, G.w6, G.q6, lm, lm2, G.o1, G.o2, fun H' z s hz => q H' _ ((s1.trans (s2.trans s3)).trans s) .non⟩⟩
theorem ic_heardB (h : IsWy K C H0 t1 ws qs w us ms σ) (h2 : IsWy K C H0 t2 ws2 qs2 w2 us2 ms2 σ) (hk : IsC K [] H0 tk (.int (k : Nat)) σ) (sh : SeqAt.shaped (netD true ws qs) = true) (sh2 : SeqAt.shaped (netD true ws2 qs2) = true) (lm : ms.length ≤ 1000) (hne : PyData.eqv (netD true ws qs) (netD true ws2 qs2) = false ∨ us.getLastD w ≠ w2) :
    IsC K [] H0 (tCall (spHeard K C) [] E0 (tCons t1 (tCons t2 (tCons tk tNil)))) (.int (ms.length : Nat)) σ := fun H Q e tr q => h H _ e fun H1 x s1 hx => h2 H1 _ (e.trans s1) fun H2 y s2 hy => hk H2 _ ((e.trans s1).trans s2) Trk.nil fun H3 kv s3 hkv => by
  cases hkv
  exact ⟨x, .ref y, k, rfl, .inr (.inr (.inl ⟨y, ws, qs, w, us, us2, ms, ms2, ws2, qs2, w2, rfl, hx.same (s2.trans s3), hy.same s3, sh, sh2, lm, hne, fun H' s => q H' _ ((s1.trans (s2.trans s3)).trans s) (.int _)⟩))⟩
theorem ic_heardN (h : IsWy K C H0 t1 ws qs w us ms σ) (hk : IsC K [] H0 tk (.int (k : Nat)) σ) (G : Gd ws qs) (hw : w ∈ ws) (hp : path qs (w :: us) ms) (lm : ms.length ≤ 1000) (k9 : k ≤ 90) :
    IsC K [] H0 (tCall (spHeard K C) [] E0 (tCons t1 (tCons (tC .non) (tCons tk tNil)))) (if 1 < k ∧ w ≠ us.getLastD w then .int (ms.length : Nat) else .none) σ := fun H Q e tr q => h H _ e fun H1 x s1 hx => hk H1 _ (e.trans s1) Trk.nil fun H3 kv s3 hkv => by
  cases hkv
  by_cases hc : 1 < k ∧ w ≠ us.getLastD w
  · rw [if_pos hc] at q
    exact ⟨x, .non, k, rfl, .inr (.inr (.inr ⟨ws, qs, w, us, ms, rfl, hx.same s3, lm, hc.1, hc.2, fun H' s => q H' _ ((s1.trans s3).trans s) (.int _)⟩))⟩
  · rw [if_neg hc] at q
    exact ⟨x, .non, k, rfl, .inr (.inl ⟨rfl, x, k, ws, qs, w, us, ms, rfl, hx.same s3, G.g, hw, hp, G.w6, G.q6, lm, k9, fun h1 => Classical.byContradiction fun z => hc ⟨h1, z⟩, fun H' z s hz => q H' _ ((s1.trans s3).trans s) .non⟩)⟩
end
theorem eqv_more {ws : List Str} {qs : List QD} {z : Str} : PyData.eqv (netD true ws qs) (netD true (ws ++ [z]) qs) = false := by
  show PyData.eqv (.tuple [.tuple _, .tuple _]) (.tuple [.tuple _, .tuple _]) = false
  rw [PyData.eqv, PyData.eqvAll, PyData.eqv, eqvA_map (f := PyData.str) (g := id) (fun _ _ => eqv_str), List.map_id, List.map_id, decide_eq_false fun h => ?_, Bool.false_and]
  have := congrArg List.length h
  rw [List.length_append, List.length_singleton] at this
  omega
theorem eqv_room {ws : List Str} {qs : List QD} {q p : QD} (h : p.room ≠ q.room) : PyData.eqv (netD true ws (qs ++ [p])) (netD true ws (qs ++ [q])) = false := by
  have e := eqF_room (ws := ws) (qs := qs) (w := Str.empty) (w2 := Str.empty) (ms := []) (ms2 := []) h
  unfold eqF at e
  have e2 : PyData.eqv (stepsD (qs ++ [p]) []) (stepsD (qs ++ [q]) []) = true := by
    show PyData.eqv (.tuple []) (.tuple []) = true
    simp [PyData.eqv, PyData.eqvAll]
  rw [e2, decide_eq_true rfl, Bool.true_and, Bool.and_true] at e
  exact e
end Jl

set_option Elab.async false
set_option linter.all false
set_option maxRecDepth 100000
set_option maxHeartbeats 1000000
set_option pp.maxSteps 300
namespace Jl
open PySem PySem.Spec PyProof.Rows L2
open Evl (sz_of sz_lt)
local macro_rules | `(tactic| walk_at "at") => `(tactic| first | exact box0 | exact box1 | exact box2)
local macro_rules | `(tactic| walk_at "sq") => `(tactic| first | (show SqL _ _ _ _; assumption) | (show SqT _ _ _ _; assumption) | (show _ = some _; assumption))
local macro_rules | `(tactic| walk_at "side") => `(tactic| first
  | (show (0 : Int) < _; decide)
  | (show (0 : Int) < _; omega)
  | exact ⟨by decide, by decide, by decide⟩
  | exact sz_of (Nat.le_of_ble_eq_true rfl)
  | exact rfl
  | exact Or.inl (by decide)
  | exact Or.inr (by decide)
  | exact Or.inr ⟨by omega, by omega⟩
  | exact Or.inl ⟨by omega, by omega⟩
  | exact ⟨by decide, by decide +kernel⟩)
local macro_rules | `(tactic| walk_at "ev1") => `(tactic| first
  | refine ⟨_, rfl, ?_⟩
  | refine ⟨_, _, rfl, rfl, ?_⟩
  | refine ⟨_, _, _, _, rfl, rfl, (by walk_at "sq"), (by walk_at "at"), ?_⟩
  | refine ⟨_, _, rfl, (by walk_at "sq"), ?_⟩
  | refine ⟨_, _, rfl, Or.inl (by walk_at "sq"), ?_⟩
  | refine ⟨_, _, rfl, Or.inr (by walk_at "sq"), ?_⟩
  | refine Or.inl ⟨_, rfl, ?_⟩
  | refine Or.inr ⟨_, rfl, ?_⟩
  | refine ⟨(by walk_at "side"), ?_⟩
  | refine ⟨.inl ⟨rfl, _, (by walk_at "sq")⟩, ?_⟩
  | refine ⟨_, _, rfl, ?_⟩)
local macro_rules | `(tactic| walk_at "nrm") => `(tactic| dsimp only [tNil, tCons, tC, tCB])
local macro_rules | `(tactic| walk_at "ev") => `(tactic| repeat (walk_at "ev1"))
abbrev sc_w_right_N : List Str := ["_law_box_here", "_law_turn", "_law_web_here", "_law_first", "_law_marks_here", "_law_middle", "_law_more", "_law_far_so", "_law_last", "_law_end_so", "_law_one", "_law_two", "_law_three", "_law_stays", "_law_spare", "_law_strange", "_law_row", "_law_space", "_law_none", "_law_times_so", "_law_same_here", "_law_open_so"]
abbrev s_w_right : Stmt := topS 23
theorem sc_w_right : FnScope ["_law_box_here", "_law_turn", "_law_web_here", "_law_first", "_law_marks_here", "_law_middle", "_law_more", "_law_far_so", "_law_last", "_law_end_so", "_law_one", "_law_two", "_law_three", "_law_stays", "_law_spare", "_law_strange", "_law_row", "_law_space", "_law_none", "_law_times_so", "_law_same_here", "_law_open_so"] ["_law_box_here"] (defScope s_w_right) := ⟨rfl, rfl, rfl, by decide +kernel, rfl, by decide +kernel, by decide +kernel⟩
theorem make_wayR {K : PySem.W.Frag} {C : Addr} {H1 : Hp} {x dx : Addr} {v qv : V} {fb fq : Bool} {ws : List Str} {qs : List QD} {w : Str} {us : List Str} {ms : List Mk} {R : Hp → Prop} (hx : H1 x = none) (hdx : H1 dx = none) (ne : dx ≠ x) (hD : Dp K H1 v (netD fb ws qs)) (hQ : Dp K H1 qv (seqD fq ((ms.map (nmQ qs)).map PyData.str))) (hG : NetG ws qs) (hw : w ∈ ws) (hp : path qs (w :: us) ms) (w6 : ws.length ≤ 60) (q6 : qs.length ≤ 60) (m6 : ms.length ≤ 100000) (q : ∀ H', Same H1 H' → WayAt K C H' x ws qs w us ms → R H') : spInit K C [.ref x, v, .str w, qv] (upd (upd H1 dx (.own x)) x (.ins C dx [])) (fun v H2 => v = .non ∧ R H2) E0 := make_way (Q := fun _ H' => R H') hx hdx ne hD hQ hG hw hp w6 q6 m6 fun H' s h => q H' s h
theorem par3_of {ta : TA} {i j l : Nat} {u : TS} {D : Ends} {σ : L2.St} {H : Hp} (h : ta σ H fun vs H1 => ∃ v w x, vs = [v, w, x] ∧ u D (((σ.set i (some v)).set j (some w)).set l (some x)) H1) : tSeq (tPar3 i j l ta) u D σ H := h
theorem mem_h : ∀ {x : V} {r : Nat}, (([3, 9, 10 ^ 40] : List Int).map V.int)[r]? = some x → ∃ h : Int, x = .int h ∧ 1 ≤ h ∧ h ≤ 10 ^ 50 := fun {x r} h => by
  have hm := List.mem_of_getElem? h
  obtain ⟨z, hz, rfl⟩ := List.mem_map.mp hm
  refine ⟨z, rfl, ?_⟩
  have : ∀ z ∈ ([3, 9, 10 ^ 40] : List Int), 1 ≤ z ∧ z ≤ 10 ^ 50 := by decide
  exact this z hz
theorem zs_ok : PyData.strOk zzS = true := by decide +kernel
section
variable {P : Program} {w : World} {K : PySem.W.Frag} {mg : Str → Option Value} {base : Heap}
def spRight (K : PySem.W.Frag) : Sp := fun vs H Q _ => ∃ (b : Addr) (bx : List V) (N : Nat), vs = [.ref b] ∧ H b = some (.lst bx) ∧ BoxL bx N ∧ N < 2 ^ 40 ∧ ∀ H', Same (cutS [b] H) H' → Q (.bl true) H'
theorem ok_w_right {f fA fM fQ fS fW fC fL fI fWe fO fMk fT fE fH fP C CS : Addr} {fd fdA fdM fdQ fdS fdW fdC fdL fdI fdWe fdO fdMk fdT fdE fdH fdP : FuncData} {k : Nat} (F : Fun K "_law_right" "_law_right" s_w_right f fd) (T_Way : TWay K C) (M_Way : L2.Mk K C fI) (mg_Way : mg "Way" = some (.ref C)) (O_Way : OWay K C) (I_Way : IWay K C)
    (GX_Way_add : FnOk P w K mg base (L2.CX P w) k fA fdA ["self", "other"] (spAddX K C CS)) (mt_Way_add : Meth K C "__add__" fA) (b_Way_add : Binds K fdA ["self", "other"] [])
    (GX_Way_mul : FnOk P w K mg base (L2.CX P w) k fM fdM ["self", "many"] (spMulX K C CS)) (mt_Way_mul : Meth K C "__mul__" fM) (b_Way_mul : Binds K fdM ["self", "many"] [])
    (G_Way_eq : FnOk P w K mg base CX0 k fQ fdQ ["self", "other"] (spEqA K C)) (mt_Way_eq : Meth K C "__eq__" fQ) (b_Way_eq : Binds K fdQ ["self", "other"] [])
    (G_Way_steps : FnOk P w K mg base CX0 k fS fdS ["self"] (spSteps K C)) (mt_Way_steps : Meth K C "steps" fS) (b_Way_steps : Binds K fdS ["self"] [])
    (G_Way_workers : FnOk P w K mg base CX0 k fW fdW ["self"] (spWorkers K C)) (mt_Way_workers : Meth K C "workers" fW) (b_Way_workers : Binds K fdW ["self"] [])
    (G_Way_cost : FnOk P w K mg base CX0 k fC fdC ["self"] (spCost K C)) (mt_Way_cost : Meth K C "cost" fC) (b_Way_cost : Binds K fdC ["self"] [])
    (G_Way_len : FnOk P w K mg base CX0 k fL fdL ["self"] (spLen K C)) (mt_Way_len : Meth K C "__len__" fL) (b_Way_len : Binds K fdL ["self"] [])
    (G_w_web : FnOk P w K mg base CX0 k fWe fdWe ["_law_box_here", "_law_size_so", "_law_most", "_law_high"] (spWeb K)) (g_w_web : mg "_law_web" = some (.ref fWe)) (F_w_web : Fun K "_law_web" "_law_web" s_w_web fWe fdWe) (b_w_web : Binds K fdWe ["_law_box_here", "_law_size_so", "_law_most", "_law_high"] [])
    (G_w_of : FnOk P w K mg base CX0 k fO fdO ["_law_box_here", "_law_some"] (spOf K)) (g_w_of : mg "_law_of" = some (.ref fO)) (F_w_of : Fun K "_law_of" "_law_of" s_w_of fO fdO) (b_w_of : Binds K fdO ["_law_box_here", "_law_some"] [])
    (G_w_marks : FnOk P w K mg base CX0 k fMk fdMk ["_law_box_here", "_law_web_here", "_law_first", "_law_size_so"] (spMarks K)) (g_w_marks : mg "_law_marks" = some (.ref fMk)) (F_w_marks : Fun K "_law_marks" "_law_marks" s_w_marks fMk fdMk) (b_w_marks : Binds K fdMk ["_law_box_here", "_law_web_here", "_law_first", "_law_size_so"] [])
    (G_w_take : FnOk P w K mg base CX0 k fT fdT ["_law_box_here", "_law_below"] spTake2) (g_w_take : mg "_law_take" = some (.ref fT)) (F_w_take : Fun K "_law_take" "_law_take" s_w_take fT fdT) (b_w_take : Binds K fdT ["_law_box_here", "_law_below"] [])
    (G_w_same : FnOk P w K mg base CX0 k fE fdE ["_law_got", "_law_due"] (spSame K 5)) (g_w_same : mg "_law_same" = some (.ref fE)) (F_w_same : Fun K "_law_same" "_law_same" s_w_same fE fdE) (b_w_same : Binds K fdE ["_law_got", "_law_due"] [])
    (G_w_heard : FnOk P w K mg base CX0 k fH fdH ["_law_one", "_law_two", "_law_times_so"] (spHeard K C)) (g_w_heard : mg "_law_heard" = some (.ref fH)) (F_w_heard : Fun K "_law_heard" "_law_heard" s_w_heard fH fdH) (b_w_heard : Binds K fdH ["_law_one", "_law_two", "_law_times_so"] [])
    (G_w_pair_right : FnOk P w K mg base CX0 k fP fdP ["_law_web_here", "_law_one", "_law_two"] (spPair K C)) (g_w_pair_right : mg "_law_pair_right" = some (.ref fP)) (F_w_pair_right : Fun K "_law_pair_right" "_law_pair_right" s_w_pair_right fP fdP) (b_w_pair_right : Binds K fdP ["_law_web_here", "_law_one", "_law_two"] [])
    (G_Way_init : FnOk P w K mg base CX0 k fI fdI ["self", "net", "start", "queues"] (spInit K C)) (b_Way_init : Binds K fdI ["self", "net", "start", "queues"] [])
    (m_range : mg "range" = none) (m_len : mg "len" = none) (m_min : mg "min" = none) : FnOk P w K mg base CX0 (k + 1 + 1) f fd ["_law_box_here"] (spRight K) := by
  refine F.ok sc_w_right (fun vs H Q E h => ?_) (fun cdv A outer s0 H vs Q E hr2 h => ?_)
  · obtain ⟨b, bx, N, rfl, _⟩ := h
    rfl
  · obtain ⟨b, bx, N, rfl, hb, hB, hN, q⟩ := h
    have hr := hr2.mono (Nat.le_succ k)
    refine ⟨_, (pss_cons (ps_forX (ps_for PassesOwn.never rfl (pi_range1 (by rfl) m_range (pa_cons pe_int pa_nil)) (pg_name (i := 1) sc_w_right.nd rfl (Or.inl rfl)) 
      (pss_cons (ps_set (i := 2) sc_w_right.nd rfl (Or.inl rfl) (pe_call G_w_web hr (by rfl) g_w_web F_w_web.kp b_w_web .nil pass0 (pa_cons (pv 0) (pa_cons pe_int (pa_cons pe_int (pa_cons (pe_call G_w_of hr (by rfl) g_w_of F_w_of.kp b_w_of .nil pass0 (pa_cons (pv 0) (pa_cons (pe_lst (pa_cons pe_int (pa_cons pe_int (pa_cons (pe_op op_pow pe_int pe_int) pa_nil)))) pa_nil))) pa_nil)))))) 
      (pss_cons (ps_set (i := 3) sc_w_right.nd rfl (Or.inl rfl) (pe_call G_w_of hr (by rfl) g_w_of F_w_of.kp b_w_of .nil pass0 (pa_cons (pv 0) (pa_cons (pe_ix ix_lt (pv 2) pe_int (fun _ _ => rfl)) pa_nil)))) 
      (pss_cons (ps_asg (pe_call G_w_marks hr (by rfl) g_w_marks F_w_marks.kp b_w_marks .nil pass0 (pa_cons (pv 0) (pa_cons (pv 2) (pa_cons (pv 3) (pa_cons (pe_call G_w_take hr (by rfl) g_w_take F_w_take.kp b_w_take .nil pass0 (pa_cons (pv 0) (pa_cons pe_int pa_nil))) pa_nil))))) (pg_tup rfl (pgs_cons (pg_name (i := 4) sc_w_right.nd rfl (Or.inl rfl)) (pgs_cons (pg_name (i := 5) sc_w_right.nd rfl (Or.inl rfl)) pgs_nil)))) 
      (pss_cons (ps_asg (pe_call G_w_marks hr (by rfl) g_w_marks F_w_marks.kp b_w_marks .nil pass0 (pa_cons (pv 0) (pa_cons (pv 2) (pa_cons (pv 5) (pa_cons (pe_call G_w_take hr (by rfl) g_w_take F_w_take.kp b_w_take .nil pass0 (pa_cons (pv 0) (pa_cons pe_int pa_nil))) pa_nil))))) (pg_tup rfl (pgs_cons (pg_name (i := 6) sc_w_right.nd rfl (Or.inl rfl)) (pgs_cons (pg_name (i := 7) sc_w_right.nd rfl (Or.inl rfl)) pgs_nil)))) 
      (pss_cons (ps_asg (pe_call G_w_marks hr (by rfl) g_w_marks F_w_marks.kp b_w_marks .nil pass0 (pa_cons (pv 0) (pa_cons (pv 2) (pa_cons (pv 7) (pa_cons (pe_op op_add pe_int (pe_call G_w_take hr (by rfl) g_w_take F_w_take.kp b_w_take .nil pass0 (pa_cons (pv 0) (pa_cons pe_int pa_nil)))) pa_nil))))) (pg_tup rfl (pgs_cons (pg_name (i := 8) sc_w_right.nd rfl (Or.inl rfl)) (pgs_cons (pg_name (i := 9) sc_w_right.nd rfl (Or.inl rfl)) pgs_nil)))) 
      (pss_cons (ps_par3 (i := 10) (j := 11) (l := 12) (by rfl) sc_w_right.nd rfl rfl rfl (by decide) (by decide) (by decide) rfl rfl rfl (pa_cons (pe_make M_Way G_Way_init hr2 (by rfl) mg_Way b_Way_init .nil pass0 (pa_cons (pv 2) (pa_cons (pv 3) (pa_cons (pv 4) pa_nil)))) (pa_cons (pe_make M_Way G_Way_init hr2 (by rfl) mg_Way b_Way_init .nil pass0 (pa_cons (pv 2) (pa_cons (pv 5) (pa_cons (pv 6) pa_nil)))) (pa_cons (pe_make M_Way G_Way_init hr2 (by rfl) mg_Way b_Way_init .nil pass0 (pa_cons (pv 2) (pa_cons (pv 7) (pa_cons (pv 8) pa_nil)))) pa_nil))) (by rfl)) 
      (pss_cons (ps_if (PW.pt (pw_or (pt_not (pt_val (pe_call G_w_pair_right hr (by rfl) g_w_pair_right F_w_pair_right.kp b_w_pair_right .nil pass0 (pa_cons (pv 2) (pa_cons (pv 10) (pa_cons (pv 11) pa_nil)))))) (pw_or1 (pt_not (pt_val (pe_call G_w_same hr (by rfl) g_w_same F_w_same.kp b_w_same .nil pass0 (pa_cons (pe_cmpR (op_eqI G_Way_eq hr mt_Way_eq b_Way_eq pass0) (pe_op (op_own GX_Way_add hr (mt_add mt_Way_add) O_Way.sf b_Way_add passL) (pe_op (op_own GX_Way_add hr (mt_add mt_Way_add) O_Way.sf b_Way_add passL) (pv 10) (pv 11)) (pv 12)) (pe_op (op_own GX_Way_add hr (mt_add mt_Way_add) O_Way.sf b_Way_add passL) (pv 10) (pe_op (op_own GX_Way_add hr (mt_add mt_Way_add) O_Way.sf b_Way_add passL) (pv 11) (pv 12))) (nomark _)) (pa_cons pe_bl pa_nil)))))))) (pss_one (ps_ret pe_bl)) pss_nil) 
      (pss_cons (ps_set (i := 13) sc_w_right.nd rfl (Or.inl rfl) (pe_lst (pa_cons (pe_meth0 (pv 10) T_Way.cl mt_Way_steps G_Way_steps hr b_Way_steps .nil pass0) (pa_cons (pe_meth0 (pv 10) T_Way.cl mt_Way_workers G_Way_workers hr b_Way_workers .nil pass0) (pa_cons (pe_meth0 (pv 10) T_Way.cl mt_Way_cost G_Way_cost hr b_Way_cost .nil pass0) pa_nil))))) 
      (pss_cons (ps_set (i := 14) sc_w_right.nd rfl (Or.inl rfl) (pe_make M_Way G_Way_init hr2 (by rfl) mg_Way b_Way_init .nil pass0 (pa_cons (pe_tup (pa_cons (pe_op op_catA (pe_ix ix_lt (pv 2) pe_int (fun _ _ => rfl)) (pe_tup (pa_cons pe_str pa_nil))) (pa_cons (pe_ix ix_lt (pv 2) pe_int (fun _ _ => rfl)) pa_nil))) (pa_cons (pv 5) (pa_cons (pv 6) pa_nil))))) 
      (pss_cons (ps_set (i := 15) sc_w_right.nd rfl (Or.inl rfl) (pe_make M_Way G_Way_init hr2 (by rfl) mg_Way b_Way_init .nil pass0 (pa_cons (pv 2) (pa_cons (pe_call G_w_of hr (by rfl) g_w_of F_w_of.kp b_w_of .nil pass0 (pa_cons (pv 0) (pa_cons (pe_ix ix_lt (pv 2) pe_int (fun _ _ => rfl)) pa_nil))) (pa_cons (pe_tup pa_nil) pa_nil))))) 
      (pss_cons (ps_if (pt_not (pt_val (pe_call G_w_same hr (by rfl) g_w_same F_w_same.kp b_w_same .nil pass0 (pa_cons (pe_call G_w_heard hr (by rfl) g_w_heard F_w_heard.kp b_w_heard .nil pass0 (pa_cons (pv 10) (pa_cons (pv 14) (pa_cons pe_int pa_nil)))) (pa_cons (pe_callB call_len_seq (by rfl) m_len PySem.boot_len (pa_cons (pv 4) pa_nil)) pa_nil))))) (pss_one (ps_ret pe_bl)) pss_nil) 
      (pss_cons (ps_set (i := 16) sc_w_right.nd rfl (Or.inl rfl) (pe_ix ix_tup (pe_ix ix_lt (pv 2) pe_int (fun _ _ => rfl)) (pe_un un_neg pe_int) (fun _ _ => rfl))) 
      (pss_cons (ps_set (i := 17) sc_w_right.nd rfl (Or.inl rfl) (pe_ifExp (pt_cmpR op_gt (pe_ix ix_tup (pv 16) pe_int (fun _ _ => rfl)) pe_int (nomark _)) (pe_op op_sub (pe_ix ix_tup (pv 16) pe_int (fun _ _ => rfl)) pe_int) pe_int)) 
      (pss_cons (ps_set (i := 14) sc_w_right.nd rfl (Or.inl rfl) (pe_tup (pa_cons (pe_ix ix_lt (pv 2) pe_int (fun _ _ => rfl)) (pa_cons (pe_op op_catA (pe_slice sl_tupA (pe_ix ix_lt (pv 2) pe_int (fun _ _ => rfl)) po_none (po_some (pe_un un_neg pe_int))) (pe_tup (pa_cons (pe_tup (pa_cons (pe_ix ix_tup (pv 16) pe_int (fun _ _ => rfl)) (pa_cons (pe_ix ix_tup (pv 16) pe_int (fun _ _ => rfl)) (pa_cons (pe_ix ix_tup (pv 16) pe_int (fun _ _ => rfl)) (pa_cons (pv 17) (pa_cons (pe_callB (call_min2 rfl) (by rfl) m_min (by decide +kernel) (pa_cons (pe_ix ix_tup (pv 16) pe_int (fun _ _ => rfl)) (pa_cons (pv 17) pa_nil))) pa_nil)))))) pa_nil))) pa_nil)))) 
      (pss_cons (ps_if (pt_not (pt_val (pe_call G_w_same hr (by rfl) g_w_same F_w_same.kp b_w_same .nil pass0 (pa_cons (pe_call G_w_heard hr (by rfl) g_w_heard F_w_heard.kp b_w_heard .nil pass0 (pa_cons (pv 10) (pa_cons (pe_make M_Way G_Way_init hr2 (by rfl) mg_Way b_Way_init .nil pass0 (pa_cons (pv 14) (pa_cons (pv 5) (pa_cons (pv 6) pa_nil)))) (pa_cons pe_int pa_nil)))) (pa_cons (pe_callB call_len_seq (by rfl) m_len PySem.boot_len (pa_cons (pv 4) pa_nil)) pa_nil))))) (pss_one (ps_ret pe_bl)) pss_nil) 
      (pss_cons (ps_set (i := 18) sc_w_right.nd rfl (Or.inl rfl) (pe_op (op_ownI GX_Way_mul hr (mt_mul mt_Way_mul) O_Way.sf O_Way.rm O_Way.im.choose_spec O_Way.ir.choose_spec O_Way.ns b_Way_mul passL) (pv 10) pe_int)) 
      (pss_cons (ps_if (pt_not (pt_val (pe_call G_w_same hr (by rfl) g_w_same F_w_same.kp b_w_same .nil pass0 (pa_cons (pe_lst (pa_cons (pe_meth0 (pv 18) T_Way.cl mt_Way_steps G_Way_steps hr b_Way_steps .nil pass0) (pa_cons (pe_meth0 (pv 18) T_Way.cl mt_Way_workers G_Way_workers hr b_Way_workers .nil pass0) (pa_cons (pe_meth0 (pv 18) T_Way.cl mt_Way_cost G_Way_cost hr b_Way_cost .nil pass0) (pa_cons (pe_callB (call_lenI G_Way_len hr2 mt_Way_len b_Way_len pass0) (by rfl) m_len (by decide +kernel) (pa_cons (pv 18) pa_nil)) pa_nil))))) (pa_cons (pe_lst (pa_cons (pe_tup pa_nil) (pa_cons (pe_tup (pa_cons (pv 3) pa_nil)) (pa_cons pe_int (pa_cons pe_int pa_nil))))) pa_nil))))) (pss_one (ps_ret pe_bl)) pss_nil) 
      (pss_cons (ps_if (pt_not (pt_val (pe_call G_w_same hr (by rfl) g_w_same F_w_same.kp b_w_same .nil pass0 (pa_cons (pe_call G_w_heard hr (by rfl) g_w_heard F_w_heard.kp b_w_heard .nil pass0 (pa_cons (pv 10) (pa_cons (pv 15) (pa_cons pe_int pa_nil)))) (pa_cons (pe_ifExp (pt_cmpR op_eq (pe_ix ix_tup (pe_meth0 (pv 15) T_Way.cl mt_Way_workers G_Way_workers hr b_Way_workers .nil pass0) pe_int (fun _ _ => rfl)) (pv 5) (nomark _)) pe_non (pe_callB call_len_seq (by rfl) m_len PySem.boot_len (pa_cons (pv 4) pa_nil))) pa_nil))))) (pss_one (ps_ret pe_bl)) pss_nil) 
      (pss_cons (ps_forX (ps_for PassesOwn.never rfl (pi_seq (pe_lst (pa_cons pe_int (pa_cons pe_int (pa_cons pe_int (pa_cons pe_int pa_nil)))))) (pg_name (i := 19) sc_w_right.nd rfl (Or.inl rfl)) 
        (pss_cons (ps_set (i := 21) sc_w_right.nd rfl (Or.inl rfl) (pe_and (pe_cmpR op_gt (pv 19) pe_int (nomark _)) (pe_one (pe_cmpR op_ne (pv 3) (pv 5) (nomark _))))) 
        (pss_one (ps_if (pt_not (pt_val (pe_call G_w_same hr (by rfl) g_w_same F_w_same.kp b_w_same .nil pass0 (pa_cons (pe_call G_w_heard hr (by rfl) g_w_heard F_w_heard.kp b_w_heard .nil pass0 (pa_cons (pv 10) (pa_cons pe_non (pa_cons (pv 19) pa_nil)))) (pa_cons (pe_ifExp (pt_val (pv 21)) (pe_callB call_len_seq (by rfl) m_len PySem.boot_len (pa_cons (pv 4) pa_nil)) pe_non) pa_nil))))) (pss_one (ps_ret pe_bl)) pss_nil))))) 
      (pss_cons (ps_set (i := 20) sc_w_right.nd rfl (Or.inl rfl) (pv 10)) 
      (pss_cons (ps_aug (i := 20) sc_w_right.nd rfl (Or.inl rfl) (pv 11) (iop_own GX_Way_add hr (mt_add mt_Way_add) O_Way.sf I_Way (.inl rfl) b_Way_add passL)) 
      (pss_one (ps_if (pt_not (pt_val (pe_call G_w_same hr (by rfl) g_w_same F_w_same.kp b_w_same .nil pass0 (pa_cons (pe_lst (pa_cons (pe_meth0 (pv 10) T_Way.cl mt_Way_steps G_Way_steps hr b_Way_steps .nil pass0) (pa_cons (pe_meth0 (pv 10) T_Way.cl mt_Way_workers G_Way_workers hr b_Way_workers .nil pass0) (pa_cons (pe_meth0 (pv 10) T_Way.cl mt_Way_cost G_Way_cost hr b_Way_cost .nil pass0) (pa_cons (pe_cmpR (op_eqI G_Way_eq hr mt_Way_eq b_Way_eq pass0) (pv 20) (pe_op (op_own GX_Way_add hr (mt_add mt_Way_add) O_Way.sf b_Way_add passL) (pv 10) (pv 11)) (nomark _)) pa_nil))))) (pa_cons (pe_op op_cat (pv 13) (pe_lst (pa_cons pe_bl pa_nil))) pa_nil))))) (pss_one (ps_ret pe_bl)) pss_nil))))))))))))))))))))))))) 
    (pss_one (ps_ret pe_bl))), ?_⟩
    rw [show L2.start (["_law_box_here", "_law_turn", "_law_web_here", "_law_first", "_law_marks_here", "_law_middle", "_law_more", "_law_far_so", "_law_last", "_law_end_so", "_law_one", "_law_two", "_law_three", "_law_stays", "_law_spare", "_law_strange", "_law_row", "_law_space", "_law_none", "_law_times_so", "_law_same_here", "_law_open_so"] : List Str) [.ref b] = [some (.ref b), none, none, none, none, none, none, none, none, none, none, none, none, none, none, none, none, none, none, none, none, none] from rfl]
    refine for_of ?_
    refine ⟨6, rfl, by decide, by decide, ?_⟩
    refine forR_it (walk_range (lo := 0) (n := 6)) (fun i σ Hc => ∃ (x1 x2 x3 x4 x5 x6 x7 x8 x9 x10 x11 x12 x13 x14 x15 x16 x17 x18 x19 x20 x21 : Option V) (bx : List V), σ = [some (.ref b), x1, x2, x3, x4, x5, x6, x7, x8, x9, x10, x11, x12, x13, x14, x15, x16, x17, x18, x19, x20, x21] ∧ Hc b = some (.lst bx) ∧ BoxL bx (N + 2000 * i) ∧ Same (cutS [b] H) (cutS [b] Hc)) ⟨_, _, _, _, _, _, _, _, _, _, _, _, _, _, _, _, _, _, _, _, _, bx, rfl, hb, hB, fun _ _ e => e⟩ (fun _ _ _ _ _ => trivial) (fun i x σ Hc Hc' hi hh y => ?_) (fun σ Hc hh => ?_)
    · obtain ⟨x1, x2, x3, x4, x5, x6, x7, x8, x9, x10, x11, x12, x13, x14, x15, x16, x17, x18, x19, x20, x21, bx, rfl, hb, hB, sc⟩ := hh
      obtain ⟨rfl, rfl⟩ := y
      try dsimp only [List.set]
      -- the web
      refine asg_of ?_
      refine ⟨_, rfl, _, rfl, ?_⟩
      refine (ic_lst (K := K) (S := [b]) (H0 := Hc') (ac_cons ic_int (ac_cons ic_int (ac_cons (ic_pow ⟨by decide, by decide, by decide⟩) ac_nil))) (by show 3 ≤ 1000; decide)) Hc' _ (fun _ _ e => e) (Trk.cons Trk.nil hb) fun H1 v1 s1 d1 => ?_
      obtain ⟨a1, y1, rfl, ha1, hy1⟩ := Dp.seq_of (f := false) d1
      have e1 := dpa_ints_of (show DpAll K _ y1 (([3, 9, 10 ^ 40] : List Int).map PyData.int) from hy1)
      subst e1
      have hb1 := s1 _ _ hb
      refine ⟨b, a1, false, _, bx, _, rfl, hb1, hB, by omega, ha1, by show 1 ≤ 3; decide, by show 3 ≤ 100000; decide, fun r x bx1 hx hB1 => ?_⟩
      obtain ⟨hh, rfl, hh1, hh2⟩ := mem_h hx
      refine ⟨b, 5, 7, hh, bx1, _, rfl, upd_same, hB1, by omega, by decide, by decide, by decide, by decide, hh1, hh2, fun H2 v ws qs bx2 hG hD hT hb2 hB2 hS2 => ?_⟩
      have sc2 : Same (cutS [b] H) (cutS [b] H2) := by
        rw [cutS_upd List.mem_cons_self] at hS2
        exact sc.trans ((cutS_mono s1).trans hS2)
      clear hS2 hx hb1 ha1 hy1 d1 hB hb sc s1 hT
      try dsimp only [List.set]
      have hNet := hG.net
      have ok1 : ∀ x ∈ ws, PyData.strOk x = true := fun x hx => poolW_ok _ (hG.wp x hx)
      have ok2 := hG.nm_ok
      have wl := hG.wl
      have qle := hG.ql
      have q1 := hG.q1
      have w2 := hG.w2
      have h1w : 1 ≤ (ws.map V.str).length := by
        rw [List.length_map]
        omega
      have pick : ∀ {x : V} {r : Nat}, (ws.map V.str)[r]? = some x → ∃ w0, w0 ∈ ws ∧ x = .str w0 := fun {x r} hx => by
        rw [List.getElem?_map] at hx
        cases hz1 : ws[r]? with
        | none =>
          rw [hz1] at hx
          cases hx
        | some w0 =>
          rw [hz1] at hx
          cases hx
          exact ⟨w0, List.mem_of_getElem? hz1, rfl⟩
      -- the first
      obtain ⟨a0, b1, b2, xq, ev, N0⟩ := netAt hD
      subst ev
      refine asg_of ?_
      refine ⟨_, rfl, _, rfl, rIxF_at (cutS_le.sqF N0.h0) (atI_nat (j := 0) rfl) ?_⟩
      refine ⟨b, b1, true, ws.map V.str, bx2, _, rfl, hb2, hB2, by omega, N0.h1, h1w, by rw [List.length_map]; omega, fun r x bx3 hx hB3 => ?_⟩
      obtain ⟨w0, hw, rfl⟩ := pick hx
      have hb3 : (upd H2 b (.lst bx3)) b = some (.lst bx3) := upd_same
      have c3 : cutS [b] (upd H2 b (.lst bx3)) = cutS [b] H2 := cutS_upd List.mem_cons_self
      rw [← c3] at hD sc2
      show tSeq _ _ _ _ (upd H2 b (.lst bx3))
      clear N0 hx c3 hb2
      generalize upd H2 b (.lst bx3) = H3 at hb3 hD sc2 ⊢
      try dsimp only [List.set]
      -- marks 1
      refine asgG_of ?_
      refine ⟨_, rfl, _, rfl, _, rfl, ?_⟩
      refine ⟨_, rfl, b, 4, bx3, _, rfl, hb3, hB3, by omega, by decide, small8000 ⟨by decide, by decide⟩, fun r bxA r0 r1 hBA => ?_⟩
      obtain ⟨n, rfl⟩ : ∃ n : Nat, r = (n : Int) := ⟨r.toNat, by omega⟩
      have hbA : (upd H3 b (.lst bxA)) b = some (.lst bxA) := upd_same
      have cA : cutS [b] (upd H3 b (.lst bxA)) = cutS [b] H3 := cutS_upd List.mem_cons_self
      rw [← cA] at hD sc2 
      clear cA hb3
      generalize upd H3 b (.lst bxA) = HA at hbA hD sc2  ⊢
      refine ⟨b, .ref a0, n, ws, qs, bxA, _, w0, rfl, hbA, hBA, by omega, by omega, hD, hNet, hw, by omega, by omega, ok1, ok2, fun H4 p bx4 us1 ms1 hp1 lm1 hm1 hb4 hB4 hS hW => ?_⟩
      obtain ⟨pt, xt, e, hpt, hxt⟩ := Dp.seq_of (f := true) (show Dp K _ (.ref p) (seqD true [.list ((ms1.map (nmQ qs)).map PyData.str), .str (us1.getLastD w0)]) from hW)
      cases e
      cases hxt with
      | @cons M1 _ _ _ hL1 hxt =>
      cases hxt with
      | cons k2 hxt =>
      cases hxt
      cases k2
      refine ⟨p, _, rfl, cutS_le.sqT hpt, rfl, _, _, rfl, _, _, rfl, rfl, ?_⟩
      try dsimp only [List.set]
      have hD := hS.dp hD
      have sc2 := sc2.trans hS
      clear hS
      clear hbA hW hpt
      -- marks 2
      refine asgG_of ?_
      refine ⟨_, rfl, _, rfl, _, rfl, ?_⟩
      refine ⟨_, rfl, b, 4, bx4, _, rfl, hb4, hB4, by omega, by decide, small8000 ⟨by decide, by decide⟩, fun r bxA r0 r1 hBA => ?_⟩
      obtain ⟨n, rfl⟩ : ∃ n : Nat, r = (n : Int) := ⟨r.toNat, by omega⟩
      have hbA : (upd H4 b (.lst bxA)) b = some (.lst bxA) := upd_same
      have cA : cutS [b] (upd H4 b (.lst bxA)) = cutS [b] H4 := cutS_upd List.mem_cons_self
      rw [← cA] at hD sc2 hL1
      clear cA hb4
      generalize upd H4 b (.lst bxA) = HA at hbA hD sc2 hL1 ⊢
      refine ⟨b, .ref a0, n, ws, qs, bxA, _, (us1.getLastD w0), rfl, hbA, hBA, by omega, by omega, hD, hNet, hm1, by omega, by omega, ok1, ok2, fun H5 p bx5 us2 ms2 hp2 lm2 hm2 hb5 hB5 hS hW => ?_⟩
      obtain ⟨pt, xt, e, hpt, hxt⟩ := Dp.seq_of (f := true) (show Dp K _ (.ref p) (seqD true [.list ((ms2.map (nmQ qs)).map PyData.str), .str (us2.getLastD (us1.getLastD w0))]) from hW)
      cases e
      cases hxt with
      | @cons M2 _ _ _ hL2 hxt =>
      cases hxt with
      | cons k2 hxt =>
      cases hxt
      cases k2
      refine ⟨p, _, rfl, cutS_le.sqT hpt, rfl, _, _, rfl, _, _, rfl, rfl, ?_⟩
      try dsimp only [List.set]
      have hD := hS.dp hD
      have sc2 := sc2.trans hS
      have hL1 := hS.dp hL1
      clear hS
      clear hbA hW hpt
      -- marks 3
      refine asgG_of ?_
      refine ⟨_, rfl, _, rfl, _, rfl, ?_⟩
      refine ⟨_, rfl, b, 2, bx5, _, rfl, hb5, hB5, by omega, by decide, small8000 ⟨by decide, by decide⟩, fun r bxA r0 r1 hBA => ?_⟩
      obtain ⟨n, rfl⟩ : ∃ n : Nat, r = (n : Int) := ⟨r.toNat, by omega⟩
      have hbA : (upd H5 b (.lst bxA)) b = some (.lst bxA) := upd_same
      have cA : cutS [b] (upd H5 b (.lst bxA)) = cutS [b] H5 := cutS_upd List.mem_cons_self
      rw [← cA] at hD sc2 hL1 hL2
      clear cA hb5
      generalize upd H5 b (.lst bxA) = HA at hbA hD sc2 hL1 hL2 ⊢
      refine ⟨_, _, rfl, rfl, ?_⟩
      refine ⟨b, .ref a0, (1 + n), ws, qs, bxA, _, (us2.getLastD (us1.getLastD w0)), rfl, hbA, hBA, by omega, by omega, hD, hNet, hm2, by omega, by omega, ok1, ok2, fun H6 p bx6 us3 ms3 hp3 lm3 hm3 hb6 hB6 hS hW => ?_⟩
      obtain ⟨pt, xt, e, hpt, hxt⟩ := Dp.seq_of (f := true) (show Dp K _ (.ref p) (seqD true [.list ((ms3.map (nmQ qs)).map PyData.str), .str (us3.getLastD (us2.getLastD (us1.getLastD w0)))]) from hW)
      cases e
      cases hxt with
      | @cons M3 _ _ _ hL3 hxt =>
      cases hxt with
      | cons k2 hxt =>
      cases hxt
      cases k2
      refine ⟨p, _, rfl, cutS_le.sqT hpt, rfl, _, _, rfl, _, _, rfl, rfl, ?_⟩
      try dsimp only [List.set]
      have hD := hS.dp hD
      have sc2 := sc2.trans hS
      have hL1 := hS.dp hL1
      have hL2 := hS.dp hL2
      clear hS
      clear hbA hW hpt
      have G : Gd ws qs := ⟨hNet, by omega, by omega, ok1, ok2⟩
      have sh := G.sh
      have shN : ∀ {us : List Str} {ms : List Mk}, path qs us ms → SeqAt.shaped (stepsD qs ms) = true := fun h => steps_shaped (nm_in ok2 h)
      have lu1 := path_len hp1
      have lu2 := path_len hp2
      have lu3 := path_len hp3
      rw [List.length_cons] at lu1 lu2 lu3
      -- the ways
      refine par3_of ?_
      refine (iw_make (K := K) (fb := true) (fq := false) (us := us1) (ms := ms1) (ac_cons (ic_var rfl (by rw [cutS_nil]; exact cutS_le.dp hD)) (ac_cons (ic_var rfl (.str _)) (ac_cons (ic_var rfl (by rw [cutS_nil]; exact cutS_le.dp hL1)) ac_nil))) hNet hw hp1 (by omega) (by omega) (by omega)) H6 _ (fun _ _ e => e) fun H7 one s7 h1 => ?_
      refine (iw_make (K := K) (H0 := H7) (fb := true) (fq := false) (us := us2) (ms := ms2) (ac_cons (ic_var rfl (by rw [cutS_nil]; exact s7.dp (cutS_le.dp hD))) (ac_cons (ic_var rfl (.str _)) (ac_cons (ic_var rfl (by rw [cutS_nil]; exact s7.dp (cutS_le.dp hL2))) ac_nil))) hNet hm1 hp2 (by omega) (by omega) (by omega)) H7 _ (fun _ _ e => e) fun H8 two s8 h2 => ?_
      have s68 := s7.trans s8
      refine (iw_make (K := K) (H0 := H8) (fb := true) (fq := false) (us := us3) (ms := ms3) (ac_cons (ic_var rfl (by rw [cutS_nil]; exact s68.dp (cutS_le.dp hD))) (ac_cons (ic_var rfl (.str _)) (ac_cons (ic_var rfl (by rw [cutS_nil]; exact s68.dp (cutS_le.dp hL3))) ac_nil))) hNet hm2 hp3 (by omega) (by omega) (by omega)) H8 _ (fun _ _ e => e) fun H9 three s9 h3 => ?_
      refine ⟨_, _, _, rfl, ?_⟩
      try dsimp only [List.set]
      have t10 := s68.trans s9
      have h1 := h1.same (s8.trans s9)
      have h2 := h2.same s9
      have hD10 := t10.dp (cutS_le.dp hD)
      -- the pair
      refine ⟨_, rfl, _, rfl, _, rfl, _, one, two, ws, qs, w0, us1, us2, ms1, ms2, rfl, hD10, h1, h2, G, hw, hp1, hp2, by omega, by omega, fun H11 s11 => ⟨_, rfl, iteF ?_⟩⟩
      have h1 := h1.same s11
      have h2 := h2.same s11
      have h3 := h3.same s11
      have hp12 := path_cat hp1 hp2
      have hp23 := path_cat hp2 hp3
      have eT : eqF ws qs w0 (ms1 ++ ms2 ++ ms3) ws qs w0 (ms1 ++ (ms2 ++ ms3)) = true := by
        rw [List.append_assoc]
        exact eqF_self sh (shN (path_cat hp1 hp23))
      refine same_ac (K := K) (d := .bool true) (ac_cons (by
        rw [← eT]
        exact iw_eq (iw_add (iw_add (iw_var rfl h1) (iw_var rfl h2) rfl G hw hp1 hp2 (by omega) (by omega)) (iw_var rfl h3) last_cat.symm G hw hp12 hp3 (by rw [List.length_append]; omega) (by omega)) (iw_add (iw_var rfl h1) (iw_add (iw_var rfl h2) (iw_var rfl h3) rfl G hm1 hp2 hp3 (by omega) (by omega)) rfl G hw hp1 hp23 (by omega) (by rw [List.length_append]; omega)) sh sh (by rw [List.append_assoc]; exact shN (path_cat hp1 hp23)) (shN (path_cat hp1 hp23))) (ac_cons ic_bl ac_nil)) trivial fun H12 s12 => ⟨_, rfl, iteF ?_⟩
      try dsimp only [tNext]
      have t12 := (t10.trans s11).trans s12
      have h1 := h1.same s12
      have h2 := h2.same s12
      -- what stays
      refine asg_of ?_
      refine (nw_lst (K := K) (S := []) (H0 := H12) (ac_cons (iw_steps (iw_var rfl h1)) (ac_cons (iw_workers (iw_var rfl h1)) (ac_cons (iw_cost (iw_var rfl h1)) ac_nil))) (by show 3 ≤ 1000; decide)) H12 _ (fun _ _ e => e) Trk.nil fun H13 st vst s13 st0 hst hdst => ?_
      have hdst := cutS_le.dpa hdst
      try dsimp only [List.set]
      have t13 := t12.trans s13
      -- the spare one
      refine asg_wy (ws := ws ++ [zzS]) (iw_make (fb := true) (fq := false) (us := us2) (ms := ms2) (ac_cons (by
        rw [show ∀ W X, netD true W X = .tuple [.tuple (W.map PyData.str), .tuple (X.map (QD.d true))] from fun _ _ => rfl, List.map_append]
        exact ic_tup (ac_cons (ic_catA (ic_at (fb := true) 0 (ic_var rfl (by rw [cutS_nil]; exact t13.dp (cutS_le.dp hD))) rfl) (ic_tup (ac_cons ic_str ac_nil) (by show 1 ≤ 1000; decide)) (by rw [List.length_map]; show ws.length + 1 ≤ 100000; omega)) (ac_cons (ic_at (fb := true) 1 (ic_var rfl (by rw [cutS_nil]; exact t13.dp (cutS_le.dp hD))) rfl) ac_nil)) (by show 2 ≤ 1000; decide)) (ac_cons (ic_var rfl (.str _)) (ac_cons (ic_var rfl (by rw [cutS_nil]; exact t13.dp (cutS_le.dp hL2))) ac_nil))) (more_net hNet) (List.mem_append_left _ hm1) hp2 (by rw [List.length_append, List.length_singleton]; omega) (by omega) (by omega)) fun H14 spa s14 hspa => ?_
      try dsimp only [List.set]
      have t14 := t13.trans s14
      have hb14 := t14 _ _ hb6
      have lS : LstS [b] H14 := fun a ha => by
        rw [List.mem_singleton.mp ha]
        exact ⟨_, hb14⟩
      have c1 := (h1.same (s13.trans s14)).cut lS
      have c2 := (h2.same (s13.trans s14)).cut lS
      have cs := hspa.cut lS
      have hD := (cutS_mono (S := [b]) t14).dp hD
      have hL1 := (cutS_mono (S := [b]) t14).dp hL1
      have hL2 := (cutS_mono (S := [b]) t14).dp hL2
      have sc2 := sc2.trans (cutS_mono t14)
      have nst : st ≠ b := fun z => by
        rw [z, t12 _ _ hb6] at st0
        cases st0
      have hst14 : (cutS [b] H14) st = some (.lst vst) := cutS_at (s14 _ _ hst) (not1 nst)
      have hdst14 : DpAll K (cutS [b] H14) vst [stepsD qs ms1, .tuple ((w0 :: us1).map PyData.str), .int (costQ qs ms1)] := by
        have hh := s14.dpa hdst
        cases hh with
        | cons k1 hh =>
        cases hh with
        | cons k2 hh =>
        cases hh with
        | cons k3 hh =>
        cases hh
        cases k3
        exact .cons (steps_cut k1 lS) (.cons (strs_cut k2 lS) (.cons (.int _) .nil))
      clear h1 h2 h3 hspa hst hdst st0 hD10 s7 s8 s9 s11 s12 s13 s14 s68 t10 t12 t13 t14 lS hb6 hL3 eT
      -- the strange one
      obtain ⟨a0', b1', b2', xq', ev, N1⟩ := netAt hD
      cases ev
      refine asg_of ?_
      refine ⟨_, rfl, _, rfl, _, rfl, rIxF_at (cutS_le.sqF N1.h0) (atI_nat (j := 0) rfl) ?_⟩
      refine ⟨b, b1', true, ws.map V.str, bx6, _, rfl, hb14, hB6, by omega, N1.h1, h1w, by rw [List.length_map]; omega, fun r x bx7 hx hB7 => ?_⟩
      obtain ⟨wx, hwx, rfl⟩ := pick hx
      have hb15 : (upd H14 b (.lst bx7)) b = some (.lst bx7) := upd_same
      have c15 : cutS [b] (upd H14 b (.lst bx7)) = cutS [b] H14 := cutS_upd List.mem_cons_self
      rw [← c15] at c1 c2 cs hD hL1 hL2 sc2 hst14 hdst14
      clear N1 c15 hb14 hx
      generalize upd H14 b (.lst bx7) = H15 at hb15 c1 c2 cs hD hL1 hL2 sc2 hst14 hdst14 ⊢
      refine ⟨by show 0 ≤ sizeLine; exact Nat.zero_le _, fun pe hpe => ?_⟩
      have se : Same H15 (upd H15 pe (.tup [])) := .upd hpe
      refine fun z dz hz hdz ne => make_wayR (fb := true) (fq := true) (us := []) (ms := []) hz hdz ne (se.dp (cutS_le.dp hD)) (.tup (sqt_of upd_same) .nil) hNet hwx True.intro (by omega) (by omega) (by decide) fun H16 s16 hsg => ?_
      have t16 := se.trans s16
      have hb16 := t16 _ _ hb15
      have le16 : Same (cutS [b] H15) H16 := cutS_le.trans t16
      have h1 := c1.same le16
      have h2 := c2.same le16
      have hs := cs.same le16
      have hD := le16.dp hD
      have hL1 := le16.dp hL1
      have hL2 := le16.dp hL2
      have sc3 := sc2.trans (cutS_mono t16)
      have hst := le16 _ _ hst14
      have hdst := le16.dpa hdst14
      clear c1 c2 cs hst14 hdst14 sc2 le16 t16 hb15 s16 hpe se
      try dsimp only [List.set]
      have len1 : ((ms1.map (nmQ qs)).map PyData.str).length = ms1.length := by rw [List.length_map, List.length_map]
      have icl : ∀ {H0 : Hp} {σ : L2.St}, Same H16 H0 → σ[4]? = some (some M1) → IsC K [] H0 (tCB (fun xs H Q => ∃ p ys, xs = [.ref p] ∧ (SqL K H p ys ∨ SqT K H p ys) ∧ Q (.int ys.length) H) (tCons (tVar 4) tNil)) (.int (ms1.length : Nat)) σ := fun {H0 σ} s h => by
        have := ic_lenS (K := K) (H0 := H0) (f := false) (ic_var h (by rw [cutS_nil]; exact s.dp hL1))
        rw [len1] at this
        exact this
      have okM := more_net (z := zzS) hNet
      refine same_ac (K := K) (d := .int (ms1.length : Nat)) (ac_cons (ic_heardB (k := 0) (iw_var rfl h1) (iw_var rfl hs) ic_int sh (okE_net okM (fun y hy => by
        rcases List.mem_append.mp hy with hy | hy
        · exact ok1 y hy
        · rw [List.mem_singleton.mp hy]
          exact zs_ok) ok2) (by omega) (.inl eqv_more)) (ac_cons (icl (fun _ _ e => e) rfl) ac_nil)) trivial fun H17 s17 => ⟨_, rfl, iteF ?_⟩
      try dsimp only [tNext]
      have h1 := h1.same s17
      have h2 := h2.same s17
      have hsg := hsg.same s17
      have hD := s17.dp hD
      have hL2 := s17.dp hL2
      have hst := s17 _ _ hst
      have hdst := s17.dpa hdst
      have sc3 := sc3.trans (cutS_mono s17)
      have hb17 := s17 _ _ hb16
      clear hs hb16
      -- another net
      obtain ⟨qi, ql, eq⟩ : ∃ qi ql, qs = qi ++ [ql] := by
        refine ⟨qs.dropLast, qs.getLast (fun z => by rw [z] at q1; simp at q1), ?_⟩
        exact (List.dropLast_concat_getLast _).symm
      subst eq
      have hD19' : Dp K H17 (.ref a0) (seqD true [.tuple (ws.map PyData.str), .tuple (qi.map (QD.d true) ++ [ql.d true])]) := by
        have := hD
        rw [show netD true ws (qi ++ [ql]) = seqD true [.tuple (ws.map PyData.str), .tuple ((qi ++ [ql]).map (QD.d true))] from rfl, List.map_append] at this
        exact this
      refine asg_ic (K := K) (d := ql.d true) (ic_lastT (ic_at (fb := true) 1 (ic_var rfl (by rw [cutS_nil]; exact hD19')) rfl)) fun H20 rw20 s20 hrw => ?_
      try dsimp only [List.set]
      have hrw : Dp K H20 rw20 (.tuple [.str ql.nm, .str ql.st, .str ql.en, .int ql.room, .int ql.gap]) := hrw
      refine asg_ic (K := K) (d := .int (if 1 < ql.room then ql.room - 1 else 2)) (ic_ifC (c := decide (1 < ql.room)) (tt_gt (ic_atT 3 (ic_var rfl (by rw [cutS_nil]; exact hrw)) rfl) ic_int) (fun h => by
        rw [if_pos (of_decide_eq_true h)]
        exact ic_sub (ic_atT 3 (ic_var rfl (by rw [cutS_nil]; exact hrw)) rfl) ic_int) (fun h => by
        rw [if_neg (of_decide_eq_false h)]
        exact ic_int)) fun H21 sp s21 hsp => ?_
      cases hsp
      try dsimp only [List.set]
      have hsp : (if 1 < ql.room then ql.room - 1 else 2) ≠ ql.room := by split <;> omega
      generalize (if 1 < ql.room then ql.room - 1 else 2) = sp at hsp ⊢
      have hr21 := s21.dp hrw
      have t21 := s20.trans s21
      have hD21 := t21.dp hD19'
      refine asg_ic (K := K) (d := .tuple [.tuple (ws.map PyData.str), .tuple (qi.map (QD.d true) ++ [.tuple [.str ql.nm, .str ql.st, .str ql.en, .int sp, .int (if sp < ql.gap then sp else ql.gap)]])]) (ic_tup (ac_cons (ic_at (fb := true) 0 (ic_var rfl (by rw [cutS_nil]; exact hD21)) rfl) (ac_cons (ic_catA (ic_initT (ic_at (fb := true) 1 (ic_var rfl (by rw [cutS_nil]; exact hD21)) rfl)) (ic_tup (ac_cons (ic_tup (ac_cons (ic_atT 0 (ic_var rfl (by rw [cutS_nil]; exact hr21)) rfl) (ac_cons (ic_atT 1 (ic_var rfl (by rw [cutS_nil]; exact hr21)) rfl) (ac_cons (ic_atT 2 (ic_var rfl (by rw [cutS_nil]; exact hr21)) rfl) (ac_cons (ic_var rfl (.int _)) (ac_cons (ic_min (ic_atT 4 (ic_var rfl (by rw [cutS_nil]; exact hr21)) rfl) (ic_var rfl (.int _))) ac_nil))))) (by show 5 ≤ 1000; decide)) ac_nil) (by show 1 ≤ 1000; decide)) (by rw [List.length_append, List.length_singleton] at qle; rw [List.length_map]; show qi.length + 1 ≤ 100000; omega)) ac_nil)) (by show 2 ≤ 1000; decide)) fun H22 mo s22 hmo => ?_
      try dsimp only [List.set]
      have hmo : Dp K H22 mo (netD true ws (qi ++ [⟨ql.nm, ql.st, ql.en, sp, if sp < ql.gap then sp else ql.gap⟩])) := by
        rw [show ∀ X, netD true ws X = seqD true [.tuple (ws.map PyData.str), .tuple (X.map (QD.d true))] from fun _ => rfl, List.map_append]
        exact hmo
      have t22 := t21.trans s22
      have lql : qi.length + 1 ≤ 7 := by rw [List.length_append, List.length_singleton] at qle; exact qle
      have hn := like_net (q := ql) (p := ⟨ql.nm, ql.st, ql.en, sp, if sp < ql.gap then sp else ql.gap⟩) rfl rfl rfl hNet
      have g6 := like_nm (q := ql) (p := ⟨ql.nm, ql.st, ql.en, sp, if sp < ql.gap then sp else ql.gap⟩) rfl rfl rfl hp2
      have g3 := like_path (q := ql) (p := ⟨ql.nm, ql.st, ql.en, sp, if sp < ql.gap then sp else ql.gap⟩) rfl rfl rfl hp2
      have h1 := h1.same t22
      have h2 := h2.same t22
      have hsg := hsg.same t22
      refine same_ac (K := K) (d := .int (ms1.length : Nat)) (ac_cons (ic_heardB (k := 0) (iw_var rfl h1) (iw_make (fb := true) (fq := false) (us := us2) (ms := ms2) (ac_cons (ic_var rfl (by rw [cutS_nil]; exact hmo)) (ac_cons (ic_var rfl (.str _)) (ac_cons (by rw [g6]; exact ic_var rfl (by rw [cutS_nil]; exact t22.dp hL2)) ac_nil))) hn hm1 g3 (by omega) (by rw [List.length_append, List.length_singleton]; omega) (by omega)) ic_int sh (okE_net hn ok1 (fun y hy => by
        rcases List.mem_append.mp hy with hy | hy
        · exact ok2 y (List.mem_append_left _ hy)
        · rw [List.mem_singleton.mp hy]
          exact ok2 ql (List.mem_append_right _ List.mem_cons_self))) (by omega) (.inl (eqv_room hsp.symm))) (ac_cons (icl (s17.trans t22) rfl) ac_nil)) trivial fun H23 s23 => ⟨_, rfl, iteF ?_⟩
      try dsimp only [tNext]
      have t23 := t22.trans s23
      have h1 := h1.same s23
      have h2 := h2.same s23
      have hsg := hsg.same s23
      clear hn g6 g3 hmo hr21 hD21 hrw
      -- no times
      refine asg_wy (iw_mul (k := 0) (iw_var rfl h1) ic_int G hw hp1 (by omega) (by decide) (fun z => absurd z (by decide))) fun H24 no s24 hno => ?_
      have hno : WayAt K C H24 no ws (qi ++ [ql]) w0 [] [] := hno
      try dsimp only [List.set]
      refine same_ac (K := K) (d := .list [stepsD (qi ++ [ql]) [], .tuple ((w0 :: []).map PyData.str), .int (costQ (qi ++ [ql]) []), .int (([] : List Mk).length : Nat)]) (ac_cons (ic_lst (ac_cons (iw_steps (iw_var rfl hno)) (ac_cons (iw_workers (iw_var rfl hno)) (ac_cons (iw_cost (iw_var rfl hno)) (ac_cons (ic_lenW rfl hno (by decide)) ac_nil)))) (by show 4 ≤ 1000; decide)) (ac_cons (ic_lst (ac_cons (ic_tup ac_nil (by show 0 ≤ 1000; decide)) (ac_cons (ic_tup (ac_cons (ic_var rfl (.str _)) ac_nil) (by show 1 ≤ 1000; decide)) (ac_cons ic_int (ac_cons ic_int ac_nil)))) (by show 4 ≤ 1000; decide)) ac_nil)) (okD_few (by show 4 ≤ 1000; decide) fun d hd => by
        simp only [List.mem_cons, List.not_mem_nil, or_false] at hd
        rcases hd with rfl | rfl | rfl | rfl
        · exact okD_steps (by decide)
        · exact okD_strs4 (by show 1 ≤ 1000; decide)
        · exact trivial
        · exact trivial) fun H25 s25 => ⟨_, rfl, iteF ?_⟩
      try dsimp only [tNext]
      have t25 := t23.trans (s24.trans s25)
      have h1 := h1.same (s24.trans s25)
      have h2 := h2.same (s24.trans s25)
      have hsg := hsg.same (s24.trans s25)
      -- the strange one is heard
      refine same_ac (K := K) (d := if wx = us1.getLastD w0 then .none else .int (ms1.length : Nat)) (ac_cons (by
        by_cases hc : wx = us1.getLastD w0
        · rw [if_pos hc]
          exact ic_heardA (k := 0) (iw_var rfl h1) (iw_var rfl hsg) ic_int hc G hw hp1 True.intro (by omega) (by decide)
        · rw [if_neg hc]
          exact ic_heardB (k := 0) (iw_var rfl h1) (iw_var rfl hsg) ic_int sh sh (by omega) (.inr fun z => hc z.symm)) (ac_cons (ic_ifC (c := decide (wx = us1.getLastD w0)) (tt_eqS (ic_atT 0 (iw_workers (iw_var rfl hsg)) rfl) (ic_var rfl (.str _))) (fun h => by
        rw [if_pos (of_decide_eq_true h)]
        exact ic_non) (fun h => by
        rw [if_neg (of_decide_eq_false h)]
        exact icl (s17.trans t25) rfl)) ac_nil)) (by split <;> exact trivial) fun H26 s26 => ⟨_, rfl, iteF ?_⟩
      try dsimp only [tNext]
      have t26 := t25.trans s26
      have h1 := h1.same s26
      have h2 := h2.same s26
      -- so many times
      refine for_of ?_
      refine .inl ?_
      refine (ic_lst (K := K) (S := []) (H0 := H26) (ac_cons ic_int (ac_cons ic_int (ac_cons ic_int (ac_cons ic_int ac_nil)))) (by show 4 ≤ 1000; decide)) H26 _ (fun _ _ e => e) Trk.nil fun H27 v27 s27 d27 => ?_
      rw [cutS_nil] at d27
      obtain ⟨l3, y3, rfl, hl3, hy3⟩ := Dp.seq_of (f := false) d27
      have e3 := dpa_ints_of (show DpAll K _ y3 (([0, 1, 2, 3] : List Int).map PyData.int) from hy3)
      subst e3
      refine ⟨l3, rfl, ⟨_, hl3⟩, ?_⟩
      have t27 := t26.trans s27
      refine forR_it (walk_list (xs := ([0, 1, 2, 3] : List Int).map V.int)) (fun j σ He => ∃ (y19 y20 y21 : Option V), σ = [some (.ref b), some (.int (0 + (i : Nat))), some (.ref a0), some (.str w0), some M1, some (.str (us1.getLastD w0)), some M2, some (.str (us2.getLastD (us1.getLastD w0))), some M3, some (.str (us3.getLastD (us2.getLastD (us1.getLastD w0)))), some (.ref one), some (.ref two), some (.ref three), some (.ref st), some mo, some (.ref z), some rw20, some (.int sp), some (.ref no), y19, y20, y21] ∧ Same H27 He) ⟨_, _, _, rfl, fun _ _ e => e⟩ (fun j σ He _ hh => ?_) (fun j y σ He He' hj hh hy => ?_) (fun σ He hh => ?_)
      · obtain ⟨_, _, _, _, s4⟩ := hh
        exact s4.sqL hl3
      · obtain ⟨y19, y20, y21, rfl, s4⟩ := hh
        obtain ⟨rfl, hv⟩ := hy
        obtain ⟨t, rfl, ht⟩ : ∃ t : Nat, y = .int (t : Nat) ∧ t ≤ 3 := by
          obtain ⟨z, hz, rfl⟩ := List.mem_map.mp (List.mem_of_getElem? hv)
          have : ∀ z ∈ ([0, 1, 2, 3] : List Int), ∃ t : Nat, z = (t : Nat) ∧ t ≤ 3 := by
            intro z hz
            simp only [List.mem_cons, List.not_mem_nil, or_false] at hz
            rcases hz with rfl | rfl | rfl | rfl
            · exact ⟨0, rfl, by decide⟩
            · exact ⟨1, rfl, by decide⟩
            · exact ⟨2, rfl, by decide⟩
            · exact ⟨3, rfl, by decide⟩
          obtain ⟨t, rfl, ht⟩ := this z hz
          exact ⟨t, rfl, ht⟩
        try dsimp only [List.set]
        have h1' := h1.same (s27.trans s4)
        refine asg_ic (K := K) (d := .bool (decide ((1 : Int) < (t : Nat)) && !decide (w0 = us1.getLastD w0))) (ic_and (ic_gt (ic_var rfl (.int _)) ic_int) (ic_neS (ic_var rfl (.str _)) (ic_var rfl (.str _)))) fun H28 op s28 hop => ?_
        cases hop
        try dsimp only [List.set]
        have hc : (decide ((1 : Int) < (t : Nat)) && !decide (w0 = us1.getLastD w0)) = decide (1 < t ∧ w0 ≠ us1.getLastD w0) := by
          rw [decide_eq_decide.mpr (show (1 : Int) < (t : Nat) ↔ 1 < t by omega), Bool.decide_and]
          congr 1
          exact (decide_not ..).symm
        rw [hc]
        refine same_ac (K := K) (d := if 1 < t ∧ w0 ≠ us1.getLastD w0 then .int (ms1.length : Nat) else .none) (ac_cons (ic_heardN (iw_var rfl (h1'.same s28)) (ic_var rfl (.int _)) G hw hp1 (by omega) (by omega)) (ac_cons (ic_ifC (c := decide (1 < t ∧ w0 ≠ us1.getLastD w0)) (fun H R e q => ⟨_, rfl, _, rfl, q H fun _ _ e => e⟩) (fun h => by
          rw [if_pos (of_decide_eq_true h)]
          exact icl ((s17.trans t27).trans (s4.trans s28)) rfl) (fun h => by
          rw [if_neg (of_decide_eq_false h)]
          exact ic_non)) ac_nil)) (by split <;> exact trivial) fun H29 s29 => ⟨_, rfl, iteF ?_⟩
        exact ⟨_, _, _, rfl, s4.trans (s28.trans s29)⟩
      · obtain ⟨y19, y20, y21, rfl, s4⟩ := hh
        have h1 := h1.same (s27.trans s4)
        have h2 := h2.same (s27.trans s4)
        have t28 := t27.trans s4
        dsimp only
        refine asg_of ?_
        refine ⟨_, rfl, ?_⟩
        try dsimp only [List.set]
        obtain ⟨dx, v1, v2, v3, v4, v5, g0, _⟩ := id h1.is
        obtain ⟨dy, u1, u2, u3, u4, u5, g1, _⟩ := id h2.is
        refine ⟨_, rfl, _, rfl, one, dx, _, two, dy, _, rfl, rfl, g0, g1, .inl ⟨one, two, ws, _, w0, us1, us2, ms1, ms2, rfl, h1, h2, hNet, hw, hp1, hp2, by omega, by omega, by omega, by omega, ok1, ok2, fun H29 sm s29 hsm => ⟨⟨sm, rfl⟩, ?_⟩⟩⟩
        try dsimp only [List.set]
        have h1 := h1.same s29
        have h2 := h2.same s29
        have t29 := t28.trans s29
        have eT : eqF ws (qi ++ [ql]) w0 (ms1 ++ ms2) ws (qi ++ [ql]) w0 (ms1 ++ ms2) = true := eqF_self sh (shN hp12)
        refine same_ac (K := K) (d := .list [stepsD (qi ++ [ql]) ms1, .tuple ((w0 :: us1).map PyData.str), .int (costQ (qi ++ [ql]) ms1), .bool true]) (ac_cons (by
          rw [← eT]
          exact ic_lst (ac_cons (iw_steps (iw_var rfl h1)) (ac_cons (iw_workers (iw_var rfl h1)) (ac_cons (iw_cost (iw_var rfl h1)) (ac_cons (iw_eq (iw_var rfl hsm) (iw_add (iw_var rfl h1) (iw_var rfl h2) rfl G hw hp1 hp2 (by omega) (by omega)) sh sh (shN hp12) (shN hp12)) ac_nil)))) (by show 4 ≤ 1000; decide)) (ac_cons (ic_nw (nw_cat (rd_var rfl (t29 _ _ hst) (by rw [cutS_nil]; exact t29.dpa hdst)) (rd_nw (nw_lst (ac_cons ic_bl ac_nil) (by show 1 ≤ 1000; decide))) (by show 3 + 1 ≤ 1000; decide))) ac_nil)) (okD_few (by show 4 ≤ 1000; decide) fun d hd => by
          simp only [List.mem_cons, List.not_mem_nil, or_false] at hd
          rcases hd with rfl | rfl | rfl | rfl
          · exact okD_steps (by omega)
          · exact okD_strs4 (by rw [List.length_cons]; omega)
          · exact trivial
          · exact trivial) fun H30 s30 => ⟨_, rfl, iteF ?_⟩
        have t30 := t29.trans s30
        exact ⟨_, _, _, _, _, _, _, _, _, _, _, _, _, _, _, _, _, _, _, _, _, bx7, rfl, t30 _ _ hb17, hB7.mono (by omega), sc3.trans (cutS_mono t30)⟩
    · obtain ⟨x1, x2, x3, x4, x5, x6, x7, x8, x9, x10, x11, x12, x13, x14, x15, x16, x17, x18, x19, x20, x21, bx, rfl, hb, hB, sc⟩ := hh
      exact q Hc fun a o ha => cutS_le _ _ (sc _ _ ha)
end
end Jl

set_option Elab.async false
set_option linter.all false
set_option maxRecDepth 100000
set_option maxHeartbeats 4000000
set_option pp.maxSteps 900
namespace Jl
open PySem PySem.Spec PyProof.Rows L2
open Evl (sz_of sz_lt)
local macro_rules | `(tactic| walk_at "at") => `(tactic| first | exact box0 | exact box1 | exact box2)
local macro_rules | `(tactic| walk_at "sq") => `(tactic| first | (show SqL _ _ _ _; assumption) | (show SqT _ _ _ _; assumption) | (show _ = some _; assumption))
local macro_rules | `(tactic| walk_at "side") => `(tactic| first
  | (show (0 : Int) < _; decide)
  | (show (0 : Int) < _; omega)
  | exact ⟨by decide, by decide, by decide⟩
  | exact sz_of (Nat.le_of_ble_eq_true rfl)
  | exact rfl
  | exact Or.inl (by decide)
  | exact Or.inr (by decide)
  | exact Or.inr ⟨by omega, by omega⟩
  | exact Or.inl ⟨by omega, by omega⟩
  | exact ⟨by decide, by decide +kernel⟩)
local macro_rules | `(tactic| walk_at "ev1") => `(tactic| first
  | refine ⟨_, rfl, ?_⟩
  | refine ⟨_, _, rfl, rfl, ?_⟩
  | refine ⟨_, _, _, _, rfl, rfl, (by walk_at "sq"), (by walk_at "at"), ?_⟩
  | refine ⟨_, _, rfl, (by walk_at "sq"), ?_⟩
  | refine ⟨_, _, rfl, Or.inl (by walk_at "sq"), ?_⟩
  | refine ⟨_, _, rfl, Or.inr (by walk_at "sq"), ?_⟩
  | refine Or.inl ⟨_, rfl, ?_⟩
  | refine Or.inr ⟨_, rfl, ?_⟩
  | refine ⟨(by walk_at "side"), ?_⟩
  | refine ⟨.inl ⟨rfl, _, (by walk_at "sq")⟩, ?_⟩
  | refine ⟨_, _, rfl, ?_⟩)
local macro_rules | `(tactic| walk_at "nrm") => `(tactic| dsimp only [tNil, tCons, tC, tCB])
local macro_rules | `(tactic| walk_at "ev") => `(tactic| repeat (walk_at "ev1"))

abbrev sc_law_N : List Str := ["_law_script", "_law_cells_here", "_law_k"]
abbrev s_law : Stmt := topS 24
theorem sc_law : FnScope ["_law_script", "_law_cells_here", "_law_k"] ["_law_script"] (defScope s_law) := ⟨rfl, rfl, rfl, by decide +kernel, rfl, by decide +kernel, by decide +kernel⟩
theorem ne_of_none {H : Hp} {a c : Addr} {o : HO} (h : H a = some o) (hc : H c = none) : a ≠ c := fun z => by
  rw [z, hc] at h
  cases h
section
variable {P : Program} {w : World} {K : PySem.W.Frag} {mg : Str → Option Value} {base : Heap}
def spLaw (K : PySem.W.Frag) : Sp := fun vs H Q _ => ∃ (a : Addr) (ns : List Int), vs = [.ref a] ∧ SqL K H a (ns.map V.int) ∧ ns.length ≤ 63 ∧ ∀ H', Q (.bl true) H'
theorem ok_law {f fC fB fR : Addr} {fd fdC fdB fdR : FuncData} {k : Nat} (F : Fun K "law" "law" s_law f fd)
    (G_w_cells : FnOk P w K mg base CX0 k fC fdC ["_law_script", "_law_most"] (spCells K)) (g_w_cells : mg "_law_cells" = some (.ref fC)) (F_w_cells : Fun K "_law_cells" "_law_cells" s_w_cells fC fdC) (b_w_cells : Binds K fdC ["_law_script", "_law_most"] [])
    (G_w_box : FnOk P w K mg base CX0 k fB fdB ["_law_script", "_law_k"] (spBox K)) (g_w_box : mg "_law_box" = some (.ref fB)) (F_w_box : Fun K "_law_box" "_law_box" s_w_box fB fdB) (b_w_box : Binds K fdB ["_law_script", "_law_k"] [])
    (G_w_right : FnOk P w K mg base CX0 k fR fdR ["_law_box_here"] (spRight K)) (g_w_right : mg "_law_right" = some (.ref fR)) (F_w_right : Fun K "_law_right" "_law_right" s_w_right fR fdR) (b_w_right : Binds K fdR ["_law_box_here"] [])
    (m_all : mg "all" = none) (m_range : mg "range" = none) (m_len : mg "len" = none) : FnOk P w K mg base CX0 (k + 1) f fd ["_law_script"] (spLaw K) := by
  refine F.ok sc_law (fun vs H Q E h => ?_) (fun cdv A outer s0 H vs Q E hr h => ?_)
  · obtain ⟨a, ns, rfl, _⟩ := h
    rfl
  · obtain ⟨a, ns, rfl, hS, hn, q⟩ := h
    refine ⟨_, (pss_cons (ps_set (i := 1) sc_law.nd rfl (Or.inr rfl) (pe_call G_w_cells hr (by rfl) g_w_cells F_w_cells.kp b_w_cells .nil pass0 (pa_cons (pv 0) (pa_cons pe_int pa_nil)))) 
    (pss_one (ps_ret (pe_callB (cr_all rfl) (by rfl) m_all (by decide +kernel) (pa_cons (pe_lcX (pe_lc (own := [("_law_k", 2)]) (g := gName 2) (tt := tYes) (by rfl) sc_law.nd (pi_range1 (by rfl) m_range (pa_cons (pe_callB call_len_seq (by rfl) m_len PySem.boot_len (pa_cons (pv 1) pa_nil)) pa_nil)) (blkOk_by (own := [("_law_k", 2)]) (N := sc_law_N) (sc := defScope s_law) (by decide +kernel)) (fun _ _ _ _ _ => pg_name (i := 2) sc_law.nd rfl (Or.inl rfl)) (fun _ _ _ _ _ => pts_nil) (fun _ _ _ _ _ => (pe_call G_w_right hr (by rfl) g_w_right F_w_right.kp b_w_right .nil pass0 (pa_cons (pe_call G_w_box hr (by rfl) g_w_box F_w_box.kp b_w_box .nil pass0 (pa_cons (pv 1) (pa_cons (pv 2) pa_nil))) pa_nil))))) pa_nil))))), ?_⟩
    walk_at "ev"
    refine ⟨a, ns, 3, rfl, hS, hn, by decide, by decide, fun H1 p cs s1 hp hp1 hl => ?_⟩
    have hq1 : SqL K H1 p (cs.map V.int) := sql_of hp1
    walk_at "ev"
    refine lc_of ?_
    walk_at "ev"
    rw [List.length_map]
    refine ⟨by omega, by omega, ?_⟩
    rw [Int.toNat_natCast]
    intro D hD
    refine lc_it (walk_range (lo := 0) (n := cs.length)) (fun i H' => H' p = some (.lst (cs.map V.int)) ∧ H' D = some (.lst ((List.replicate i true).map V.bl))) ⟨(Same.upd hD) _ _ hp1, upd_same⟩ (fun _ _ _ _ => trivial) (fun i x H' H'' hi hh y => ?_) (fun H' hh => ?_)
    · obtain ⟨h1, h2⟩ := hh
      obtain ⟨rfl, hv⟩ := y
      have hv : x = .int (0 + (i : Int)) := hv
      rw [Int.zero_add] at hv
      subst hv
      refine ⟨rfl, ?_⟩
      dsimp only [tYes]
      rw [if_pos rfl]
      walk_at "ev"
      refine ⟨p, cs, i, rfl, sql_of h1, by omega, by omega, fun b c0 c1 hb k0 k1 k2 => ?_⟩
      walk_at "ev"
      refine ⟨b, _, 0, rfl, upd_same, ⟨c0, c1, 0, rfl, k0, k1, k2, by decide, by decide⟩, by decide, fun H3 s3 => ?_⟩
      have npb : p ≠ b := ne_of_none h1 hb
      have nDb : D ≠ b := ne_of_none h2 hb
      have g1 : H3 p = some (.lst (cs.map V.int)) := s3 _ _ (by rw [cutS_out (not1 npb), upd_ne npb]; exact h1)
      have g2 : H3 D = some (.lst ((List.replicate i true).map V.bl)) := s3 _ _ (by rw [cutS_out (not1 nDb), upd_ne nDb]; exact h2)
      have nDp : p ≠ D := ne_of_none hp1 hD
      refine ⟨_, g2, by rw [List.length_map, List.length_replicate]; exact sz_lt (by omega), ?_, ?_⟩
      · rw [upd_ne nDp]
        exact g1
      · rw [upd_same, List.replicate_succ', List.map_append]
        rfl
    · obtain ⟨h1, h2⟩ := hh
      refine ⟨D, _, rfl, sql_of h2, ?_⟩
      have e : (List.replicate cs.length true).all id = true := by
        rw [List.all_eq_true]
        exact fun b hb => List.eq_of_mem_replicate hb
      rw [e]
      exact q _
end
end Jl

set_option Elab.async false
set_option linter.all false
set_option maxRecDepth 100000
set_option maxHeartbeats 4000000
set_option pp.maxSteps 40
namespace Jl
open PySem PySem.Spec PyProof.Rows L2
open Evl (sz_of sz_lt)
local macro_rules | `(tactic| walk_at "at") => `(tactic| first | exact box0 | exact box1 | exact box2)
local macro_rules | `(tactic| walk_at "sq") => `(tactic| first | (show SqL _ _ _ _; assumption) | (show SqT _ _ _ _; assumption) | (show _ = some _; assumption))
local macro_rules | `(tactic| walk_at "side") => `(tactic| first
  | (show (0 : Int) < _; decide)
  | (show (0 : Int) < _; omega)
  | exact ⟨by decide, by decide, by decide⟩
  | exact sz_of (Nat.le_of_ble_eq_true rfl)
  | exact rfl
  | exact Or.inl (by decide)
  | exact Or.inr (by decide)
  | exact Or.inr ⟨by omega, by omega⟩
  | exact Or.inl ⟨by omega, by omega⟩
  | exact ⟨by decide, by decide +kernel⟩)
local macro_rules | `(tactic| walk_at "ev1") => `(tactic| first
  | refine ⟨_, rfl, ?_⟩
  | refine ⟨_, _, rfl, rfl, ?_⟩
  | refine ⟨_, _, _, _, rfl, rfl, (by walk_at "sq"), (by walk_at "at"), ?_⟩
  | refine ⟨_, _, rfl, (by walk_at "sq"), ?_⟩
  | refine ⟨_, _, rfl, Or.inl (by walk_at "sq"), ?_⟩
  | refine ⟨_, _, rfl, Or.inr (by walk_at "sq"), ?_⟩
  | refine Or.inl ⟨_, rfl, ?_⟩
  | refine Or.inr ⟨_, rfl, ?_⟩
  | refine ⟨(by walk_at "side"), ?_⟩
  | refine ⟨.inl ⟨rfl, _, (by walk_at "sq")⟩, ?_⟩
  | refine ⟨_, _, rfl, ?_⟩)
local macro_rules | `(tactic| walk_at "nrm") => `(tactic| dsimp only [tNil, tCons, tC, tCB])
local macro_rules | `(tactic| walk_at "ev") => `(tactic| repeat (walk_at "ev1"))

theorem all_mk {l : PySem.W.OpenLaw} {w : World} {K : PySem.W.Frag} {h : Heap} {mg : Str → Option Value} {fa C_Way C_NoQueue C_NoStep C_NoWorker f1 f2 f3 f4 f5 f6 f7 f8 f9 f10 f11 f12 f13 f14 f15 f16 f17 f18 f19 f20 f21 f22 f23 f24 f25 f26 : Addr} (X : K.In h) (G : h.Ns mainGlobals mg) (hfa : mg "law" = some (.ref fa))
    {od1 an1 od2 an2 od3 an3 od4 an4 od5 an5 od6 an6 od7 an7 od8 an8 od9 an9 od10 an10 od11 an11 od12 an12 od13 an13 od14 an14 od15 an15 od16 an16 od17 an17 od18 an18 od19 an19 od20 an20 od21 an21 od22 an22 od23 an23 od24 an24 od25 an25 od26 an26 : Option Addr} {sl1 sl2 sl3 sl4 sl5 sl6 sl7 sl8 sl9 sl10 sl11 sl12 sl13 sl14 sl15 sl16 sl17 sl18 sl19 sl20 sl21 sl22 sl23 sl24 sl25 sl26 : Array (Option Value)} {oc1 kV1 dc1 pm1 cd1 ct1 oc2 kV2 dc2 pm2 cd2 ct2 oc3 kV3 dc3 pm3 cd3 ct3 oc4 kV4 dc4 pm4 cd4 ct4 oc5 kV5 dc5 pm5 cd5 ct5 oc6 kV6 dc6 pm6 cd6 ct6 oc7 kV7 dc7 pm7 cd7 ct7 oc8 kV8 dc8 pm8 cd8 ct8 oc9 kV9 dc9 pm9 cd9 ct9 oc10 kV10 dc10 pm10 cd10 ct10 oc11 kV11 dc11 pm11 cd11 ct11 oc12 kV12 dc12 pm12 cd12 ct12 oc13 kV13 dc13 pm13 cd13 ct13 oc14 kV14 dc14 pm14 cd14 ct14 oc15 kV15 dc15 pm15 cd15 ct15 oc16 kV16 dc16 pm16 cd16 ct16 oc17 kV17 dc17 pm17 cd17 ct17 oc18 kV18 dc18 pm18 cd18 ct18 oc19 kV19 dc19 pm19 cd19 ct19 oc20 kV20 dc20 pm20 cd20 ct20 oc21 kV21 dc21 pm21 cd21 ct21 oc22 kV22 dc22 pm22 cd22 ct22 oc23 kV23 dc23 pm23 cd23 ct23 oc24 kV24 dc24 pm24 cd24 ct24 oc25 kV25 dc25 pm25 cd25 ct25 oc26 kV26 dc26 pm26 cd26 ct26 : Value}
    (a1 : PySem.W.nsIn K mainGlobals "frozen" = some (some (.ref f1))) (l1 : K.lookup f1 = some ⟨oc1, od1, .func (PySem.W.fnOf "frozen" "frozen" (defArgs s_frozen) (defBody s_frozen) (defScope s_frozen) .none kV1 dc1 pm1 an1 cd1 ct1), sl1⟩) (c1 : PySem.W.codeIn K cd1 "frozen" = true) (k1 : PySem.W.keepIn K (.ref f1) = true)
    (a2 : PySem.W.nsIn K mainGlobals "check_worker" = some (some (.ref f2))) (l2 : K.lookup f2 = some ⟨oc2, od2, .func (PySem.W.fnOf "check_worker" "check_worker" (defArgs s_check_worker) (defBody s_check_worker) (defScope s_check_worker) .none kV2 dc2 pm2 an2 cd2 ct2), sl2⟩) (c2 : PySem.W.codeIn K cd2 "check_worker" = true) (k2 : PySem.W.keepIn K (.ref f2) = true)
    (a3 : PySem.W.nsIn K mainGlobals "step_over" = some (some (.ref f3))) (l3 : K.lookup f3 = some ⟨oc3, od3, .func (PySem.W.fnOf "step_over" "step_over" (defArgs s_step_over) (defBody s_step_over) (defScope s_step_over) .none kV3 dc3 pm3 an3 cd3 ct3), sl3⟩) (c3 : PySem.W.codeIn K cd3 "step_over" = true) (k3 : PySem.W.keepIn K (.ref f3) = true)
    (a4 : PySem.W.nsIn K mainGlobals "_law_box" = some (some (.ref f4))) (l4 : K.lookup f4 = some ⟨oc4, od4, .func (PySem.W.fnOf "_law_box" "_law_box" (defArgs s_w_box) (defBody s_w_box) (defScope s_w_box) .none kV4 dc4 pm4 an4 cd4 ct4), sl4⟩) (c4 : PySem.W.codeIn K cd4 "_law_box" = true) (k4 : PySem.W.keepIn K (.ref f4) = true)
    (a5 : PySem.W.nsIn K mainGlobals "_law_take" = some (some (.ref f5))) (l5 : K.lookup f5 = some ⟨oc5, od5, .func (PySem.W.fnOf "_law_take" "_law_take" (defArgs s_w_take) (defBody s_w_take) (defScope s_w_take) .none kV5 dc5 pm5 an5 cd5 ct5), sl5⟩) (c5 : PySem.W.codeIn K cd5 "_law_take" = true) (k5 : PySem.W.keepIn K (.ref f5) = true)
    (a6 : PySem.W.nsIn K mainGlobals "_law_cells" = some (some (.ref f6))) (l6 : K.lookup f6 = some ⟨oc6, od6, .func (PySem.W.fnOf "_law_cells" "_law_cells" (defArgs s_w_cells) (defBody s_w_cells) (defScope s_w_cells) .none kV6 dc6 pm6 an6 cd6 ct6), sl6⟩) (c6 : PySem.W.codeIn K cd6 "_law_cells" = true) (k6 : PySem.W.keepIn K (.ref f6) = true)
    (a7 : PySem.W.nsIn K mainGlobals "_law_of" = some (some (.ref f7))) (l7 : K.lookup f7 = some ⟨oc7, od7, .func (PySem.W.fnOf "_law_of" "_law_of" (defArgs s_w_of) (defBody s_w_of) (defScope s_w_of) .none kV7 dc7 pm7 an7 cd7 ct7), sl7⟩) (c7 : PySem.W.codeIn K cd7 "_law_of" = true) (k7 : PySem.W.keepIn K (.ref f7) = true)
    (a8 : PySem.W.nsIn K mainGlobals "_law_pick" = some (some (.ref f8))) (l8 : K.lookup f8 = some ⟨oc8, od8, .func (PySem.W.fnOf "_law_pick" "_law_pick" (defArgs s_w_pick) (defBody s_w_pick) (defScope s_w_pick) .none kV8 dc8 pm8 an8 cd8 ct8), sl8⟩) (c8 : PySem.W.codeIn K cd8 "_law_pick" = true) (k8 : PySem.W.keepIn K (.ref f8) = true)
    (a9 : PySem.W.nsIn K mainGlobals "_law_same" = some (some (.ref f9))) (l9 : K.lookup f9 = some ⟨oc9, od9, .func (PySem.W.fnOf "_law_same" "_law_same" (defArgs s_w_same) (defBody s_w_same) (defScope s_w_same) .none kV9 dc9 pm9 an9 cd9 ct9), sl9⟩) (c9 : PySem.W.codeIn K cd9 "_law_same" = true) (k9 : PySem.W.keepIn K (.ref f9) = true)
    (a10 : PySem.W.nsIn K mainGlobals "_law_web" = some (some (.ref f10))) (l10 : K.lookup f10 = some ⟨oc10, od10, .func (PySem.W.fnOf "_law_web" "_law_web" (defArgs s_w_web) (defBody s_w_web) (defScope s_w_web) .none kV10 dc10 pm10 an10 cd10 ct10), sl10⟩) (c10 : PySem.W.codeIn K cd10 "_law_web" = true) (k10 : PySem.W.keepIn K (.ref f10) = true)
    (a11 : PySem.W.nsIn K mainGlobals "_law_marks" = some (some (.ref f11))) (l11 : K.lookup f11 = some ⟨oc11, od11, .func (PySem.W.fnOf "_law_marks" "_law_marks" (defArgs s_w_marks) (defBody s_w_marks) (defScope s_w_marks) .none kV11 dc11 pm11 an11 cd11 ct11), sl11⟩) (c11 : PySem.W.codeIn K cd11 "_law_marks" = true) (k11 : PySem.W.keepIn K (.ref f11) = true)
    (a12 : PySem.W.nsIn K mainGlobals "_law_heard" = some (some (.ref f12))) (l12 : K.lookup f12 = some ⟨oc12, od12, .func (PySem.W.fnOf "_law_heard" "_law_heard" (defArgs s_w_heard) (defBody s_w_heard) (defScope s_w_heard) .none kV12 dc12 pm12 an12 cd12 ct12), sl12⟩) (c12 : PySem.W.codeIn K cd12 "_law_heard" = true) (k12 : PySem.W.keepIn K (.ref f12) = true)
    (a13 : PySem.W.nsIn K mainGlobals "_law_turned" = some (some (.ref f13))) (l13 : K.lookup f13 = some ⟨oc13, od13, .func (PySem.W.fnOf "_law_turned" "_law_turned" (defArgs s_w_turned) (defBody s_w_turned) (defScope s_w_turned) .none kV13 dc13 pm13 an13 cd13 ct13), sl13⟩) (c13 : PySem.W.codeIn K cd13 "_law_turned" = true) (k13 : PySem.W.keepIn K (.ref f13) = true)
    (a14 : PySem.W.nsIn K mainGlobals "_law_pair_right" = some (some (.ref f14))) (l14 : K.lookup f14 = some ⟨oc14, od14, .func (PySem.W.fnOf "_law_pair_right" "_law_pair_right" (defArgs s_w_pair_right) (defBody s_w_pair_right) (defScope s_w_pair_right) .none kV14 dc14 pm14 an14 cd14 ct14), sl14⟩) (c14 : PySem.W.codeIn K cd14 "_law_pair_right" = true) (k14 : PySem.W.keepIn K (.ref f14) = true)
    (a15 : PySem.W.nsIn K mainGlobals "_law_right" = some (some (.ref f15))) (l15 : K.lookup f15 = some ⟨oc15, od15, .func (PySem.W.fnOf "_law_right" "_law_right" (defArgs s_w_right) (defBody s_w_right) (defScope s_w_right) .none kV15 dc15 pm15 an15 cd15 ct15), sl15⟩) (c15 : PySem.W.codeIn K cd15 "_law_right" = true) (k15 : PySem.W.keepIn K (.ref f15) = true)
    (a16 : PySem.W.nsIn K mainGlobals "law" = some (some (.ref f16))) (l16 : K.lookup f16 = some ⟨oc16, od16, .func (PySem.W.fnOf "law" "law" (defArgs s_law) (defBody s_law) (defScope s_law) .none kV16 dc16 pm16 an16 cd16 ct16), sl16⟩) (c16 : PySem.W.codeIn K cd16 "law" = true) (k16 : PySem.W.keepIn K (.ref f16) = true)
    (a17 : PySem.W.findIn K (.ref C_Way) "cost" = some (some (.ref f17))) (i17 : PySem.W.isFn K (.ref f17) = true) (l17 : K.lookup f17 = some ⟨oc17, od17, .func (PySem.W.fnOf "cost" "Way.cost" (defArgs s_Way_cost) (defBody s_Way_cost) (defScope s_Way_cost) .none kV17 dc17 pm17 an17 cd17 ct17), sl17⟩) (c17 : PySem.W.codeIn K cd17 "Way.cost" = true) (k17 : PySem.W.keepIn K (.ref f17) = true)
    (a18 : PySem.W.findIn K (.ref C_Way) "__init__" = some (some (.ref f18))) (i18 : PySem.W.isFn K (.ref f18) = true) (l18 : K.lookup f18 = some ⟨oc18, od18, .func (PySem.W.fnOf "__init__" "Way.__init__" (defArgs s_Way_init) (defBody s_Way_init) (defScope s_Way_init) .none kV18 dc18 pm18 an18 cd18 ct18), sl18⟩) (c18 : PySem.W.codeIn K cd18 "Way.__init__" = true) (k18 : PySem.W.keepIn K (.ref f18) = true)
    (a19 : PySem.W.findIn K (.ref C_NoStep) "__init__" = some (some (.ref f19))) (i19 : PySem.W.isFn K (.ref f19) = true) (l19 : K.lookup f19 = some ⟨oc19, od19, .func (PySem.W.fnOf "__init__" "NoStep.__init__" (defArgs s_NoStep_init) (defBody s_NoStep_init) (defScope s_NoStep_init) .none kV19 dc19 pm19 an19 cd19 ct19), sl19⟩) (c19 : PySem.W.codeIn K cd19 "NoStep.__init__" = true) (k19 : PySem.W.keepIn K (.ref f19) = true)
    (a20 : PySem.W.findIn K (.ref C_Way) "workers" = some (some (.ref f20))) (i20 : PySem.W.isFn K (.ref f20) = true) (l20 : K.lookup f20 = some ⟨oc20, od20, .func (PySem.W.fnOf "workers" "Way.workers" (defArgs s_Way_workers) (defBody s_Way_workers) (defScope s_Way_workers) .none kV20 dc20 pm20 an20 cd20 ct20), sl20⟩) (c20 : PySem.W.codeIn K cd20 "Way.workers" = true) (k20 : PySem.W.keepIn K (.ref f20) = true)
    (a21 : PySem.W.findIn K (.ref C_Way) "__add__" = some (some (.ref f21))) (i21 : PySem.W.isFn K (.ref f21) = true) (l21 : K.lookup f21 = some ⟨oc21, od21, .func (PySem.W.fnOf "__add__" "Way.__add__" (defArgs s_Way_add) (defBody s_Way_add) (defScope s_Way_add) .none kV21 dc21 pm21 an21 cd21 ct21), sl21⟩) (c21 : PySem.W.codeIn K cd21 "Way.__add__" = true) (k21 : PySem.W.keepIn K (.ref f21) = true)
    (a22 : PySem.W.findIn K (.ref C_Way) "__neg__" = some (some (.ref f22))) (i22 : PySem.W.isFn K (.ref f22) = true) (l22 : K.lookup f22 = some ⟨oc22, od22, .func (PySem.W.fnOf "__neg__" "Way.__neg__" (defArgs s_Way_neg) (defBody s_Way_neg) (defScope s_Way_neg) .none kV22 dc22 pm22 an22 cd22 ct22), sl22⟩) (c22 : PySem.W.codeIn K cd22 "Way.__neg__" = true) (k22 : PySem.W.keepIn K (.ref f22) = true)
    (a23 : PySem.W.findIn K (.ref C_Way) "__mul__" = some (some (.ref f23))) (i23 : PySem.W.isFn K (.ref f23) = true) (l23 : K.lookup f23 = some ⟨oc23, od23, .func (PySem.W.fnOf "__mul__" "Way.__mul__" (defArgs s_Way_mul) (defBody s_Way_mul) (defScope s_Way_mul) .none kV23 dc23 pm23 an23 cd23 ct23), sl23⟩) (c23 : PySem.W.codeIn K cd23 "Way.__mul__" = true) (k23 : PySem.W.keepIn K (.ref f23) = true)
    (a24 : PySem.W.findIn K (.ref C_Way) "steps" = some (some (.ref f24))) (i24 : PySem.W.isFn K (.ref f24) = true) (l24 : K.lookup f24 = some ⟨oc24, od24, .func (PySem.W.fnOf "steps" "Way.steps" (defArgs s_Way_steps) (defBody s_Way_steps) (defScope s_Way_steps) .none kV24 dc24 pm24 an24 cd24 ct24), sl24⟩) (c24 : PySem.W.codeIn K cd24 "Way.steps" = true) (k24 : PySem.W.keepIn K (.ref f24) = true)
    (a25 : PySem.W.findIn K (.ref C_Way) "__len__" = some (some (.ref f25))) (i25 : PySem.W.isFn K (.ref f25) = true) (l25 : K.lookup f25 = some ⟨oc25, od25, .func (PySem.W.fnOf "__len__" "Way.__len__" (defArgs s_Way_len) (defBody s_Way_len) (defScope s_Way_len) .none kV25 dc25 pm25 an25 cd25 ct25), sl25⟩) (c25 : PySem.W.codeIn K cd25 "Way.__len__" = true) (k25 : PySem.W.keepIn K (.ref f25) = true)
    (a26 : PySem.W.findIn K (.ref C_Way) "__eq__" = some (some (.ref f26))) (i26 : PySem.W.isFn K (.ref f26) = true) (l26 : K.lookup f26 = some ⟨oc26, od26, .func (PySem.W.fnOf "__eq__" "Way.__eq__" (defArgs s_Way_eq) (defBody s_Way_eq) (defScope s_Way_eq) .none kV26 dc26 pm26 an26 cd26 ct26), sl26⟩) (c26 : PySem.W.codeIn K cd26 "Way.__eq__" = true) (k26 : PySem.W.keepIn K (.ref f26) = true)
    (aC_Way : PySem.W.nsIn K mainGlobals "Way" = some (some (.ref C_Way))) (pg_Way : PySem.W.plainGet K C_Way Str.empty = true) (hd_Way : PySem.W.hasDictIn K C_Way = true) (po_Way : PySem.W.plainOver K C_Way = true) (sa_Way : PySem.W.findIn K (.ref C_Way) "__setattr__" = some (some (.builtin "object.__setattr__"))) (mk_Way : PySem.W.makesIn K C_Way = true) (kc_Way : PySem.W.keepIn K (.ref C_Way) = true)
    (nF1_Way : PySem.W.findIn K (.ref C_Way) "_net" = some none) (nF2_Way : PySem.W.findIn K (.ref C_Way) "_queues" = some none) (nF3_Way : PySem.W.findIn K (.ref C_Way) "_steps" = some none) (nF4_Way : PySem.W.findIn K (.ref C_Way) "_workers" = some none) (nF5_Way : PySem.W.findIn K (.ref C_Way) "_costs" = some none)
    {fo_Way ro_Way : Option Value}
    (xO_sf_Way : PySem.W.selfFirst K C_Way = true) (xO_rm_Way : PySem.W.findIn K (.ref C_Way) (dunderR Operator.Mult.info.2) = some none) (xO_im_Way : PySem.W.findIn K (.type "int") (PySem.dunder Operator.Mult.info.2) = some fo_Way) (xO_ir_Way : PySem.W.findIn K (.type "int") (dunderR Operator.Mult.info.2) = some ro_Way) (xO_ns_Way : PySem.W.subIn K (.type "int") (.ref C_Way) = some false)
    (xQ_ci_Way : PySem.W.isClsIn K C_Way = true) (xQ_ti_Way : PySem.W.typeIn K (.ref C_Way) = some (.type "type")) (xQ_si_Way : PySem.W.subIn K (.type "int") (.ref C_Way) = some false) (xQ_st_Way : PySem.W.subIn K (.type "tuple") (.ref C_Way) = some false) (xQ_sl_Way : PySem.W.subIn K (.type "list") (.ref C_Way) = some false) (xQ_ne_Way : PySem.W.findIn K (.ref C_Way) "__ne__" = some (some (.builtin "object.__ne__"))) (xQ_mo_Way : PySem.W.mroIn K C_Way (.type "object") = some true)
    {ocI_Way : Value} {odI_Way : Option Addr} {cdI_Way : ClassData} {slI_Way : Array (Option Value)}
    (xI_cl_Way : K.lookup C_Way = some ⟨ocI_Way, odI_Way, .cls cdI_Way, slI_Way⟩) (xI_mr_Way : cdI_Way.mro = [.ref C_Way, .type "object"]) (xI_na_Way : PySem.W.findIn K (.ref C_Way) (dunderI Operator.Add.info.2) = some none) (xI_nm_Way : PySem.W.findIn K (.ref C_Way) (dunderI Operator.Mult.info.2) = some none) (xI_oa_Way : PySem.W.findIn K (.type "object") (dunderI Operator.Add.info.2) = some none) (xI_om_Way : PySem.W.findIn K (.type "object") (dunderI Operator.Mult.info.2) = some none)
    (xIC_ha_Way : PySem.W.findIn K (.ref C_Way) "__class__" = some (some (.builtin "object.__class__"))) (xIC_hn_Way : PySem.W.specialIn K (.builtin "object.__class__") "__get__" = some (some (.builtin "getset_descriptor.__get__"))) (xIC_htk_Way : PySem.W.takesIn K (.builtin "object.__class__") = some true) (xIC_hm_Way : PySem.W.mroIn K C_Way (.type "object") = some true)
    (aC_NoQueue : PySem.W.nsIn K mainGlobals "NoQueue" = some (some (.ref C_NoQueue)))
    (xc1_NoQueue : PySem.W.isClsIn K C_NoQueue = true)
    (xc2_NoQueue : PySem.W.typeIn K (.ref C_NoQueue) = some (.type "type"))
    (xc3_NoQueue : PySem.W.subIn K (.ref C_NoQueue) (.type "BaseException") = some true)
    (aC_NoStep : PySem.W.nsIn K mainGlobals "NoStep" = some (some (.ref C_NoStep)))
    (xb1_NoStep : PySem.W.excInitIn K C_NoStep [.type "ValueError", .type "Exception", .type "BaseException", .type "object"] "ValueError.__new__" = true)
    (xb2_NoStep : PySem.W.hasDictIn K C_NoStep = true)
    (xb3_NoStep : PySem.W.findIn K (.ref C_NoStep) "__setattr__" = some (some (.builtin "object.__setattr__")))
    (xb4_NoStep : PySem.W.subIn K (.ref C_NoStep) (.type "BaseException") = some true)
    (xb5_NoStep : PySem.W.typeIn K (.ref C_NoStep) = some (.type "type"))
    (xb6_NoStep : PySem.W.keepIn K (.ref C_NoStep) = true)
    (xi1_NoStep : PySem.W.isClsIn K C_NoStep = true)
    (xi2_NoStep : PySem.W.findIn K (.ref C_NoStep) "__getattribute__" = some (some (.builtin "BaseException.__getattribute__")))
    (xi3_NoStep : PySem.W.findIn K (.ref C_NoStep) "__getattr__" = some none)
    (xi4_NoStep : PySem.W.subIn K (.ref C_NoStep) (.type "BaseException") = some true)
    (xi5_NoStep : PySem.W.hasDictIn K C_NoStep = true)
    (xi6_NoStep : PySem.W.findIn K (.ref C_NoStep) "__class__" = some (some (.builtin "object.__class__")))
    (xi7_NoStep : PySem.W.specialIn K (.builtin "object.__class__") "__get__" = some (some (.builtin "getset_descriptor.__get__")))
    (xi8_NoStep : PySem.W.takesIn K (.builtin "object.__class__") = some true)
    (xi9_NoStep : PySem.W.mroIn K C_NoStep (.type "object") = some true)
    (xc1_NoStep : PySem.W.isClsIn K C_NoStep = true)
    (xc2_NoStep : PySem.W.typeIn K (.ref C_NoStep) = some (.type "type"))
    (xc3_NoStep : PySem.W.subIn K (.ref C_NoStep) (.type "BaseException") = some true)
    (nf_NoStep_place : PySem.W.findIn K (.ref C_NoStep) "place" = some none)
    (aC_NoWorker : PySem.W.nsIn K mainGlobals "NoWorker" = some (some (.ref C_NoWorker)))
    (xc1_NoWorker : PySem.W.isClsIn K C_NoWorker = true)
    (xc2_NoWorker : PySem.W.typeIn K (.ref C_NoWorker) = some (.type "type"))
    (xc3_NoWorker : PySem.W.subIn K (.ref C_NoWorker) (.type "BaseException") = some true)
    (sub_NoStep_NoQueue : PySem.W.subIn K (.ref C_NoStep) (.ref C_NoQueue) = some false)
    (sub_NoStep_NoStep : PySem.W.subIn K (.ref C_NoStep) (.ref C_NoStep) = some true)
    (sub_NoStep_NoWorker : PySem.W.subIn K (.ref C_NoStep) (.ref C_NoWorker) = some false)
    (z1 : PySem.W.nsIn K mainGlobals "len" = some none) (z2 : PySem.W.nsIn K mainGlobals "abs" = some none) (z3 : PySem.W.nsIn K mainGlobals "int" = some none) (z4 : PySem.W.nsIn K mainGlobals "list" = some none) (z5 : PySem.W.nsIn K mainGlobals "enumerate" = some none) (z6 : PySem.W.nsIn K mainGlobals "range" = some none) (z7 : PySem.W.nsIn K mainGlobals "min" = some none) (z8 : PySem.W.nsIn K mainGlobals "sorted" = some none) (z9 : PySem.W.nsIn K mainGlobals "tuple" = some none) (z10 : PySem.W.nsIn K mainGlobals "isinstance" = some none) (z11 : PySem.W.nsIn K mainGlobals "bool" = some none) (z12 : PySem.W.nsIn K mainGlobals "str" = some none) (z13 : PySem.W.nsIn K mainGlobals "all" = some none) (z14 : PySem.W.nsIn K mainGlobals "zip" = some none) (z15 : PySem.W.nsIn K mainGlobals "sum" = some none) (z16 : PySem.W.nsIn K mainGlobals "LookupError" = some none) (z17 : PySem.W.nsIn K mainGlobals "ValueError" = some none) :
    ∃ fd : FuncData, (∀ (s : Shared) (v : Value), BindsTo s fd ⟨[v], []⟩ [("_law_script", v)]) ∧ ∀ base : Heap, K.In base → base.Ns mainGlobals mg → FnOk l.prog w K mg base CX0 13 fa fd ["_law_script"] (spLaw K) := by
  have e := hfa.symm.trans (PySem.W.mg_of X G a16)
  cases e
  have F1 := fun_mk (st := s_frozen) l1 c1 k1
  have g1 := PySem.W.mg_of X G a1
  have b1 := F1.binds (ps := ["thing"]) fun _ _ _ _ _ _ us hl => match us, hl with | [_], _ => rfl
  have F2 := fun_mk (st := s_check_worker) l2 c2 k2
  have g2 := PySem.W.mg_of X G a2
  have b2 := F2.binds (ps := ["net", "worker"]) fun _ _ _ _ _ _ us hl => match us, hl with | [_, _], _ => rfl
  have F3 := fun_mk (st := s_step_over) l3 c3 k3
  have g3 := PySem.W.mg_of X G a3
  have b3 := F3.binds (ps := ["queue", "place"]) fun _ _ _ _ _ _ us hl => match us, hl with | [_, _], _ => rfl
  have F4 := fun_mk (st := s_w_box) l4 c4 k4
  have g4 := PySem.W.mg_of X G a4
  have b4 := F4.binds (ps := ["_law_script", "_law_k"]) fun _ _ _ _ _ _ us hl => match us, hl with | [_, _], _ => rfl
  have F5 := fun_mk (st := s_w_take) l5 c5 k5
  have g5 := PySem.W.mg_of X G a5
  have b5 := F5.binds (ps := ["_law_box_here", "_law_below"]) fun _ _ _ _ _ _ us hl => match us, hl with | [_, _], _ => rfl
  have F6 := fun_mk (st := s_w_cells) l6 c6 k6
  have g6 := PySem.W.mg_of X G a6
  have b6 := F6.binds (ps := ["_law_script", "_law_most"]) fun _ _ _ _ _ _ us hl => match us, hl with | [_, _], _ => rfl
  have F7 := fun_mk (st := s_w_of) l7 c7 k7
  have g7 := PySem.W.mg_of X G a7
  have b7 := F7.binds (ps := ["_law_box_here", "_law_some"]) fun _ _ _ _ _ _ us hl => match us, hl with | [_, _], _ => rfl
  have F8 := fun_mk (st := s_w_pick) l8 c8 k8
  have g8 := PySem.W.mg_of X G a8
  have b8 := F8.binds (ps := ["_law_box_here", "_law_pool", "_law_size_so"]) fun _ _ _ _ _ _ us hl => match us, hl with | [_, _, _], _ => rfl
  have F9 := fun_mk (st := s_w_same) l9 c9 k9
  have g9 := PySem.W.mg_of X G a9
  have b9 := F9.binds (ps := ["_law_got", "_law_due"]) fun _ _ _ _ _ _ us hl => match us, hl with | [_, _], _ => rfl
  have F10 := fun_mk (st := s_w_web) l10 c10 k10
  have g10 := PySem.W.mg_of X G a10
  have b10 := F10.binds (ps := ["_law_box_here", "_law_size_so", "_law_most", "_law_high"]) fun _ _ _ _ _ _ us hl => match us, hl with | [_, _, _, _], _ => rfl
  have F11 := fun_mk (st := s_w_marks) l11 c11 k11
  have g11 := PySem.W.mg_of X G a11
  have b11 := F11.binds (ps := ["_law_box_here", "_law_web_here", "_law_first", "_law_size_so"]) fun _ _ _ _ _ _ us hl => match us, hl with | [_, _, _, _], _ => rfl
  have F12 := fun_mk (st := s_w_heard) l12 c12 k12
  have g12 := PySem.W.mg_of X G a12
  have b12 := F12.binds (ps := ["_law_one", "_law_two", "_law_times_so"]) fun _ _ _ _ _ _ us hl => match us, hl with | [_, _, _], _ => rfl
  have F13 := fun_mk (st := s_w_turned) l13 c13 k13
  have g13 := PySem.W.mg_of X G a13
  have b13 := F13.binds (ps := ["_law_trail"]) fun _ _ _ _ _ _ us hl => match us, hl with | [_], _ => rfl
  have F14 := fun_mk (st := s_w_pair_right) l14 c14 k14
  have g14 := PySem.W.mg_of X G a14
  have b14 := F14.binds (ps := ["_law_web_here", "_law_one", "_law_two"]) fun _ _ _ _ _ _ us hl => match us, hl with | [_, _, _], _ => rfl
  have F15 := fun_mk (st := s_w_right) l15 c15 k15
  have g15 := PySem.W.mg_of X G a15
  have b15 := F15.binds (ps := ["_law_box_here"]) fun _ _ _ _ _ _ us hl => match us, hl with | [_], _ => rfl
  have F16 := fun_mk (st := s_law) l16 c16 k16
  have g16 := PySem.W.mg_of X G a16
  have F17 := fun_mk (st := s_Way_cost) l17 c17 k17
  have b17 := F17.binds (ps := ["self"]) fun _ _ _ _ _ _ us hl => match us, hl with | [_], _ => rfl
  have mt17 : Meth K C_Way "cost" f17 := ⟨a17, i17, k17⟩
  have F18 := fun_mk (st := s_Way_init) l18 c18 k18
  have b18 := F18.binds (ps := ["self", "net", "start", "queues"]) fun _ _ _ _ _ _ us hl => match us, hl with | [_, _, _, _], _ => rfl
  have mt18 : Meth K C_Way "__init__" f18 := ⟨a18, i18, k18⟩
  have F19 := fun_mk (st := s_NoStep_init) l19 c19 k19
  have b19 := F19.binds (ps := ["self", "place"]) fun _ _ _ _ _ _ us hl => match us, hl with | [_, _], _ => rfl
  have mt19 : Meth K C_NoStep "__init__" f19 := ⟨a19, i19, k19⟩
  have F20 := fun_mk (st := s_Way_workers) l20 c20 k20
  have b20 := F20.binds (ps := ["self"]) fun _ _ _ _ _ _ us hl => match us, hl with | [_], _ => rfl
  have mt20 : Meth K C_Way "workers" f20 := ⟨a20, i20, k20⟩
  have F21 := fun_mk (st := s_Way_add) l21 c21 k21
  have b21 := F21.binds (ps := ["self", "other"]) fun _ _ _ _ _ _ us hl => match us, hl with | [_, _], _ => rfl
  have mt21 : Meth K C_Way "__add__" f21 := ⟨a21, i21, k21⟩
  have F22 := fun_mk (st := s_Way_neg) l22 c22 k22
  have b22 := F22.binds (ps := ["self"]) fun _ _ _ _ _ _ us hl => match us, hl with | [_], _ => rfl
  have mt22 : Meth K C_Way "__neg__" f22 := ⟨a22, i22, k22⟩
  have F23 := fun_mk (st := s_Way_mul) l23 c23 k23
  have b23 := F23.binds (ps := ["self", "many"]) fun _ _ _ _ _ _ us hl => match us, hl with | [_, _], _ => rfl
  have mt23 : Meth K C_Way "__mul__" f23 := ⟨a23, i23, k23⟩
  have F24 := fun_mk (st := s_Way_steps) l24 c24 k24
  have b24 := F24.binds (ps := ["self"]) fun _ _ _ _ _ _ us hl => match us, hl with | [_], _ => rfl
  have mt24 : Meth K C_Way "steps" f24 := ⟨a24, i24, k24⟩
  have F25 := fun_mk (st := s_Way_len) l25 c25 k25
  have b25 := F25.binds (ps := ["self"]) fun _ _ _ _ _ _ us hl => match us, hl with | [_], _ => rfl
  have mt25 : Meth K C_Way "__len__" f25 := ⟨a25, i25, k25⟩
  have F26 := fun_mk (st := s_Way_eq) l26 c26 k26
  have b26 := F26.binds (ps := ["self", "other"]) fun _ _ _ _ _ _ us hl => match us, hl with | [_, _], _ => rfl
  have mt26 : Meth K C_Way "__eq__" f26 := ⟨a26, i26, k26⟩
  have T_Way : TWay K C_Way := ⟨⟨pg_Way, hd_Way, po_Way, sa_Way⟩, nF1_Way, nF2_Way, nF3_Way, nF4_Way, nF5_Way⟩
  have mg_Way := PySem.W.mg_of X G aC_Way
  have O_Way : OWay K C_Way := ⟨xO_sf_Way, xO_rm_Way, ⟨_, xO_im_Way⟩, ⟨_, xO_ir_Way⟩, xO_ns_Way⟩
  have Q_Way : QWay K C_Way := ⟨xQ_ci_Way, xQ_ti_Way, xQ_si_Way, xQ_st_Way, xQ_sl_Way, xQ_ne_Way, xQ_mo_Way⟩
  have I_Way : IWay K C_Way := ⟨⟨cdI_Way, by unfold PySem.W.clsIn; rw [xI_cl_Way], xI_mr_Way⟩, xI_na_Way, xI_nm_Way, xI_oa_Way, xI_om_Way⟩
  have IC_Way : C8.InsC K C_Way := ⟨⟨pg_Way, hd_Way, po_Way, sa_Way⟩, xIC_ha_Way, xIC_hn_Way, xIC_htk_Way, xIC_hm_Way, if_pos (beq_self_eq_true _)⟩
  have M_Way : L2.Mk K C_Way f18 := ⟨mk_Way, a18, i18, kc_Way⟩
  have mg_NoQueue := PySem.W.mg_of X G aC_NoQueue
  have XC_NoQueue : XcC K C_NoQueue := ⟨xc1_NoQueue, xc2_NoQueue, xc3_NoQueue⟩
  have mg_NoStep := PySem.W.mg_of X G aC_NoStep
  have XB_NoStep : XcB K C_NoStep "ValueError.__new__" [.type "ValueError", .type "Exception", .type "BaseException", .type "object"] := ⟨xb1_NoStep, xb2_NoStep, xb3_NoStep, xb4_NoStep, xb5_NoStep, xb6_NoStep⟩
  have XI_NoStep : XcI K C_NoStep := ⟨xi1_NoStep, xi2_NoStep, xi3_NoStep, xi4_NoStep, xi5_NoStep, xi6_NoStep, xi7_NoStep, xi8_NoStep, xi9_NoStep⟩
  have XC_NoStep : XcC K C_NoStep := ⟨xc1_NoStep, xc2_NoStep, xc3_NoStep⟩
  have IN_NoStep : Ini K C_NoStep f19 := ⟨a19, i19⟩
  have mg_NoWorker := PySem.W.mg_of X G aC_NoWorker
  have XC_NoWorker : XcC K C_NoWorker := ⟨xc1_NoWorker, xc2_NoWorker, xc3_NoWorker⟩
  have m_len := PySem.W.mg_none_of X G z1
  have m_abs := PySem.W.mg_none_of X G z2
  have m_int := PySem.W.mg_none_of X G z3
  have m_list := PySem.W.mg_none_of X G z4
  have m_enumerate := PySem.W.mg_none_of X G z5
  have m_range := PySem.W.mg_none_of X G z6
  have m_min := PySem.W.mg_none_of X G z7
  have m_sorted := PySem.W.mg_none_of X G z8
  have m_tuple := PySem.W.mg_none_of X G z9
  have m_isinstance := PySem.W.mg_none_of X G z10
  have m_bool := PySem.W.mg_none_of X G z11
  have m_str := PySem.W.mg_none_of X G z12
  have m_all := PySem.W.mg_none_of X G z13
  have m_zip := PySem.W.mg_none_of X G z14
  have m_sum := PySem.W.mg_none_of X G z15
  have m_LookupError := PySem.W.mg_none_of X G z16
  have m_ValueError := PySem.W.mg_none_of X G z17
  clear hfa a1 l1 c1 k1 a2 l2 c2 k2 a3 l3 c3 k3 a4 l4 c4 k4 a5 l5 c5 k5 a6 l6 c6 k6 a7 l7 c7 k7 a8 l8 c8 k8 a9 l9 c9 k9 a10 l10 c10 k10 a11 l11 c11 k11 a12 l12 c12 k12 a13 l13 c13 k13 a14 l14 c14 k14 a15 l15 c15 k15 a16 l16 c16 k16 a17 l17 c17 k17 a18 l18 c18 k18 a19 l19 c19 k19 a20 l20 c20 k20 a21 l21 c21 k21 a22 l22 c22 k22 a23 l23 c23 k23 a24 l24 c24 k24 a25 l25 c25 k25 a26 l26 c26 k26 z1 z2 z3 z4 z5 z6 z7 z8 z9 z10 z11 z12 z13 z14 z15 z16 z17
  refine ⟨PySem.W.fnOf "law" "law" (defArgs s_law) (defBody s_law) (defScope s_law) .none kV16 dc16 pm16 an16 cd16 ct16, fun s v => .of_eq rfl, fun base _ _ => ?_⟩
  have G6 := ok_cells (P := l.prog) (w := w) (base := base) (mg := mg) (k := 0) F6 m_int m_list m_enumerate
  have G4 := ok_box (P := l.prog) (w := w) (base := base) (mg := mg) (k := 0) F4 m_len m_abs m_int
  have G26 := ok_Way_eq (P := l.prog) (w := w) (base := base) (mg := mg) (k := 0) F26 T_Way mg_Way Q_Way IC_Way m_isinstance
  have G24 := ok_Way_steps (P := l.prog) (w := w) (base := base) (mg := mg) (k := 0) F24 T_Way
  have G20 := ok_Way_workers (P := l.prog) (w := w) (base := base) (mg := mg) (k := 0) F20 T_Way
  have G17 := ok_Way_cost (P := l.prog) (w := w) (base := base) (mg := mg) (k := 0) F17 T_Way m_sum
  have G25 := ok_Way_len (P := l.prog) (w := w) (base := base) (mg := mg) (k := 0) F25 T_Way m_len
  have G5 := ok_take2 (ok_take (P := l.prog) (w := w) (base := base) (k := 0) F5 m_int)
  have G8 := ok_pick (P := l.prog) (w := w) (base := base) (mg := mg) (k := 1) F8 G5 g5 F5 b5 m_list m_range m_min m_len
  have G10 := ok_web (P := l.prog) (w := w) (base := base) (mg := mg) (k := 2) F10 (G5.mono (by decide : 1 ≤ 2)) g5 F5 b5 G8 g8 F8 b8 m_sorted m_len m_int m_tuple
  have G7 := ok_w_of (P := l.prog) (w := w) (base := base) (mg := mg) (k := 1) F7 G5 g5 F5 b5 m_len
  have G11 := ok_w_marks (P := l.prog) (w := w) (base := base) (mg := mg) (k := 2) F11 G7 g7 F7 b7 m_range
  have G9 := ok_same (P := l.prog) (w := w) (base := base) F9 g9 b9 m_isinstance m_list m_tuple m_bool m_str m_int m_len m_all m_zip 5
  have G1 := ok_frozen (P := l.prog) (w := w) (base := base) F1 g1 b1 m_isinstance m_list m_tuple 5
  have G2 := ok_check_worker (P := l.prog) (w := w) (base := base) (mg := mg) (k := 0) F2
  have G3 := ok_step_over (P := l.prog) (w := w) (base := base) (mg := mg) (k := 0) F3
  have G18 := ok_Way_init (P := l.prog) (w := w) (base := base) (mg := mg) (k := 5) F18 T_Way G1 g1 F1 b1 (G2.mono (by decide : 1 ≤ 5)) g2 F2 b2 (G3.mono (by decide : 1 ≤ 5)) g3 F3 b3 m_tuple m_enumerate
  have G19 := ok_NoStep_init (P := l.prog) (w := w) (base := base) (mg := mg) (k := 0) F19 XB_NoStep nf_NoStep_place
  have GX21 := okX_Way_add (P := l.prog) (w := w) (base := base) (mg := mg) (k := 6) F21 T_Way M_Way mg_Way IC_Way G18 b18 mg_NoStep XB_NoStep IN_NoStep (G19.mono (by decide : 1 ≤ 6)) b19 m_isinstance m_len
  have GX23 := okX_Way_mul (P := l.prog) (w := w) (base := base) (mg := mg) (k := 6) F23 T_Way M_Way mg_Way G18 b18 mg_NoStep XB_NoStep IN_NoStep (G19.mono (by decide : 1 ≤ 6)) b19 m_len
  have G12 := ok_w_heard (P := l.prog) (w := w) (base := base) (mg := mg) (k := 8) F12 O_Way mg_NoWorker mg_NoQueue mg_NoStep XI_NoStep XC_NoWorker XC_NoQueue XC_NoStep nf_NoStep_place sub_NoStep_NoWorker sub_NoStep_NoQueue sub_NoStep_NoStep GX21 mt21 b21 GX23 mt23 b23 m_isinstance
  have G22 := ok_Way_neg (P := l.prog) (w := w) (base := base) (mg := mg) (k := 6) F22 T_Way M_Way mg_Way G18 b18
  have G13 := ok_w_turned (P := l.prog) (w := w) (base := base) (mg := mg) (k := 0) F13 m_tuple
  have G14 := ok_w_pair_right (P := l.prog) (w := w) (base := base) (mg := mg) (k := 8) F14 T_Way O_Way I_Way GX21 mt21 b21 GX23 mt23 b23 G22 mt22 b22 (G26.mono (by decide : 1 ≤ 8)) mt26 b26 (G24.mono (by decide : 1 ≤ 8)) mt24 b24 (G20.mono (by decide : 1 ≤ 8)) mt20 b20 (G17.mono (by decide : 1 ≤ 8)) mt17 b17 (G25.mono (by decide : 1 ≤ 8)) mt25 b25 (G9.mono (by decide : 5 ≤ 8)) g9 F9 b9 (G13.mono (by decide : 1 ≤ 8)) g13 F13 b13 m_len m_sum m_range
  have G15 := ok_w_right (P := l.prog) (w := w) (base := base) (mg := mg) (k := 10) F15 T_Way M_Way mg_Way O_Way I_Way (GX21.mono (by decide : 8 ≤ 10)) mt21 b21 (GX23.mono (by decide : 8 ≤ 10)) mt23 b23 (G26.mono (by decide : 1 ≤ 10)) mt26 b26 (G24.mono (by decide : 1 ≤ 10)) mt24 b24 (G20.mono (by decide : 1 ≤ 10)) mt20 b20 (G17.mono (by decide : 1 ≤ 10)) mt17 b17 (G25.mono (by decide : 1 ≤ 10)) mt25 b25 (G10.mono (by decide : 3 ≤ 10)) g10 F10 b10 (G7.mono (by decide : 2 ≤ 10)) g7 F7 b7 (G11.mono (by decide : 3 ≤ 10)) g11 F11 b11 (G5.mono (by decide : 1 ≤ 10)) g5 F5 b5 (G9.mono (by decide : 5 ≤ 10)) g9 F9 b9 (G12.mono (by decide : 9 ≤ 10)) g12 F12 b12 G14 g14 F14 b14 (G18.mono (by decide : 6 ≤ 10)) b18 m_range m_len m_min
  have G16 := ok_law (P := l.prog) (w := w) (base := base) (mg := mg) (k := 12) F16 (G6.mono (by decide : 1 ≤ 12)) g6 F6 b6 (G4.mono (by decide : 1 ≤ 12)) g4 F4 b4 G15 g15 F15 b15 m_all m_range m_len
  exact G16
end Jl
open PySem PySem.W PyProof.Rows
set_option maxHeartbeats 0 in
theorem PySem.Challenge.cw_joinlags_k07_whole_ways_put_together_holds : PySem.Challenge.rw_joinlags_k07_whole_ways_put_together.Holds := by
  w_on; o_law; k_head; (case hw => w_witness2)
  k_fill
  refine L2.walk_of (l := PySem.Challenge.rw_joinlags_k07_whole_ways_put_together) (n := 63) (k := 13) (x := "_law_script") (CX := fun _ => L2.CX0) (sp := fun w => Jl.spLaw _) rfl (by decide) rfl ⟨rfl, by decide, by decide⟩ (fun w h Y => PySem.W.kIn_of Y) ?F (fun _ _ a ns hl _ hS => ⟨a, ns, rfl, hS, hl, fun _ => rfl⟩) (fun _ _ _ _ _ h => h)
  case F =>
    intro w mg fa h KX G hmg
    refine' Jl.all_mk KX G hmg ?a1 ?l1 ?c1 ?k1 ?a2 ?l2 ?c2 ?k2 ?a3 ?l3 ?c3 ?k3 ?a4 ?l4 ?c4 ?k4 ?a5 ?l5 ?c5 ?k5 ?a6 ?l6 ?c6 ?k6 ?a7 ?l7 ?c7 ?k7 ?a8 ?l8 ?c8 ?k8 ?a9 ?l9 ?c9 ?k9 ?a10 ?l10 ?c10 ?k10 ?a11 ?l11 ?c11 ?k11 ?a12 ?l12 ?c12 ?k12 ?a13 ?l13 ?c13 ?k13 ?a14 ?l14 ?c14 ?k14 ?a15 ?l15 ?c15 ?k15 ?a16 ?l16 ?c16 ?k16 ?a17 ?i17 ?l17 ?c17 ?k17 ?a18 ?i18 ?l18 ?c18 ?k18 ?a19 ?i19 ?l19 ?c19 ?k19 ?a20 ?i20 ?l20 ?c20 ?k20 ?a21 ?i21 ?l21 ?c21 ?k21 ?a22 ?i22 ?l22 ?c22 ?k22 ?a23 ?i23 ?l23 ?c23 ?k23 ?a24 ?i24 ?l24 ?c24 ?k24 ?a25 ?i25 ?l25 ?c25 ?k25 ?a26 ?i26 ?l26 ?c26 ?k26 ?aC_Way ?pg_Way ?hd_Way ?po_Way ?sa_Way ?mk_Way ?kc_Way ?nF1_Way ?nF2_Way ?nF3_Way ?nF4_Way ?nF5_Way ?xO_sf_Way ?xO_rm_Way ?xO_im_Way ?xO_ir_Way ?xO_ns_Way ?xQ_ci_Way ?xQ_ti_Way ?xQ_si_Way ?xQ_st_Way ?xQ_sl_Way ?xQ_ne_Way ?xQ_mo_Way ?xI_cl_Way ?xI_mr_Way ?xI_na_Way ?xI_nm_Way ?xI_oa_Way ?xI_om_Way ?xIC_ha_Way ?xIC_hn_Way ?xIC_htk_Way ?xIC_hm_Way ?aC_NoQueue ?xc1_NoQueue ?xc2_NoQueue ?xc3_NoQueue ?aC_NoStep ?xb1_NoStep ?xb2_NoStep ?xb3_NoStep ?xb4_NoStep ?xb5_NoStep ?xb6_NoStep ?xi1_NoStep ?xi2_NoStep ?xi3_NoStep ?xi4_NoStep ?xi5_NoStep ?xi6_NoStep ?xi7_NoStep ?xi8_NoStep ?xi9_NoStep ?xc1_NoStep ?xc2_NoStep ?xc3_NoStep ?nf_NoStep_place ?aC_NoWorker ?xc1_NoWorker ?xc2_NoWorker ?xc3_NoWorker ?sub_NoStep_NoQueue ?sub_NoStep_NoStep ?sub_NoStep_NoWorker ?z1 ?z2 ?z3 ?z4 ?z5 ?z6 ?z7 ?z8 ?z9 ?z10 ?z11 ?z12 ?z13 ?z14 ?z15 ?z16 ?z17
    (case aC_Way => k_is); (case aC_NoQueue => k_is); (case aC_NoStep => k_is); (case aC_NoWorker => k_is); (case a1 => k_is); (case l1 => k_is); (case c1 => k_is); (case k1 => k_is); (case a2 => k_is); (case l2 => k_is); (case c2 => k_is); (case k2 => k_is); (case a3 => k_is); (case l3 => k_is); (case c3 => k_is); (case k3 => k_is); (case a4 => k_is); (case l4 => k_is); (case c4 => k_is); (case k4 => k_is); (case a5 => k_is); (case l5 => k_is); (case c5 => k_is); (case k5 => k_is); (case a6 => k_is); (case l6 => k_is); (case c6 => k_is); (case k6 => k_is); (case a7 => k_is); (case l7 => k_is); (case c7 => k_is); (case k7 => k_is); (case a8 => k_is); (case l8 => k_is); (case c8 => k_is); (case k8 => k_is); (case a9 => k_is); (case l9 => k_is); (case c9 => k_is); (case k9 => k_is); (case a10 => k_is); (case l10 => k_is); (case c10 => k_is); (case k10 => k_is); (case a11 => k_is); (case l11 => k_is); (case c11 => k_is); (case k11 => k_is); (case a12 => k_is); (case l12 => k_is); (case c12 => k_is); (case k12 => k_is); (case a13 => k_is); (case l13 => k_is); (case c13 => k_is); (case k13 => k_is); (case a14 => k_is); (case l14 => k_is); (case c14 => k_is); (case k14 => k_is); (case a15 => k_is); (case l15 => k_is); (case c15 => k_is); (case k15 => k_is); (case a16 => k_is); (case l16 => k_is); (case c16 => k_is); (case k16 => k_is); (case a17 => k_is); (case i17 => k_is); (case l17 => k_is); (case c17 => k_is); (case k17 => k_is); (case a18 => k_is); (case i18 => k_is); (case l18 => k_is); (case c18 => k_is); (case k18 => k_is); (case a19 => k_is); (case i19 => k_is); (case l19 => k_is); (case c19 => k_is); (case k19 => k_is); (case a20 => k_is); (case i20 => k_is); (case l20 => k_is); (case c20 => k_is); (case k20 => k_is); (case a21 => k_is); (case i21 => k_is); (case l21 => k_is); (case c21 => k_is); (case k21 => k_is); (case a22 => k_is); (case i22 => k_is); (case l22 => k_is); (case c22 => k_is); (case k22 => k_is); (case a23 => k_is); (case i23 => k_is); (case l23 => k_is); (case c23 => k_is); (case k23 => k_is); (case a24 => k_is); (case i24 => k_is); (case l24 => k_is); (case c24 => k_is); (case k24 => k_is); (case a25 => k_is); (case i25 => k_is); (case l25 => k_is); (case c25 => k_is); (case k25 => k_is); (case a26 => k_is); (case i26 => k_is); (case l26 => k_is); (case c26 => k_is); (case k26 => k_is); (case pg_Way => k_is); (case hd_Way => k_is); (case po_Way => k_is); (case sa_Way => k_is); (case mk_Way => k_is); (case kc_Way => k_is); (case nF1_Way => k_is); (case nF2_Way => k_is); (case nF3_Way => k_is); (case nF4_Way => k_is); (case nF5_Way => k_is); (case xO_sf_Way => k_is); (case xO_rm_Way => k_is); (case xO_im_Way => k_is); (case xO_ir_Way => k_is); (case xO_ns_Way => k_is); (case xQ_ci_Way => k_is); (case xQ_ti_Way => k_is); (case xQ_si_Way => k_is); (case xQ_st_Way => k_is); (case xQ_sl_Way => k_is); (case xQ_ne_Way => k_is); (case xQ_mo_Way => k_is); (case xI_cl_Way => k_is); (case xI_mr_Way => rfl); (case xI_na_Way => k_is); (case xI_nm_Way => k_is); (case xI_oa_Way => k_is); (case xI_om_Way => k_is); (case xIC_ha_Way => k_is); (case xIC_hn_Way => k_is); (case xIC_htk_Way => k_is); (case xIC_hm_Way => k_is); (case xc1_NoQueue => k_is); (case xc2_NoQueue => k_is); (case xc3_NoQueue => k_is); (case xb1_NoStep => first | k_is | kx_is); (case xb2_NoStep => k_is); (case xb3_NoStep => k_is); (case xb4_NoStep => k_is); (case xb5_NoStep => k_is); (case xb6_NoStep => k_is); (case xi1_NoStep => k_is); (case xi2_NoStep => k_is); (case xi3_NoStep => k_is); (case xi4_NoStep => k_is); (case xi5_NoStep => k_is); (case xi6_NoStep => k_is); (case xi7_NoStep => k_is); (case xi8_NoStep => k_is); (case xi9_NoStep => k_is); (case xc1_NoStep => k_is); (case xc2_NoStep => k_is); (case xc3_NoStep => k_is); (case nf_NoStep_place => k_is); (case xc1_NoWorker => k_is); (case xc2_NoWorker => k_is); (case xc3_NoWorker => k_is); (case sub_NoStep_NoQueue => k_is); (case sub_NoStep_NoStep => k_is); (case sub_NoStep_NoWorker => k_is); (case z1 => k_is); (case z2 => k_is); (case z3 => k_is); (case z4 => k_is); (case z5 => k_is); (case z6 => k_is); (case z7 => k_is); (case z8 => k_is); (case z9 => k_is); (case z10 => k_is); (case z11 => k_is); (case z12 => k_is); (case z13 => k_is); (case z14 => k_is); (case z15 => k_is); (case z16 => k_is); (case z17 => k_is)

