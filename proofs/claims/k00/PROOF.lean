import PyProof.Rows.All
import HandS.ForMost
import HandS.Wide
import HandS.IsInst
import HandS.Zip
import HandS.DictComp
import HandS.SetKeys
import HandS.Flow
import HandS.SortOrd
import HandS.Evl
import HandS.Walk
import PySem.Challenge.RW_joinlags_k00_nets_or_none
import PyProof.ListRange
import HandS.Sort
import HandS.Strs
import KE.SortData
import HandS.Defaults
import KE.DataCmp
import HandS.Steps
import HandS.Style
import HandS.TupAny
import KE.KRevSl
import HandS.Deep
set_option Elab.async false
set_option linter.all false
set_option maxRecDepth 100000
set_option maxHeartbeats 4000000
namespace Jl
open PySem PySem.Spec PyProof.Rows L2
open Evl (sz_of sz_lt)
def topS (i : Nat) : Stmt := PySem.Challenge.pw_joinlags_k00_nets_or_none.main.body.getD i (.Pass ⟨0, 0, 0, 0⟩)
abbrev sc_w_box_N : List Str := ["_law_script", "_law_k", "_law_cell"]
abbrev s_w_box : Stmt := topS 11
theorem sc_w_box : FnScope ["_law_script", "_law_k", "_law_cell"] ["_law_script", "_law_k"] (defScope s_w_box) := ⟨rfl, rfl, rfl, by decide +kernel, rfl, by decide +kernel, by decide +kernel⟩
local macro_rules | `(tactic| walk_at "at") => `(tactic| fail)
local macro_rules | `(tactic| walk_at "side") => `(tactic| first
  | (show (0 : Int) < _; decide)
  | (show (0 : Int) < _; omega)
  | exact ⟨by decide, by decide, by decide⟩
  | exact sz_of (Nat.le_of_ble_eq_true rfl)
  | exact rfl
  | exact Or.inl (by decide)
  | exact Or.inr (by decide)
  | exact Or.inr ⟨by omega, by omega⟩
  | exact Or.inl ⟨by omega, by omega⟩
  | exact ⟨by decide, by decide +kernel⟩)
local macro_rules | `(tactic| walk_at "ev1") => `(tactic| first
  | refine ⟨_, rfl, ?_⟩
  | refine ⟨_, _, rfl, rfl, ?_⟩
  | refine ⟨_, _, _, _, rfl, rfl, (by assumption), (by walk_at "at"), ?_⟩
  | refine Or.inl ⟨_, rfl, ?_⟩
  | refine Or.inr ⟨_, rfl, ?_⟩
  | refine ⟨(by walk_at "side"), ?_⟩)
local macro_rules | `(tactic| walk_at "ev") => `(tactic| repeat (walk_at "ev1"))
abbrev sc_w_take_N : List Str := ["_law_box_here", "_law_below", "_law_once", "_law_far", "_law_twice", "_law_drawn"]
abbrev s_w_take : Stmt := topS 12
theorem sc_w_take : FnScope ["_law_box_here", "_law_below", "_law_once", "_law_far", "_law_twice", "_law_drawn"] ["_law_box_here", "_law_below"] (defScope s_w_take) := ⟨rfl, rfl, rfl, by decide +kernel, rfl, by decide +kernel, by decide +kernel⟩
section
variable {P : Program} {w : World} {K : PySem.W.Frag} {mg : Str → Option Value} {base : Heap}
/-! ### the box: three numbers -/
def boxV (c0 c1 c2 : Int) : List V := [.int c0, .int c1, .int c2]
theorem box0 {c0 c1 c2 : Int} : atI (boxV c0 c1 c2) 0 = some (.int c0) := atI_nat (j := 0) rfl
theorem box1 {c0 c1 c2 : Int} : atI (boxV c0 c1 c2) 1 = some (.int c1) := atI_nat (j := 1) rfl
theorem box2 {c0 c1 c2 : Int} : atI (boxV c0 c1 c2) 2 = some (.int c2) := atI_nat (j := 2) rfl
local macro_rules | `(tactic| walk_at "at") => `(tactic| first | exact box0 | exact box1 | exact box2)
/-- _law_box(script, k) -/
def spBox (K : PySem.W.Frag) : Sp := fun vs H Q _ => ∃ (a : Addr) (ns : List Int) (k : Int), vs = [.ref a, .int k] ∧ SqL K H a (ns.map V.int) ∧ 0 ≤ k ∧ k < 100 ∧
  ∀ p c0 c1, H p = none → 0 ≤ c0 → 0 ≤ c1 → c1 < 2 ^ 62 → Q (.ref p) (upd H p (.lst (boxV c0 c1 0)))
theorem ok_box {f : Addr} {fd : FuncData} {k : Nat} (F : Fun K "_law_box" "_law_box" s_w_box f fd) (m_len : mg "len" = none) (m_abs : mg "abs" = none) (m_int : mg "int" = none) : FnOk P w K mg base CX0 (k + 1) f fd ["_law_script", "_law_k"] (spBox K) := by
  refine F.ok sc_w_box (fun vs H Q E h => ?_) (fun cdv A outer s H vs Q E hr h => ?_)
  · obtain ⟨a, ns, k, rfl, _⟩ := h
    rfl
  · obtain ⟨a, ns, j, rfl, hS, j0, j1, q⟩ := h
    refine ⟨_, (pss_cons (ps_set (i := 2) sc_w_box.nd rfl (Or.inl rfl) (pe_ifExp (pt_cmpR op_lt (pv 1) (pe_callB call_len_seq (by rfl) m_len PySem.boot_len (pa_cons (pv 0) pa_nil)) (nomark _)) (pe_ix ix_list (pv 0) (pv 1) (fun _ _ => rfl)) pe_int)) 
    (pss_one (ps_ret (pe_lst (pa_cons (pe_op op_mul (pe_callB call_abs (by rfl) m_abs (by decide +kernel) (pa_cons (pv 2) pa_nil)) (pe_callTy call_int1 (by rfl) m_int (by decide +kernel) (pa_cons (pe_cmpR op_ge (pe_callB call_abs (by rfl) m_abs (by decide +kernel) (pa_cons (pv 2) pa_nil)) (pe_op op_pow pe_int pe_int) (nomark _)) pa_nil))) (pa_cons (pe_op op_add (pe_op op_add (pe_op op_mod (pe_callTy call_int1 (by rfl) m_int (by decide +kernel) (pa_cons (pv 2) pa_nil)) pe_int) (pe_op op_mul pe_int (pv 1))) pe_int) (pa_cons pe_int pa_nil))))))), ?_⟩
    have fin : ∀ (c : Int), 0 ≤ (if c < 0 then -c else c) * (if decide ((10 : Int) ^ (18 : Int).toNat ≤ (if c < 0 then -c else c)) = true then 1 else 0) ∧ 0 ≤ c % 2305843009213693951 + 39373 * j + 307 ∧ c % 2305843009213693951 + 39373 * j + 307 < 2 ^ 62 := fun c => by
      refine ⟨Int.mul_nonneg (by split <;> omega) (by split <;> omega), by omega, by omega⟩
    have h01 : ∀ (b : Bool), -(2 ^ 64) < (if b = true then (1 : Int) else 0) ∧ (if b = true then (1 : Int) else 0) < 2 ^ 64 := fun b => by cases b <;> decide
    refine ⟨_, rfl, .ref a, rfl, a, _, rfl, .inl hS, _, _, rfl, rfl, _, rfl, ite2 (fun e => ?_) (fun e => ?_)⟩
    · have e1 : j < ((ns.map V.int).length : Int) := of_decide_eq_true e
      rw [List.length_map] at e1
      have hj : j.toNat < ns.length := by omega
      have hat : atI (ns.map V.int) j = some (.int ns[j.toNat]) := at_of (j := j.toNat) (by omega) (by rw [List.getElem?_map, List.getElem?_eq_getElem hj]; rfl)
      refine ⟨_, rfl, _, rfl, a, _, _, _, rfl, rfl, hS, hat, ?_⟩
      generalize ns[j.toNat] = c
      walk_at "ev"
      exact fun p hp => q p _ _ hp (fin c).1 (fin c).2.1 (fin c).2.2
    · walk_at "ev"
      exact fun p hp => q p _ _ hp (fin 0).1 (fin 0).2.1 (fin 0).2.2
/-- _law_take(box, below): a drawn number below, the box goes on -/
def spTake (K : PySem.W.Frag) : Sp := fun vs H Q _ => ∃ (b : Addr) (c0 c1 c2 n : Int), vs = [.ref b, .int n] ∧ H b = some (.lst (boxV c0 c1 c2)) ∧ 0 ≤ c0 ∧ 0 ≤ c1 ∧ c1 < 2 ^ 62 ∧ 0 ≤ c2 ∧ c2 < 2 ^ 60 ∧ 1 ≤ n ∧ n.natAbs < 2 ^ 8000 ∧
  ∀ r d0 d2, 0 ≤ r → r < n → 0 ≤ d0 → 0 ≤ d2 → d2 ≤ c2 + 1 → Q (.int r) (upd H b (.lst (boxV d0 c1 d2)))
theorem ok_take {f : Addr} {fd : FuncData} {k : Nat} (F : Fun K "_law_take" "_law_take" s_w_take f fd) (m_int : mg "int" = none) : FnOk P w K mg base CX0 (k + 1) f fd ["_law_box_here", "_law_below"] (spTake K) := by
  refine F.ok sc_w_take (fun vs H Q E h => ?_) (fun cdv A outer s H vs Q E hr h => ?_)
  · obtain ⟨b, c0, c1, c2, n, rfl, _⟩ := h
    rfl
  · obtain ⟨b, c0, c1, c2, n, rfl, hb, c00, c10, c11, c20, c21, n0, n1, q⟩ := h
    refine ⟨_, (pss_cons (ps_if (pt_cmpR op_gt (pe_ix ix_list (pv 0) pe_int (fun _ _ => rfl)) pe_int (nomark _)) 
      (pss_cons (ps_set (i := 5) sc_w_take.nd rfl (Or.inl rfl) (pe_op op_mod (pe_callTy call_int1 (by rfl) m_int (by decide +kernel) (pa_cons (pe_ix ix_list (pv 0) pe_int (fun _ _ => rfl)) pa_nil)) (pv 1))) 
      (pss_cons (ps_asg (pe_op op_fdivW (pe_ix ix_list (pv 0) pe_int (fun _ _ => rfl)) (pv 1)) (pg_sub (pv 0) pe_int set_list)) 
      (pss_one (ps_ret (pv 5))))) pss_nil) 
    (pss_cons (ps_asg (pe_op op_add (pe_ix ix_list (pv 0) pe_int (fun _ _ => rfl)) pe_int) (pg_sub (pv 0) pe_int set_list)) 
    (pss_cons (ps_set (i := 2) sc_w_take.nd rfl (Or.inl rfl) (pe_op op_mod (pe_callTy call_int1 (by rfl) m_int (by decide +kernel) (pa_cons (pe_op op_mul (pe_op op_add (pe_ix ix_list (pv 0) pe_int (fun _ _ => rfl)) (pe_op op_mul pe_int (pe_ix ix_list (pv 0) pe_int (fun _ _ => rfl)))) (pe_op op_add pe_int (pe_ix ix_list (pv 0) pe_int (fun _ _ => rfl)))) pa_nil)) pe_int)) 
    (pss_cons (ps_set (i := 3) sc_w_take.nd rfl (Or.inl rfl) (pe_op op_add (pe_op op_mod (pe_callTy call_int1 (by rfl) m_int (by decide +kernel) (pa_cons (pv 2) pa_nil)) pe_int) pe_int)) 
    (pss_cons (ps_set (i := 4) sc_w_take.nd rfl (Or.inl rfl) (pe_op op_mod (pe_callTy call_int1 (by rfl) m_int (by decide +kernel) (pa_cons (pe_op op_mul (pe_op op_add (pe_op op_add (pv 2) (pe_ix ix_list (pv 0) pe_int (fun _ _ => rfl))) (pe_op op_fdivW (pe_ix ix_list (pv 0) pe_int (fun _ _ => rfl)) pe_int)) (pv 3)) pa_nil)) pe_int)) 
    (pss_one (ps_ret (pe_op op_mod (pe_callTy call_int1 (by rfl) m_int (by decide +kernel) (pa_cons (pe_op op_fdivW (pe_op op_mod (pe_callTy call_int1 (by rfl) m_int (by decide +kernel) (pa_cons (pe_op op_add (pe_op op_mul (pv 4) pe_int) (pv 2)) pa_nil)) pe_int) pe_int) pa_nil)) (pv 1))))))))), ?_⟩
    have hL : SqL K H b (boxV c0 c1 c2) := .inl (.inl hb)
    have small : ∀ j : Int, j = 1000003 ∨ j = 64 → CDivW 0 j := fun j h => by rcases h with h | h <;> (rw [h]; exact ⟨by decide, by decide +kernel⟩)
    walk_at "ev"
    refine ite2 (fun e => ?_) (fun e => ?_)
    · have e1 : 0 < c0 := of_decide_eq_true e
      walk_at "ev"
      refine ⟨wide_div (by omega) n1 (by decide) (by decide), ?_⟩
      walk_at "ev"
      refine ⟨b, _, _, 0, rfl, rfl, hb, rfl, ?_⟩
      refine ⟨_, rfl, ?_⟩
      exact q _ _ _ (Int.emod_nonneg _ (by omega)) (Int.emod_lt_of_pos _ (by omega)) (Int.ediv_nonneg c00 (by omega)) c20 (by omega)
    · walk_at "ev"
      refine ⟨b, _, _, 2, rfl, rfl, hb, rfl, ?_⟩
      have hb2 : (upd H b (.lst (boxV c0 c1 (c2 + 1)))) b = some (.lst (boxV c0 c1 (c2 + 1))) := upd_same
      have hL2 : SqL K (upd H b (.lst (boxV c0 c1 (c2 + 1)))) b (boxV c0 c1 (c2 + 1)) := .inl (.inl hb2)
      have fin : ∀ x : Int, Q (.int (x % n)) (upd H b (.lst (boxV c0 c1 (c2 + 1)))) := fun x => q _ _ _ (Int.emod_nonneg _ (by omega)) (Int.emod_lt_of_pos _ (by omega)) c00 (by omega) (by omega)
      show tSeq _ _ _ _ (upd H b (.lst (boxV c0 c1 (c2 + 1))))
      generalize upd H b (.lst (boxV c0 c1 (c2 + 1))) = H2 at hb2 hL2 fin
      walk_at "ev"
      exact fin _
end
end Jl

set_option Elab.async false
set_option linter.all false
set_option maxRecDepth 100000
set_option maxHeartbeats 4000000
namespace Jl
open PySem PySem.Spec PyProof.Rows L2
open Evl (sz_of sz_lt)
/-! ### heaps without some addresses -/
def cutS (S : List Addr) (H : Hp) : Hp := fun a => if a ∈ S then none else H a
theorem cutS_nil {H : Hp} : cutS [] H = H := by
  funext a
  unfold cutS
  rw [if_neg (List.not_mem_nil)]
theorem cutS_in {S : List Addr} {H : Hp} {a : Addr} (h : a ∈ S) : cutS S H a = none := by
  unfold cutS
  rw [if_pos h]
theorem cutS_out {S : List Addr} {H : Hp} {a : Addr} (h : a ∉ S) : cutS S H a = H a := by
  unfold cutS
  rw [if_neg h]
theorem cutS_some {S : List Addr} {H : Hp} {a : Addr} {o : HO} (h : cutS S H a = some o) : a ∉ S ∧ H a = some o := by
  by_cases q : a ∈ S
  · rw [cutS_in q] at h
    cases h
  · rw [cutS_out q] at h
    exact ⟨q, h⟩
theorem cutS_le {S : List Addr} {H : Hp} : Same (cutS S H) H := fun b o h => (cutS_some h).2
theorem cutS_mono {S : List Addr} {H H' : Hp} (e : Same H H') : Same (cutS S H) (cutS S H') := fun b o h => by
  obtain ⟨h1, h2⟩ := cutS_some h
  rw [cutS_out h1]
  exact e b o h2
theorem cutS_sub {S T : List Addr} {H : Hp} (h : ∀ a ∈ T, a ∈ S) : Same (cutS S H) (cutS T H) := fun b o q => by
  obtain ⟨h1, h2⟩ := cutS_some q
  rw [cutS_out fun z => h1 (h b z)]
  exact h2
theorem cutS_upd {S : List Addr} {H : Hp} {a : Addr} {o : HO} (h : a ∈ S) : cutS S (upd H a o) = cutS S H := by
  funext b
  by_cases q : b ∈ S
  · rw [cutS_in q, cutS_in q]
  · rw [cutS_out q, cutS_out q, upd_ne (fun e => q (by rw [e]; exact h))]
/-- a new object -/
theorem _root_.L2.Same.upd {H : Hp} {p : Addr} {o : HO} (h : H p = none) : Same H (upd H p o) := fun b x e => by
  rw [upd_ne (ne_of_none e h)]
  exact e
theorem _root_.L2.Same.mut {H H' : Hp} {p : Addr} {o : HO} (e : Same H H') (h : H p = none) : Same H (L2.upd H' p o) := fun a u ha => by
  rw [upd_ne (ne_of_none ha h)]
  exact e a u ha
def Trk (S : List Addr) (H : Hp) : Prop := ∀ a ∈ S, H a ≠ none
theorem Trk.nil {H : Hp} : Trk [] H := fun _ h => absurd h List.not_mem_nil
theorem Trk.mono {S : List Addr} {H H' : Hp} (t : Trk S H) (e : Same H H') : Trk S H' := fun a ha z => by
  cases q : H a with
  | none => exact t a ha q
  | some o =>
    rw [e a o q] at z
    cases z
theorem Trk.upd {S : List Addr} {H : Hp} {p : Addr} {o : HO} (t : Trk S H) : Trk S (L2.upd H p o) := fun a ha z => by
  by_cases e : a = p
  · rw [e, upd_same] at z
    cases z
  · rw [upd_ne e] at z
    exact t a ha z
theorem Trk.cons {S : List Addr} {H : Hp} {p : Addr} {o : HO} (t : Trk S H) (h : H p = some o) : Trk (p :: S) H := fun a ha z => by
  rcases List.mem_cons.mp ha with e | e
  · rw [e, h] at z
    cases z
  · exact t a e z
theorem Trk.out {S : List Addr} {H : Hp} {p : Addr} (t : Trk S H) (h : H p = none) : p ∉ S := fun z => t p z h
/-- a new object beside the cut -/
theorem cutS_new {S : List Addr} {H : Hp} {p : Addr} {o : HO} (t : Trk S H) (h : H p = none) : cutS S (L2.upd H p o) p = some o := by
  rw [cutS_out (t.out h), upd_same]
theorem cutS_none {S : List Addr} {H : Hp} {p : Addr} (h : H p = none) : cutS S H p = none := by
  by_cases q : p ∈ S
  · exact cutS_in q
  · rw [cutS_out q, h]
/-- a new object that will change goes into the cut -/
theorem cutS_cons {S : List Addr} {H : Hp} {p : Addr} {o : HO} (h : H p = none) : Same (cutS S H) (cutS (p :: S) (L2.upd H p o)) := fun b u q => by
  obtain ⟨h1, h2⟩ := cutS_some q
  have hb : b ≠ p := ne_of_none h2 h
  rw [cutS_out (fun z => by
    rcases List.mem_cons.mp z with e | e
    · exact hb e
    · exact h1 e), upd_ne hb]
  exact h2
theorem cutS_tail {S : List Addr} {H : Hp} {p : Addr} : Same (cutS (p :: S) H) (cutS S H) := cutS_sub fun _ h => List.mem_cons_of_mem _ h
/-! ### lists and tuples alike (f: a tuple) -/
def SqF (f : Bool) (K : PySem.W.Frag) (H : Hp) (a : Addr) (xs : List V) : Prop := if f = true then SqT K H a xs else SqL K H a xs
def seqO (f : Bool) (xs : List V) : HO := if f = true then .tup xs else .lst xs
def seqD (f : Bool) (ds : List PyData) : PyData := if f = true then .tuple ds else .list ds
theorem _root_.L2.Same.sqL {K : PySem.W.Frag} {H H' : Hp} {a : Addr} {xs : List V} (e : Same H H') (h : SqL K H a xs) : SqL K H' a xs := by
  rcases h with (h | ⟨o, h⟩) | h
  · exact .inl (.inl (e _ _ h))
  · exact .inl (.inr ⟨o, e _ _ h⟩)
  · exact .inr h
theorem _root_.L2.Same.sqT {K : PySem.W.Frag} {H H' : Hp} {a : Addr} {xs : List V} (e : Same H H') (h : SqT K H a xs) : SqT K H' a xs := by
  rcases h with (h | ⟨o, h⟩) | h
  · exact .inl (.inl (e _ _ h))
  · exact .inl (.inr ⟨o, e _ _ h⟩)
  · exact .inr h
theorem _root_.L2.Same.sqF {f : Bool} {K : PySem.W.Frag} {H H' : Hp} {a : Addr} {xs : List V} (e : Same H H') (h : SqF f K H a xs) : SqF f K H' a xs := by
  cases f with
  | true => exact e.sqT h
  | false => exact e.sqL h
theorem SqF.or {f : Bool} {K : PySem.W.Frag} {H : Hp} {a : Addr} {xs : List V} (h : SqF f K H a xs) : SqL K H a xs ∨ SqT K H a xs := by
  cases f with
  | true => exact .inr h
  | false => exact .inl h
theorem SqF.of {f : Bool} {K : PySem.W.Frag} {H : Hp} {a : Addr} {xs : List V} (h : H a = some (seqO f xs)) : SqF f K H a xs := by
  cases f with
  | true => exact .inl (.inl h)
  | false => exact .inl (.inl h)
theorem sql_of {K : PySem.W.Frag} {H : Hp} {a : Addr} {xs : List V} (h : H a = some (.lst xs)) : SqL K H a xs := .inl (.inl h)
theorem sqt_of {K : PySem.W.Frag} {H : Hp} {a : Addr} {xs : List V} (h : H a = some (.tup xs)) : SqT K H a xs := .inl (.inl h)
/-! ### data -/
section
variable {K : PySem.W.Frag} {H H' : Hp}
mutual
theorem dp_mono (e : Same H H') : ∀ (d : PyData) (v : V), Dp K H v d → Dp K H' v d
  | .none, _, h => by cases h; exact .non
  | .bool b, _, h => by cases h; exact .bl b
  | .int i, _, h => by cases h; exact .int i
  | .str x, _, h => by cases h; exact .str x
  | .list ds, _, h => by
    cases h with
    | lst hs ha => exact .lst (e.sqL hs) (dpa_mono e ds _ ha)
  | .tuple ds, _, h => by
    cases h with
    | tup hs ha => exact .tup (e.sqT hs) (dpa_mono e ds _ ha)
  | .dict _, _, h => by cases h
theorem dpa_mono (e : Same H H') : ∀ (ds : List PyData) (vs : List V), DpAll K H vs ds → DpAll K H' vs ds
  | [], _, h => by cases h; exact .nil
  | d :: ds, _, h => by
    cases h with
    | cons h1 h2 => exact .cons (dp_mono e d _ h1) (dpa_mono e ds _ h2)
end
theorem _root_.L2.Same.dp (e : Same H H') {v : V} {d : PyData} (h : Dp K H v d) : Dp K H' v d := dp_mono e d v h
theorem _root_.L2.Same.dpa (e : Same H H') {vs : List V} {ds : List PyData} (h : DpAll K H vs ds) : DpAll K H' vs ds := dpa_mono e ds vs h
theorem dpa_len : ∀ {vs : List V} {ds : List PyData}, DpAll K H vs ds → vs.length = ds.length
  | _, _, .nil => rfl
  | _, _, .cons _ h => by rw [List.length_cons, List.length_cons, dpa_len h]
theorem dpa_get : ∀ {vs : List V} {ds : List PyData} {i : Nat} {v : V}, DpAll K H vs ds → vs[i]? = some v → ∃ d, ds[i]? = some d ∧ Dp K H v d
  | _, _, _, _, .nil, h => by simp at h
  | _, _, 0, v, .cons h1 h2, h => by
    simp at h
    subst h
    exact ⟨_, rfl, h1⟩
  | _, _, i + 1, v, .cons h1 h2, h => by
    obtain ⟨d, e1, e2⟩ := dpa_get (i := i) h2 (by simpa using h)
    exact ⟨d, by simpa using e1, e2⟩
theorem dpa_get' : ∀ {vs : List V} {ds : List PyData} {i : Nat} {d : PyData}, DpAll K H vs ds → ds[i]? = some d → ∃ v, vs[i]? = some v ∧ Dp K H v d
  | _, _, _, _, .nil, h => by simp at h
  | _, _, 0, v, .cons h1 h2, h => by
    simp at h
    subst h
    exact ⟨_, rfl, h1⟩
  | _, _, i + 1, v, .cons h1 h2, h => by
    obtain ⟨d, e1, e2⟩ := dpa_get' (i := i) h2 (by simpa using h)
    exact ⟨d, by simpa using e1, e2⟩
theorem dpa_app : ∀ {vs ws : List V} {ds es : List PyData}, DpAll K H vs ds → DpAll K H ws es → DpAll K H (vs ++ ws) (ds ++ es)
  | _, _, _, _, .nil, h => h
  | _, _, _, _, .cons h1 h2, h => .cons h1 (dpa_app h2 h)
theorem dpa_one {v : V} {d : PyData} (h : Dp K H v d) : DpAll K H [v] [d] := .cons h .nil
theorem Dp.seq {f : Bool} {a : Addr} {xs : List V} {ds : List PyData} (h : SqF f K H a xs) (ha : DpAll K H xs ds) : Dp K H (.ref a) (seqD f ds) := by
  cases f with
  | true => exact .tup h ha
  | false => exact .lst h ha
theorem Dp.seq_of {f : Bool} {v : V} {ds : List PyData} (h : Dp K H v (seqD f ds)) : ∃ a xs, v = .ref a ∧ SqF f K H a xs ∧ DpAll K H xs ds := by
  cases f with
  | true =>
    have h : Dp K H v (.tuple ds) := h
    cases h with
    | tup hs ha => exact ⟨_, _, rfl, hs, ha⟩
  | false =>
    have h : Dp K H v (.list ds) := h
    cases h with
    | lst hs ha => exact ⟨_, _, rfl, hs, ha⟩
theorem dpa_strs : ∀ {xs : List Str}, DpAll K H (xs.map V.str) (xs.map PyData.str)
  | [] => .nil
  | x :: xs => .cons (.str x) dpa_strs
theorem dpa_strs_of : ∀ {vs : List V} {xs : List Str}, DpAll K H vs (xs.map PyData.str) → vs = xs.map V.str
  | _, [], .nil => rfl
  | _, x :: xs, .cons h1 h2 => by
    cases h1
    rw [dpa_strs_of h2]
    rfl
end
/-! ### what is walked, indexed: a list or a tuple -/
section
variable {X : Cx}
theorem pi_or {tg l : Expr} {w1 w2 : TI} (h1 : PI X tg l w1) (h2 : PI X tg l w2) : PI X tg l (fun σ H R => w1 σ H R ∨ w2 σ H R) := ⟨fun pins s σ H R I h => by
  rcases h with h | h
  · exact h1.run pins s σ H R I h
  · exact h2.run pins s σ H R I h⟩
def iSeq (K : PySem.W.Frag) (tl : TE) : TI := fun σ H R => iList K tl σ H R ∨ iTup K tl σ H R
theorem pi_seq {tg l : Expr} {tl : TE} (hl : PE X l tl) : PI X tg l (iSeq X.K tl) := pi_or (pi_list hl) (pi_tup hl)
theorem iSeq_at {K : PySem.W.Frag} {tl : TE} {σ : L2.St} {H H1 : Hp} {R : It → Hp → Prop} {a : Addr} {f : Bool} {xs : List V} (ht : ∀ R' : VK, R' (.ref a) H1 → tl σ H R') (hs : SqF f K H1 a xs)
    (q : ∀ J, Walk J xs.length (fun H => SqF f K H a xs) (YAt xs) → R J H1) : iSeq K tl σ H R := by
  cases f with
  | false => exact .inl (ht _ ⟨a, rfl, ⟨xs, hs⟩, q _ walk_list⟩)
  | true => exact .inr (ht _ ⟨a, rfl, ⟨xs, hs⟩, q _ walk_tup⟩)
def rIxF (K : PySem.W.Frag) : R2 := fun x y H Q => rIxL K x y H Q ∨ rIxT K x y H Q
theorem ix_lt : IxR X (rIxF X.K) := ix_list.or ix_tup
theorem rIxF_at {K : PySem.W.Frag} {f : Bool} {p : Addr} {xs : List V} {i : Int} {v : V} {H : Hp} {Q : VK} (h : SqF f K H p xs) (ha : atI xs i = some v) (q : Q v H) : rIxF K (.ref p) (.int i) H Q := by
  cases f with
  | false => exact .inl ⟨p, xs, i, v, rfl, rfl, h, ha, q⟩
  | true => exact .inr ⟨p, xs, i, v, rfl, rfl, h, ha, q⟩
theorem walk_zipTT {K : PySem.W.Frag} {a b : Addr} {xs ys : List V} (e : xs.length = ys.length) : Walk (RZ.ItzT K a b) xs.length (fun H => SqT K H a xs ∧ SqT K H b ys) (YPair (fun i => xs[i]?) (fun i => ys[i]?)) := by
  refine ⟨fun i _ hi q => ?_, fun _ q => ⟨xs, ys, q.1, q.2, .inl (Nat.le_refl _)⟩, fun i H v H' _ q y => ?_⟩
  · have h2 : i < ys.length := by omega
    exact ⟨xs, ys, xs[i], ys[i], q.1, q.2, by simp [hi], by simp [h2]⟩
  · obtain ⟨T, x, z, h1, h2, h3, h4, h5⟩ := y
    exact ⟨T, x, z, h1, h2, h3, h4 xs q.1, h5 ys q.2⟩
theorem iZip_at {K : PySem.W.Frag} {ta : TA} {σ : L2.St} {H H1 : Hp} {R : It → Hp → Prop} {a b : Addr} {f : Bool} {xs ys : List V} (ht : ∀ R' : List V → Hp → Prop, R' [.ref a, .ref b] H1 → ta σ H R') (h1 : SqF f K H1 a xs) (h2 : SqF f K H1 b ys) (el : xs.length = ys.length)
    (q : ∀ J, Walk J xs.length (fun H => SqF f K H a xs ∧ SqF f K H b ys) (YPair (fun i => xs[i]?) (fun i => ys[i]?)) → R J H1) : RZ.iZipA K ta σ H R := by
  refine ht _ ⟨a, b, xs, ys, rfl, ?_⟩
  cases f with
  | false => exact .inl ⟨h1, h2, q _ (walk_zip (by omega))⟩
  | true => exact .inr ⟨h1, h2, q _ (walk_zipTT el)⟩
/-! ### a loop, a comprehension by a walk -/
inductive ForP (wi : TI) (g : TG) (tb : TS) (D : Ends) (σ : L2.St) (H : Hp) : Prop
  | yes (h : tFor wi g tb D σ H)
  | no (h : False)
def tForX (wi : TI) (g : TG) (tb : TS) : TS := fun D σ H => ForP wi g tb D σ H
theorem ps_forX {st : Stmt} {wi : TI} {g : TG} {tb : TS} (h : PS X st (tFor wi g tb)) : PS X st (tForX wi g tb) := ⟨fun pins s σ H D I q => by
  cases q with
  | yes q => exact h.run pins s σ H D I q
  | no q => exact q.elim⟩
theorem for_of {wi : TI} {g : TG} {tb : TS} {D : Ends} {σ : L2.St} {H : Hp} (q : wi σ H fun J H1 => tFor (fun _ _ R => R J H1) g tb D σ H1) : tForX wi g tb D σ H := .yes q
inductive WhP (t : TT) (tb : TS) (D : Ends) (σ : L2.St) (H : Hp) : Prop
  | yes (h : tWhile t tb D σ H)
  | no (h : False)
def tWhileX (t : TT) (tb : TS) : TS := fun D σ H => WhP t tb D σ H
theorem ps_whileX {st : Stmt} {t : TT} {tb : TS} (h : PS X st (tWhile t tb)) : PS X st (tWhileX t tb) := ⟨fun pins s σ H D I q => by
  cases q with
  | yes q => exact h.run pins s σ H D I q
  | no q => exact q.elim⟩
inductive LcP (wi : TI) (g : TG) (tt : TT) (te : TE) (vs : List Nat) (σ : L2.St) (H : Hp) (Q : VK) : Prop
  | yes (h : tLc wi g tt te vs σ H Q)
  | no (h : False)
def tLcX (wi : TI) (g : TG) (tt : TT) (te : TE) (vs : List Nat) : TE := fun σ H Q => LcP wi g tt te vs σ H Q
theorem pe_lcX {e : Expr} {wi : TI} {g : TG} {tt : TT} {te : TE} {vs : List Nat} (h : PE X e (tLc wi g tt te vs)) : PE X e (tLcX wi g tt te vs) := ⟨fun pins s σ H Q I q => by
  cases q with
  | yes q => exact h.run pins s σ H Q I q
  | no q => exact q.elim⟩
theorem lc_of {wi : TI} {g : TG} {tt : TT} {te : TE} {vs : List Nat} {σ : L2.St} {H : Hp} {Q : VK} (q : tLc wi g tt te vs σ H Q) : tLcX wi g tt te vs σ H Q := .yes q
theorem ps_setLcX {st : Stmt} {i : Nat} {wi : TI} {g : TG} {tt : TT} {te : TE} {vs : List Nat} (h : PS X st (tAsg (tLc wi g tt te vs) (gName i))) : PS X st (tAsg (tLcX wi g tt te vs) (gName i)) := ⟨fun pins s σ H D I q => by
  have q : LcP wi g tt te vs σ H (fun x H1 => gName i x σ H1 D.nx) := q
  cases q with
  | yes q => exact h.run pins s σ H D I q
  | no q => exact q.elim⟩
theorem forR_it {J : It} {n : Nat} {G : Hp → Prop} {Y : Nat → Hp → V → Hp → Prop} (w : Walk J n G Y) {g : TG} {tb : TS} {D : Ends} {σ : L2.St} {H : Hp} (Pv : Nat → L2.St → Hp → Prop) (h0 : Pv 0 σ H) (hG : ∀ i σ H, i ≤ n → Pv i σ H → G H)
    (hs : ∀ i x σ H H', i < n → Pv i σ H → Y i H x H' → g x σ H' fun σ2 H2 => tb { D with nx := Pv (i + 1), ct := Pv (i + 1), bk := D.nx } σ2 H2) (hd : ∀ σ H, Pv n σ H → D.nx σ H) : tFor (fun _ _ R => R J H) g tb D σ H := for_it w Pv h0 hG hs hd
/-! ### isinstance -/
theorem tyx_list {K : PySem.W.Frag} {H : Hp} {a : Addr} {xs : List V} (h : SqL K H a xs) : TyX K H (.ref a) (.type "list") := by
  rcases h with (h | ⟨o, h⟩) | ⟨o, its, n, h, hc, _⟩
  · exact .base (.lst h)
  · exact .base (.frz h)
  · exact .kList h hc
theorem tyx_tup {K : PySem.W.Frag} {H : Hp} {a : Addr} {xs : List V} (h : SqT K H a xs) : TyX K H (.ref a) (.type "tuple") := by
  rcases h with (h | ⟨o, h⟩) | ⟨o, its, n, h, hc, _⟩
  · exact .base (.tup h)
  · exact .fTuple h
  · exact .kTuple h hc
def tyD : PyData → String
  | .none => "NoneType"
  | .bool _ => "bool"
  | .int _ => "int"
  | .str _ => "str"
  | .list _ => "list"
  | .tuple _ => "tuple"
  | .dict _ => "dict"
theorem tyx_dp {K : PySem.W.Frag} {H : Hp} {v : V} {d : PyData} (h : Dp K H v d) : TyX K H v (.type (tyD d)) := by
  cases h with
  | non => exact .base .non
  | bl b => exact .base (.bl b)
  | int i => exact .base (.int i)
  | str x => exact .base (.str x)
  | lst hs _ => exact tyx_list hs
  | tup hs _ => exact tyx_tup hs
/-- isinstance(x, (A, B)) of data -/
theorem isi2 {K : PySem.W.Frag} {H : Hp} {Q : VK} {v : V} {d : PyData} {p : Addr} {A B : String} {r : Bool} (h : Dp K H v d) (hp : H p = some (.tup [.ty A, .ty B])) (hk : ∀ t, t = tyD d → PySem.W.kitAny K (.type t) [.type A, .type B] = some r) (q : Q (.bl r) H) :
    rIsiT K [v, .ref p] H Q := ⟨v, p, _, _, _, r, rfl, hp, .cons (.ty _) (.cons (.ty _) .nil), tyx_dp h, hk _ rfl, q⟩
theorem isi1 {K : PySem.W.Frag} {H : Hp} {Q : VK} {v : V} {d : PyData} {A : String} {r : Bool} (h : Dp K H v d) (hk : ∀ t, t = tyD d → PySem.W.kitOne K (.type t) (.type A) = some r) (q : Q (.bl r) H) :
    rIsi K [v, .ty A] H Q := ⟨v, _, _, _, r, rfl, .ty _, tyx_dp h, hk _ rfl, q⟩
end
end Jl

set_option Elab.async false
set_option linter.all false
set_option maxRecDepth 100000
set_option maxHeartbeats 4000000
set_option pp.maxSteps 900
namespace Jl
open PySem PySem.Spec PyProof.Rows L2
open Evl (sz_of sz_lt)
local macro_rules | `(tactic| walk_at "at") => `(tactic| first | exact box0 | exact box1 | exact box2)
local macro_rules | `(tactic| walk_at "side") => `(tactic| first
  | (show (0 : Int) < _; decide)
  | (show (0 : Int) < _; omega)
  | exact ⟨by decide, by decide, by decide⟩
  | exact sz_of (Nat.le_of_ble_eq_true rfl)
  | exact rfl
  | exact Or.inl (by decide)
  | exact Or.inr (by decide)
  | exact Or.inr ⟨by omega, by omega⟩
  | exact Or.inl ⟨by omega, by omega⟩
  | exact ⟨by decide, by decide +kernel⟩)
local macro_rules | `(tactic| walk_at "ev1") => `(tactic| first
  | refine ⟨_, rfl, ?_⟩
  | refine ⟨_, _, rfl, rfl, ?_⟩
  | refine ⟨_, _, _, _, rfl, rfl, (by assumption), (by walk_at "at"), ?_⟩
  | refine Or.inl ⟨_, rfl, ?_⟩
  | refine Or.inr ⟨_, rfl, ?_⟩
  | refine ⟨(by walk_at "side"), ?_⟩)
local macro_rules | `(tactic| walk_at "ev") => `(tactic| repeat (walk_at "ev1"))

/-! ### data of bounded depth and width -/
def okD : Nat → PyData → Prop
  | 0, _ => False
  | n + 1, .list ds => ds.length ≤ 1000 ∧ ∀ d ∈ ds, okD n d
  | n + 1, .tuple ds => ds.length ≤ 1000 ∧ ∀ d ∈ ds, okD n d
  | _ + 1, .dict _ => False
  | _ + 1, _ => True
theorem okD_seq {n : Nat} {f : Bool} {ds : List PyData} : okD (n + 1) (seqD f ds) ↔ ds.length ≤ 1000 ∧ ∀ d ∈ ds, okD n d := by
  cases f <;> exact Iff.rfl
mutual
def listsD : PyData → PyData
  | .list ds => .list (listsA ds)
  | .tuple ds => .list (listsA ds)
  | .none => .none
  | .bool b => .bool b
  | .int i => .int i
  | .str x => .str x
  | .dict k => .dict k
def listsA : List PyData → List PyData
  | [] => []
  | d :: ds => listsD d :: listsA ds
end
theorem listsA_map : ∀ ds : List PyData, listsA ds = ds.map listsD
  | [] => rfl
  | d :: ds => by
    show listsD d :: listsA ds = listsD d :: ds.map listsD
    rw [listsA_map ds]
theorem listsD_seq {f : Bool} {ds : List PyData} : listsD (seqD f ds) = .list (ds.map listsD) := by
  cases f
  · show PyData.list (listsA ds) = _
    rw [listsA_map]
  · show PyData.list (listsA ds) = _
    rw [listsA_map]
theorem fnok_no {P : Program} {w : World} {K : PySem.W.Frag} {mg : Str → Option Value} {base : Heap} {CX : CXT} {k : Nat} {f : Addr} {fd : FuncData} {ps : List Str} : FnOk P w K mg base CX k f fd ps (fun _ _ _ _ => False) := ⟨fun _ _ _ _ h => h.elim, fun _ _ _ _ _ _ _ _ _ _ _ _ _ h => h.elim⟩
/-- an atom, or a row -/
theorem dp_cases {K : PySem.W.Frag} {H : Hp} {v : V} {d : PyData} (h : Dp K H v d) : (∃ f ds, d = seqD f ds) ∨ (PySem.W.kitAny K (.type (tyD d)) [.type "list", .type "tuple"] = some false ∧ listsD d = d) := by
  have no : ∀ s : String, kitB s "list" = some false → kitB s "tuple" = some false → PySem.W.kitAny K (.type s) [.type "list", .type "tuple"] = some false := fun s h1 h2 =>
    kitAny_cons (kit_ty h1) (fun _ => kitAny_cons (kit_ty h2) (fun _ => kitAny_nil) (fun z => nomatch z)) (fun z => nomatch z)
  cases h with
  | non => exact .inr ⟨no "NoneType" (by decide +kernel) (by decide +kernel), rfl⟩
  | bl b => exact .inr ⟨no "bool" (by decide +kernel) (by decide +kernel), rfl⟩
  | int i => exact .inr ⟨no "int" (by decide +kernel) (by decide +kernel), rfl⟩
  | str x => exact .inr ⟨no "str" (by decide +kernel) (by decide +kernel), rfl⟩
  | @lst a xs ds hs _ => exact .inl ⟨false, ds, rfl⟩
  | @tup a xs ds hs _ => exact .inl ⟨true, ds, rfl⟩
theorem kit_seq {K : PySem.W.Frag} {fb : Bool} {ds : List PyData} : PySem.W.kitAny K (.type (tyD (seqD fb ds))) [.type "list", .type "tuple"] = some true := by
  have h1 : PySem.W.kitAny K (.type "list") [.type "list", .type "tuple"] = some true := kitAny_cons (b := true) (kit_ty (by decide +kernel)) (fun z => nomatch z) (fun _ => rfl)
  have h2 : PySem.W.kitAny K (.type "tuple") [.type "list", .type "tuple"] = some true := kitAny_cons (b := false) (kit_ty (by decide +kernel)) (fun _ => kitAny_cons (b := true) (kit_ty (by decide +kernel)) (fun z => nomatch z) (fun _ => rfl)) (fun z => nomatch z)
  cases fb with
  | false => exact h1
  | true => exact h2
/-- a place that was free goes into the cut -/
theorem cutS_into {S : List Addr} {H H' : Hp} {p : Addr} (e : Same H H') (h : H p = none) : Same (cutS S H) (cutS (p :: S) H') := fun b o hb => by
  obtain ⟨h1, h2⟩ := cutS_some hb
  have nb : b ≠ p := ne_of_none h2 h
  rw [cutS_out (fun z => by
    rcases List.mem_cons.mp z with z | z
    · exact nb z
    · exact h1 z)]
  exact e b o h2
/-- a comprehension over data, its element told by a function of data -/
theorem lc_data {K : PySem.W.Frag} {tl te : TE} {j : Nat} {vs : List Nat} {σ : L2.St} {H H0 : Hp} {Q : VK} {a : Addr} {fb : Bool} {xs : List V} {ds : List PyData} {S : List Addr} (g : PyData → PyData)
    (ht : ∀ R' : VK, R' (.ref a) H0 → tl σ H R') (hs : SqF fb K H0 a xs) (ha : DpAll K (cutS S H0) xs ds) (hT : Trk S H0) (hl : ds.length ≤ 1000)
    (hw : ∀ x, wipe ((wipe σ vs).set j (some x)) vs = wipe σ vs)
    (he : ∀ (x : V) (d : PyData) (H1 : Hp) (T : List Addr), d ∈ ds → Trk T H1 → Dp K (cutS T H1) x d → ∀ Q' : VK, (∀ H2 y, Same H1 H2 → Dp K (cutS T H2) y (g d) → Q' y H2) → te ((wipe σ vs).set j (some x)) H1 Q')
    (q : ∀ D ys H', Same H0 H' → H0 D = none → H' D = some (.lst ys) → DpAll K (cutS S H') ys (ds.map g) → Q (.ref D) H') : tLcX (iSeq K tl) (gName j) tYes te vs σ H Q := by
  have ll := dpa_len ha
  refine lc_of ?_
  refine iSeq_at ht hs fun J w D hD => ?_
  refine lc_it w (fun i H1 => ∃ ys, Same H0 H1 ∧ H1 D = some (.lst ys) ∧ DpAll K (cutS (D :: S) H1) ys ((ds.take i).map g)) ⟨[], .upd hD, upd_same, .nil⟩ (fun i H1 _ p => ?_) (fun i x H1 H1' hi p y => ?_) (fun H1 p => ?_)
  · obtain ⟨ys, e1, _⟩ := p
    exact e1.sqF hs
  · obtain ⟨ys, e1, e2, e3⟩ := p
    obtain ⟨rfl, hx⟩ := y
    obtain ⟨d, hd, hxd⟩ := dpa_get ha hx
    refine ⟨hw x, ?_⟩
    dsimp only [tYes]
    rw [if_pos rfl]
    have s3 : Same (cutS S H0) (cutS (D :: S) H1') := cutS_into e1 hD
    have hxd1 : Dp K (cutS (D :: S) H1') x d := s3.dp hxd
    refine he x d H1' (D :: S) (List.mem_of_getElem? hd) ((hT.mono e1).cons e2) hxd1 _ fun H2 y s2 hy => ?_
    refine ⟨ys, s2 _ _ e2, ?_, ys ++ [y], ?_, upd_same, ?_⟩
    · have := dpa_len e3
      rw [this, List.length_map, List.length_take]
      exact sz_lt (by omega)
    · exact (e1.trans s2).mut hD
    · rw [cutS_upd List.mem_cons_self, List.take_add_one, hd, List.map_append]
      exact dpa_app ((cutS_mono s2).dpa e3) (dpa_one hy)
  · obtain ⟨ys, e1, e2, e3⟩ := p
    refine q D ys H1 e1 hD e2 ?_
    have e4 : (ds.take xs.length).map g = ds.map g := by rw [List.take_of_length_le (by omega)]
    rw [e4] at e3
    exact cutS_tail.dpa e3
section
variable {P : Program} {w : World} {K : PySem.W.Frag} {mg : Str → Option Value} {base : Heap}
end
end Jl

set_option Elab.async false
set_option linter.all false
set_option maxRecDepth 100000
set_option maxHeartbeats 4000000
set_option pp.maxSteps 900
namespace Jl
open PySem PySem.Spec PyProof.Rows L2
open Evl (sz_of sz_lt)
local macro_rules | `(tactic| walk_at "at") => `(tactic| first | exact box0 | exact box1 | exact box2)
local macro_rules | `(tactic| walk_at "side") => `(tactic| first
  | (show (0 : Int) < _; decide)
  | (show (0 : Int) < _; omega)
  | exact ⟨by decide, by decide, by decide⟩
  | exact sz_of (Nat.le_of_ble_eq_true rfl)
  | exact rfl
  | exact Or.inl (by decide)
  | exact Or.inr (by decide)
  | exact Or.inr ⟨by omega, by omega⟩
  | exact Or.inl ⟨by omega, by omega⟩
  | exact ⟨by decide, by decide +kernel⟩)
local macro_rules | `(tactic| walk_at "ev1") => `(tactic| first
  | refine ⟨_, rfl, ?_⟩
  | refine ⟨_, _, rfl, rfl, ?_⟩
  | refine ⟨_, _, _, _, rfl, rfl, (by assumption), (by walk_at "at"), ?_⟩
  | refine Or.inl ⟨_, rfl, ?_⟩
  | refine Or.inr ⟨_, rfl, ?_⟩
  | refine ⟨(by walk_at "side"), ?_⟩)
local macro_rules | `(tactic| walk_at "nrm") => `(tactic| dsimp only [tNil, tCons, tC, tCB])
local macro_rules | `(tactic| walk_at "ev") => `(tactic| repeat (walk_at "ev1"))

abbrev sc_w_same_N : List Str := ["_law_got", "_law_due", "_law_mine", "_law_its"]
abbrev s_w_same : Stmt := topS 16
theorem sc_w_same : FnScope ["_law_got", "_law_due", "_law_mine", "_law_its"] ["_law_got", "_law_due"] (defScope s_w_same) := ⟨rfl, rfl, rfl, by decide +kernel, rfl, by decide +kernel, by decide +kernel⟩
theorem kit_list {K : PySem.W.Frag} {fb : Bool} {ds : List PyData} : PySem.W.kitOne K (.type (tyD (seqD fb ds))) (.type "list") = some (!fb) := by
  have h1 : PySem.W.kitOne K (.type "list") (.type "list") = some true := kit_ty (by decide +kernel)
  have h2 : PySem.W.kitOne K (.type "tuple") (.type "list") = some false := kit_ty (by decide +kernel)
  cases fb with
  | false => exact h1
  | true => exact h2
theorem kit_tup {K : PySem.W.Frag} {fb : Bool} {ds : List PyData} : PySem.W.kitOne K (.type (tyD (seqD fb ds))) (.type "tuple") = some fb := by
  have h1 : PySem.W.kitOne K (.type "list") (.type "tuple") = some false := kit_ty (by decide +kernel)
  have h2 : PySem.W.kitOne K (.type "tuple") (.type "tuple") = some true := kit_ty (by decide +kernel)
  cases fb with
  | false => exact h1
  | true => exact h2
section
variable {P : Program} {w : World} {K : PySem.W.Frag} {mg : Str → Option Value} {base : Heap}
/-- _law_same(got, due) of equal data -/
def spSame (K : PySem.W.Frag) : Nat → Sp
  | 0 => fun _ _ _ _ => False
  | n + 1 => fun vs H Q _ => ∃ (x y : V) (d : PyData), vs = [x, y] ∧ Dp K H x d ∧ Dp K H y d ∧ okD (n + 1) d ∧ ∀ H', Same H H' → Q (.bl true) H'
theorem ok_same {f : Addr} {fd : FuncData} (F_w_same : Fun K "_law_same" "_law_same" s_w_same f fd) (g_w_same : mg "_law_same" = some (.ref f)) (b_w_same : Binds K fd ["_law_got", "_law_due"] []) (m_isinstance : mg "isinstance" = none) (m_list : mg "list" = none) (m_tuple : mg "tuple" = none)
    (m_bool : mg "bool" = none) (m_str : mg "str" = none) (m_int : mg "int" = none) (m_len : mg "len" = none) (m_all : mg "all" = none) (m_zip : mg "zip" = none) :
    ∀ n : Nat, FnOk P w K mg base CX0 n f fd ["_law_got", "_law_due"] (spSame K n)
  | 0 => fnok_no
  | n + 1 => by
    have G_w_same := ok_same F_w_same g_w_same b_w_same m_isinstance m_list m_tuple m_bool m_str m_int m_len m_all m_zip n
    refine F_w_same.ok sc_w_same (fun vs H Q E h => ?_) (fun cdv A outer s H vs Q E hr h => ?_)
    · obtain ⟨x, y, d, rfl, _⟩ := h
      rfl
    · obtain ⟨x, y, d, rfl, hx, hy, hk, q⟩ := h
      refine ⟨_, (pss_cons (ps_if (pt_val (pe_callB call_isiT (by rfl) m_isinstance (by decide +kernel) (pa_cons (pv 1) (pa_cons (pe_tup (pa_cons (pe_bltn (v := .ty "list") (u := .type "list") (by rfl) m_list (by decide +kernel) rfl) (pa_cons (pe_bltn (v := .ty "tuple") (u := .type "tuple") (by rfl) m_tuple (by decide +kernel) rfl) pa_nil))) pa_nil)))) 
      (pss_cons (ps_if (PW.pt (pw_or (pt_cmpR op_ne (pe_callB call_isi (by rfl) m_isinstance (by decide +kernel) (pa_cons (pv 0) (pa_cons (pe_bltn (v := .ty "list") (u := .type "list") (by rfl) m_list (by decide +kernel) rfl) pa_nil))) (pe_callB call_isi (by rfl) m_isinstance (by decide +kernel) (pa_cons (pv 1) (pa_cons (pe_bltn (v := .ty "list") (u := .type "list") (by rfl) m_list (by decide +kernel) rfl) pa_nil))) (nomark _)) (pw_or1 (pt_cmpR op_ne (pe_callB call_isi (by rfl) m_isinstance (by decide +kernel) (pa_cons (pv 0) (pa_cons (pe_bltn (v := .ty "tuple") (u := .type "tuple") (by rfl) m_tuple (by decide +kernel) rfl) pa_nil))) (pe_callB call_isi (by rfl) m_isinstance (by decide +kernel) (pa_cons (pv 1) (pa_cons (pe_bltn (v := .ty "tuple") (u := .type "tuple") (by rfl) m_tuple (by decide +kernel) rfl) pa_nil))) (nomark _))))) (pss_one (ps_ret pe_bl)) pss_nil) 
      (pss_one (ps_ret (pe_and (pe_cmpR op_eq (pe_callB call_len_seq (by rfl) m_len PySem.boot_len (pa_cons (pv 0) pa_nil)) (pe_callB call_len_seq (by rfl) m_len PySem.boot_len (pa_cons (pv 1) pa_nil)) (nomark _)) (pe_one (pe_callB (cr_all rfl) (by rfl) m_all (by decide +kernel) (pa_cons (pe_lcX (pe_lc (own := [("_law_mine", 2), ("_law_its", 3)]) (g := gTup K 2 (gCons (gName 2) (gCons (gName 3) gNil))) (tt := tYes) (by rfl) sc_w_same.nd (RZ.pi_zipA (by rfl) m_zip (pa_cons (pv 0) (pa_cons (pv 1) pa_nil))) (blkOk_by (own := [("_law_mine", 2), ("_law_its", 3)]) (N := sc_w_same_N) (sc := defScope s_w_same) (by decide +kernel)) (fun _ _ _ _ _ => pg_tup rfl (pgs_cons (pg_name (i := 2) sc_w_same.nd rfl (Or.inl rfl)) (pgs_cons (pg_name (i := 3) sc_w_same.nd rfl (Or.inl rfl)) pgs_nil))) (fun _ _ _ _ _ => pts_nil) (fun _ _ _ _ _ => (pe_call G_w_same hr (by rfl) g_w_same F_w_same.kp b_w_same .nil pass0 (pa_cons (pv 2) (pa_cons (pv 3) pa_nil)))))) pa_nil))))))) pss_nil) 
    (pss_cons (ps_if (PW.pt (pw_or (pt_cmpR op_isN (pv 1) pe_non (nomark _)) (pw_or1 (pt_val (pe_callB call_isiT (by rfl) m_isinstance (by decide +kernel) (pa_cons (pv 1) (pa_cons (pe_tup (pa_cons (pe_bltn (v := .ty "bool") (u := .type "bool") (by rfl) m_bool (by decide +kernel) rfl) (pa_cons (pe_bltn (v := .ty "str") (u := .type "str") (by rfl) m_str (by decide +kernel) rfl) pa_nil))) pa_nil))))))) (pss_one (ps_ret (pe_and (pe_cmpR op_eq (pv 0) (pv 1) (nomark _)) (pe_and (pe_cmpR op_eq (pe_callB call_isi (by rfl) m_isinstance (by decide +kernel) (pa_cons (pv 0) (pa_cons (pe_bltn (v := .ty "bool") (u := .type "bool") (by rfl) m_bool (by decide +kernel) rfl) pa_nil))) (pe_callB call_isi (by rfl) m_isinstance (by decide +kernel) (pa_cons (pv 1) (pa_cons (pe_bltn (v := .ty "bool") (u := .type "bool") (by rfl) m_bool (by decide +kernel) rfl) pa_nil))) (nomark _)) (pe_one (pe_cmpR op_eq (pe_cmpR op_isN (pv 0) pe_non (nomark _)) (pe_cmpR op_isN (pv 1) pe_non (nomark _)) (nomark _))))))) pss_nil) 
    (pss_one (ps_ret (pe_and (pe_callB call_isi (by rfl) m_isinstance (by decide +kernel) (pa_cons (pv 0) (pa_cons (pe_bltn (v := .ty "int") (u := .type "int") (by rfl) m_int (by decide +kernel) rfl) pa_nil))) (pe_and (pe_not (pe_callB call_isi (by rfl) m_isinstance (by decide +kernel) (pa_cons (pv 0) (pa_cons (pe_bltn (v := .ty "bool") (u := .type "bool") (by rfl) m_bool (by decide +kernel) rfl) pa_nil)))) (pe_one (pe_cmpR op_eq (pv 0) (pv 1) (nomark _))))))))), ?_⟩
      walk_at "ev"
      intro p hp
      have e1 : Same H (upd H p (.tup [.ty "list", .ty "tuple"])) := .upd hp
      have hp1 : (upd H p (.tup [.ty "list", .ty "tuple"])) p = some (.tup [.ty "list", .ty "tuple"]) := upd_same
      walk_at "nrm"
      generalize upd H p (.tup [.ty "list", .ty "tuple"]) = H1 at e1 hp1
      have hx1 := e1.dp hx
      have hy1 := e1.dp hy
      rcases dp_cases hy with ⟨fb, ds, rfl⟩ | ⟨hk0, hl⟩
      · refine isi2 hy1 hp1 (fun t e => by rw [e]; exact kit_seq) ?_
        refine ⟨_, rfl, iteT ?_⟩
        walk_at "ev"
        walk_at "nrm"
        refine isi1 hx1 (fun t e => by rw [e]; exact kit_list) ?_
        walk_at "ev"
        walk_at "nrm"
        refine isi1 hy1 (fun t e => by rw [e]; exact kit_list) ?_
        walk_at "ev"
        refine iteNS rfl ?_
        walk_at "ev"
        walk_at "nrm"
        refine isi1 hx1 (fun t e => by rw [e]; exact kit_tup) ?_
        walk_at "ev"
        walk_at "nrm"
        refine isi1 hy1 (fun t e => by rw [e]; exact kit_tup) ?_
        walk_at "ev"
        refine iteNS rfl ?_
        obtain ⟨a, xs, rfl, ha, hax⟩ := Dp.seq_of hx1
        obtain ⟨b, ys, rfl, hb, hby⟩ := Dp.seq_of hy1
        have lx := dpa_len hax
        have ly := dpa_len hby
        refine ⟨_, rfl, a, xs, rfl, ha.or, _, rfl, b, ys, rfl, hb.or, rfl, _, rfl, ?_⟩
        have el : V.int (xs.length : Nat) = V.int (ys.length : Nat) := by rw [lx, ly]
        rw [decide_eq_true el]
        refine iteT ?_
        obtain ⟨hk1, hk2⟩ := okD_seq.mp hk
        walk_at "nrm"
        refine lc_of ?_
        refine iZip_at (fun R' r => ⟨_, rfl, _, rfl, r⟩) ha hb (by omega) fun J w D hD => ?_
        refine lc_it w (fun i H2 => Same H1 H2 ∧ H2 D = some (.lst (List.replicate i (.bl true)))) ⟨.upd hD, upd_same⟩ (fun i H2 _ p => ⟨p.1.sqF ha, p.1.sqF hb⟩) (fun i v H2 H2' hi p yy => ?_) (fun H2 p => ?_)
        · obtain ⟨s1, hl⟩ := p
          obtain ⟨T, x1, x2, rfl, hTn, rfl, g1, g2⟩ := yy
          obtain ⟨d, hd, hd1⟩ := dpa_get hax g1
          obtain ⟨d', hd', hd2⟩ := dpa_get hby g2
          cases Option.some.inj (hd.symm.trans hd')
          have s2 : Same H1 (upd H2 T (.tup [x1, x2])) := s1.trans (.upd hTn)
          have hkd := hk2 d (List.mem_of_getElem? hd)
          refine ⟨T, [x1, x2], rfl, .inl (.inl upd_same), rfl, x1, [x2], rfl, x2, [], rfl, rfl, rfl, ?_⟩
          dsimp only [tYes]
          rw [if_pos rfl]
          refine ⟨_, rfl, _, rfl, ?_⟩
          cases n with
          | zero => exact hkd.elim
          | succ n =>
            refine ⟨x1, x2, d, rfl, s2.dp hd1, s2.dp hd2, hkd, fun H3 s3 => ⟨_, s3 _ _ ((Same.upd hTn) _ _ hl), ?_, s2.trans s3 |>.mut hD, ?_⟩⟩
            · rw [List.length_replicate]
              exact sz_lt (by omega)
            · rw [upd_same, List.replicate_succ']
        · obtain ⟨s1, hl⟩ := p
          refine ⟨D, List.replicate xs.length true, rfl, sql_of (by rw [List.map_replicate]; exact hl), ?_⟩
          have e : (List.replicate xs.length true).all id = true := by
            rw [List.all_eq_true]
            intro z hz
            rw [List.eq_of_mem_replicate hz]
            rfl
          rw [e]
          exact q _ (e1.trans s1)
      · refine isi2 hy1 hp1 (fun t e => by rw [e]; exact hk0) ?_
        refine ⟨_, rfl, iteF ?_⟩
        cases hx with
        | non => 
          cases hy
          walk_at "ev"
          walk_at "nrm"
          refine isi1 (r := false) hx1 (fun t e => by rw [e]; exact kit_ty (a := "NoneType") (b := "bool") (by decide +kernel)) ?_
          walk_at "ev"
          walk_at "nrm"
          refine isi1 (r := false) hy1 (fun t e => by rw [e]; exact kit_ty (a := "NoneType") (b := "bool") (by decide +kernel)) ?_
          walk_at "ev"
          exact q _ e1
        | bl c => 
          cases hy
          walk_at "ev"
          intro p2 hp2
          have e2 : Same H1 (upd H1 p2 (.tup [.ty "bool", .ty "str"])) := .upd hp2
          have hp3 : (upd H1 p2 (.tup [.ty "bool", .ty "str"])) p2 = some (.tup [.ty "bool", .ty "str"]) := upd_same
          walk_at "nrm"
          refine isi2 (r := true) (e2.dp hy1) hp3 (fun t e => by rw [e]; exact kitAny_cons (kit_ty (a := "bool") (b := "bool") (r := true) (by decide +kernel)) (fun z => nomatch z) (fun _ => rfl)) ?_
          walk_at "ev"
          rw [if_pos (decide_eq_true rfl)]
          walk_at "ev"
          walk_at "nrm"
          refine isi1 (r := true) (e2.dp hx1) (fun t e => by rw [e]; exact kit_ty (a := "bool") (b := "bool") (by decide +kernel)) ?_
          walk_at "ev"
          walk_at "nrm"
          refine isi1 (r := true) (e2.dp hy1) (fun t e => by rw [e]; exact kit_ty (a := "bool") (b := "bool") (by decide +kernel)) ?_
          walk_at "ev"
          exact q _ (e1.trans e2)
        | str c => 
          cases hy
          walk_at "ev"
          intro p2 hp2
          have e2 : Same H1 (upd H1 p2 (.tup [.ty "bool", .ty "str"])) := .upd hp2
          have hp3 : (upd H1 p2 (.tup [.ty "bool", .ty "str"])) p2 = some (.tup [.ty "bool", .ty "str"]) := upd_same
          walk_at "nrm"
          refine isi2 (r := true) (e2.dp hy1) hp3 (fun t e => by rw [e]; exact kitAny_cons (kit_ty (a := "str") (b := "bool") (r := false) (by decide +kernel)) (fun _ => kitAny_cons (kit_ty (a := "str") (b := "str") (r := true) (by decide +kernel)) (fun z => nomatch z) (fun _ => rfl)) (fun z => nomatch z)) ?_
          walk_at "ev"
          rw [if_pos (decide_eq_true rfl)]
          walk_at "ev"
          walk_at "nrm"
          refine isi1 (r := false) (e2.dp hx1) (fun t e => by rw [e]; exact kit_ty (a := "str") (b := "bool") (by decide +kernel)) ?_
          walk_at "ev"
          walk_at "nrm"
          refine isi1 (r := false) (e2.dp hy1) (fun t e => by rw [e]; exact kit_ty (a := "str") (b := "bool") (by decide +kernel)) ?_
          walk_at "ev"
          exact q _ (e1.trans e2)
        | int c => 
          cases hy
          walk_at "ev"
          intro p2 hp2
          have e2 : Same H1 (upd H1 p2 (.tup [.ty "bool", .ty "str"])) := .upd hp2
          have hp3 : (upd H1 p2 (.tup [.ty "bool", .ty "str"])) p2 = some (.tup [.ty "bool", .ty "str"]) := upd_same
          walk_at "nrm"
          refine isi2 (r := false) (e2.dp hy1) hp3 (fun t e => by rw [e]; exact kitAny_cons (kit_ty (a := "int") (b := "bool") (r := false) (by decide +kernel)) (fun _ => kitAny_cons (kit_ty (a := "int") (b := "str") (r := false) (by decide +kernel)) (fun _ => kitAny_nil) (fun z => nomatch z)) (fun z => nomatch z)) ?_
          walk_at "ev"
          walk_at "nrm"
          refine isi1 (r := true) (e2.dp hx1) (fun t e => by rw [e]; exact kit_ty (a := "int") (b := "int") (by decide +kernel)) ?_
          walk_at "ev"
          walk_at "nrm"
          refine isi1 (r := false) (e2.dp hx1) (fun t e => by rw [e]; exact kit_ty (a := "int") (b := "bool") (by decide +kernel)) ?_
          walk_at "ev"
          rw [decide_eq_true rfl]
          exact q _ (e1.trans e2)
        | @lst a xs ds hs _ => cases (hk0.symm.trans (kit_seq (fb := false) (ds := ds)))
        | @tup a xs ds hs _ => cases (hk0.symm.trans (kit_seq (fb := true) (ds := ds)))
end
end Jl

set_option Elab.async false
set_option linter.all false
set_option maxRecDepth 100000
set_option maxHeartbeats 4000000
set_option pp.maxSteps 900
namespace Jl
open PySem PySem.Spec PyProof.Rows L2
open Evl (sz_of sz_lt)
local macro_rules | `(tactic| walk_at "at") => `(tactic| first | exact box0 | exact box1 | exact box2)
local macro_rules | `(tactic| walk_at "side") => `(tactic| first
  | (show (0 : Int) < _; decide)
  | (show (0 : Int) < _; omega)
  | exact ⟨by decide, by decide, by decide⟩
  | exact sz_of (Nat.le_of_ble_eq_true rfl)
  | exact rfl
  | exact Or.inl (by decide)
  | exact Or.inr (by decide)
  | exact Or.inr ⟨by omega, by omega⟩
  | exact Or.inl ⟨by omega, by omega⟩
  | exact ⟨by decide, by decide +kernel⟩)
local macro_rules | `(tactic| walk_at "ev1") => `(tactic| first
  | refine ⟨_, rfl, ?_⟩
  | refine ⟨_, _, rfl, rfl, ?_⟩
  | refine ⟨_, _, _, _, rfl, rfl, (by assumption), (by walk_at "at"), ?_⟩
  | refine ⟨_, _, rfl, (by assumption), ?_⟩
  | refine ⟨_, _, rfl, Or.inl (by assumption), ?_⟩
  | refine ⟨_, _, rfl, Or.inr (by assumption), ?_⟩
  | refine Or.inl ⟨_, rfl, ?_⟩
  | refine Or.inr ⟨_, rfl, ?_⟩
  | refine ⟨(by walk_at "side"), ?_⟩)
local macro_rules | `(tactic| walk_at "nrm") => `(tactic| dsimp only [tNil, tCons, tC, tCB])
local macro_rules | `(tactic| walk_at "ev") => `(tactic| repeat (walk_at "ev1"))

abbrev sc_w_cells_N : List Str := ["_law_script", "_law_most", "_law_cells_here", "_law_k", "_law_cell", "_law_at_so"]
abbrev s_w_cells : Stmt := topS 13
theorem sc_w_cells : FnScope ["_law_script", "_law_most", "_law_cells_here", "_law_k", "_law_cell", "_law_at_so"] ["_law_script", "_law_most"] (defScope s_w_cells) := ⟨rfl, rfl, rfl, by decide +kernel, rfl, by decide +kernel, by decide +kernel⟩
theorem ixN_nat {n j : Nat} (h : j < n) : ixN n (j : Int) = some j := by
  unfold ixN
  rw [if_pos (by omega), if_pos (by omega)]
  simp
theorem cutV_int {ns : List Int} {lo hi : Option Int} : cutV (ns.map V.int) lo hi = ((ns.drop (HT.sIx ns.length 0 lo)).take (HT.sIx ns.length ns.length hi - HT.sIx ns.length 0 lo)).map V.int := by
  unfold cutV
  rw [List.length_map, List.map_take, List.map_drop]
section
variable {P : Program} {w : World} {K : PySem.W.Frag} {mg : Str → Option Value} {base : Heap}
/-- _law_cells(script, most): a new list of at most so many numbers -/
def spCells (K : PySem.W.Frag) : Sp := fun vs H Q _ => ∃ (a : Addr) (ns : List Int) (m : Nat), vs = [.ref a, .int (m : Int)] ∧ SqL K H a (ns.map V.int) ∧ ns.length ≤ 63 ∧ 1 ≤ m ∧ m ≤ 60 ∧
  ∀ (H' : Hp) (p : Addr) (cs : List Int), Same H H' → H p = none → H' p = some (.lst (cs.map V.int)) → cs.length ≤ m → Q (.ref p) H'
theorem ok_cells {f : Addr} {fd : FuncData} {k : Nat} (F : Fun K "_law_cells" "_law_cells" s_w_cells f fd) (m_int : mg "int" = none) (m_list : mg "list" = none) (m_enumerate : mg "enumerate" = none) : FnOk P w K mg base CX0 (k + 1) f fd ["_law_script", "_law_most"] (spCells K) := by
  refine F.ok sc_w_cells (fun vs H Q E h => ?_) (fun cdv A outer s H vs Q E hr h => ?_)
  · obtain ⟨a, ns, m, rfl, _⟩ := h
    rfl
  · obtain ⟨a, ns, m, rfl, hS, hn, m1, m2, q⟩ := h
    refine ⟨_, (Evl.pss_cut (ps_set (i := 2) sc_w_cells.nd rfl (Or.inl rfl) (pe_orT (pe_callTy call_list_of (by rfl) m_list (by decide +kernel) (pa_cons (pe_slice sl_list (pv 0) po_none (po_some (pv 1))) pa_nil)) (pe_one (pe_lst (pa_cons pe_int pa_nil))))) 
    (pss_cons (ps_forX (ps_for PassesOwn.never rfl (pi_enum (by rfl) m_enumerate (pa_cons (pe_slice sl_list (pv 0) (po_some (pv 1)) (po_some pe_int)) pa_nil)) (pg_tup rfl (pgs_cons (pg_name (i := 3) sc_w_cells.nd rfl (Or.inl rfl)) (pgs_cons (pg_name (i := 4) sc_w_cells.nd rfl (Or.inl rfl)) pgs_nil))) 
      (pss_cons (ps_set (i := 5) sc_w_cells.nd rfl (Or.inl rfl) (pe_op op_mod (pe_callTy call_int1 (by rfl) m_int (by decide +kernel) (pa_cons (pv 3) pa_nil)) (pv 1))) 
      (pss_one (ps_asg (pe_op op_add (pe_ix ix_list (pv 2) (pv 5) (fun _ _ => rfl)) (pe_op op_mul (pv 4) (pe_op op_add (pv 3) pe_int))) (pg_sub (pv 2) (pv 5) set_list)))))) 
    (pss_one (ps_ret (pv 2))))), ?_⟩
    refine ⟨fun σ1 H1 => ∃ (p : Addr) (c0 : List Int), σ1 = [some (.ref a), some (.int (m : Int)), some (.ref p), none, none, none] ∧ Same H H1 ∧ H p = none ∧ H1 p = some (.lst (c0.map V.int)) ∧ c0.length ≤ m ∧ (m < ns.length → c0.length = m), ?_, ?_⟩
    · walk_at "ev"
      intro p hp
      rw [cutV_int, show HT.sIx ns.length 0 none = 0 from HT.sIx_none _ _, show HT.sIx ns.length ns.length (some (m : Int)) = min m ns.length from HT.sIx_nat _ _ _, Nat.sub_zero, List.drop_zero]
      walk_at "nrm"
      have s1 : Same H (upd H p (.lst ((ns.take (min m ns.length)).map V.int))) := .upd hp
      refine ⟨p, _, rfl, .inl (sql_of upd_same), fun l hl => ?_⟩
      have s2 := s1.trans (Same.upd (o := .lst ((ns.take (min m ns.length)).map V.int)) hl)
      refine ⟨_, .inl ⟨_, sql_of upd_same, rfl⟩, ite2 (fun e => ?_) (fun e => ?_)⟩
      · refine ⟨l, _, rfl, s2, s1.free hl, upd_same, ?_, fun h => ?_⟩
        · rw [List.length_take]
          omega
        · rw [List.length_take]
          omega
      · walk_at "ev"
        intro r hr
        refine ⟨r, [0], rfl, s2.trans (.upd hr), s2.free hr, upd_same, by simp; omega, fun h => (e ?_).elim⟩
        have : (ns.take (min m ns.length)).length ≠ 0 := by
          rw [List.length_take]
          omega
        cases hq : ns.take (min m ns.length) with
        | nil => rw [hq] at this; exact (this rfl).elim
        | cons => rfl
    · rintro σ1 H1 ⟨p, c0, rfl, s1, hp, hp1, hc0, hc1⟩
      have hS1 : SqL K H1 a (ns.map V.int) := s1.sqL hS
      refine for_of ?_
      walk_at "ev"
      intro p3 hp3
      rw [cutV_int]
      generalize hms : List.take _ (List.drop _ ns) = ms
      have hlen : ms.length ≤ ns.length - m := by
        rw [← hms, List.length_take, List.length_drop, show HT.sIx ns.length 0 (some (m : Int)) = min m ns.length from HT.sIx_nat _ _ _]
        omega
      have s3 : Same H1 (upd H1 p3 (.lst (ms.map V.int))) := .upd hp3
      refine ⟨p3, _, rfl, sql_of upd_same, ?_⟩
      refine forR_it (walk_enum (K := K) (a := p3) (xs := ms.map V.int)) (fun i σ H2 => ∃ x3 x4 x5 cs, σ = [some (.ref a), some (.int (m : Int)), some (.ref p), x3, x4, x5] ∧ Same H H2 ∧ H2 p = some (.lst (cs.map V.int)) ∧ cs.length = c0.length ∧ H2 p3 = some (.lst (ms.map V.int)))
        ⟨_, _, _, c0, rfl, s1.trans s3, s3 _ _ hp1, rfl, upd_same⟩ (fun i σ H2 _ h => ?_) (fun i v σ H2 H2' hi h y => ?_) (fun σ H2 h => ?_)
      · obtain ⟨_, _, _, _, _, _, _, _, h3⟩ := h
        exact sql_of h3
      · obtain ⟨x3, x4, x5, cs, rfl, s4, h4, hl4, h3⟩ := h
        obtain ⟨T, u1, u2, rfl, hT, rfl, g1, g2⟩ := y
        cases g1
        rw [List.length_map] at hi
        have g2 : (ms.map V.int)[i]? = some u2 := g2
        rw [List.getElem?_map, List.getElem?_eq_getElem hi] at g2
        cases g2
        have s5 : Same H2 (upd H2 T (.tup [.int (i : Int), .int ms[i]])) := .upd hT
        have hcm : cs.length = m := by rw [hl4]; exact hc1 (by omega)
        refine ⟨T, _, rfl, sqt_of upd_same, rfl, _, _, rfl, _, _, rfl, rfl, ?_⟩
        have hat : ((i : Int) % (m : Int)) = ((i % m : Nat) : Int) := rfl
        have hlt : i % m < cs.length := by rw [hcm]; exact Nat.mod_lt _ (by omega)
        have h6 := s5 _ _ h4
        have hS6 : SqL K (upd H2 T (.tup [.int (i : Int), .int ms[i]])) p (cs.map V.int) := sql_of h6
        have hi63 : (i : Int) < 63 := by omega
        have hix : ixN (cs.map V.int).length ((i : Int) % (m : Int)) = some (i % m) := by
          rw [hat, List.length_map]
          exact ixN_nat hlt
        walk_at "ev"
        refine ⟨p, _, _, _, rfl, rfl, hS6, at_of (v := .int cs[i % m]) hat (by rw [List.getElem?_map, List.getElem?_eq_getElem hlt]; rfl), ?_⟩
        walk_at "ev"
        refine ⟨p, _, _, i % m, rfl, rfl, h6, hix, ?_⟩
        have np : p3 ≠ p := fun z => by
          rw [z, hp1] at hp3
          cases hp3
        refine ⟨_, _, _, cs.set (i % m) (cs[i % m] + ms[i] * ((i : Int) + 2)), rfl, (s4.trans s5).mut hp, ?_, by rw [List.length_set]; exact hl4, ?_⟩
        · rw [upd_same, List.map_set]
        · rw [upd_ne np]
          exact s5 _ _ h3
      · obtain ⟨x3, x4, x5, cs, rfl, s4, h4, hl4, h3⟩ := h
        exact ⟨_, rfl, q _ _ cs s4 hp h4 (by omega)⟩
end
end Jl

set_option Elab.async false
set_option linter.all false
set_option maxRecDepth 100000
set_option maxHeartbeats 4000000
set_option pp.maxSteps 900
namespace Jl
open PySem PySem.Spec PyProof.Rows L2
open Evl (sz_of sz_lt)
local macro_rules | `(tactic| walk_at "at") => `(tactic| first | exact box0 | exact box1 | exact box2)
local macro_rules | `(tactic| walk_at "sq") => `(tactic| first | (show SqL _ _ _ _; assumption) | (show SqT _ _ _ _; assumption) | (show _ = some _; assumption))
local macro_rules | `(tactic| walk_at "side") => `(tactic| first
  | (show (0 : Int) < _; decide)
  | (show (0 : Int) < _; omega)
  | exact ⟨by decide, by decide, by decide⟩
  | exact sz_of (Nat.le_of_ble_eq_true rfl)
  | exact rfl
  | exact Or.inl (by decide)
  | exact Or.inr (by decide)
  | exact Or.inr ⟨by omega, by omega⟩
  | exact Or.inl ⟨by omega, by omega⟩
  | exact ⟨by decide, by decide +kernel⟩)
local macro_rules | `(tactic| walk_at "ev1") => `(tactic| first
  | refine ⟨_, rfl, ?_⟩
  | refine ⟨_, _, rfl, rfl, ?_⟩
  | refine ⟨_, _, _, _, rfl, rfl, (by walk_at "sq"), (by walk_at "at"), ?_⟩
  | refine ⟨_, _, rfl, (by walk_at "sq"), ?_⟩
  | refine ⟨_, _, rfl, Or.inl (by walk_at "sq"), ?_⟩
  | refine ⟨_, _, rfl, Or.inr (by walk_at "sq"), ?_⟩
  | refine Or.inl ⟨_, rfl, ?_⟩
  | refine Or.inr ⟨_, rfl, ?_⟩
  | refine ⟨(by walk_at "side"), ?_⟩
  | refine ⟨.inl ⟨rfl, _, (by walk_at "sq")⟩, ?_⟩
  | refine ⟨_, _, rfl, ?_⟩)
local macro_rules | `(tactic| walk_at "nrm") => `(tactic| dsimp only [tNil, tCons, tC, tCB])
local macro_rules | `(tactic| walk_at "ev") => `(tactic| repeat (walk_at "ev1"))

abbrev sc_w_pick_N : List Str := ["_law_box_here", "_law_pool", "_law_size_so", "_law_rest", "_law_some", "_law_turn"]
abbrev s_w_pick : Stmt := topS 15
theorem sc_w_pick : FnScope ["_law_box_here", "_law_pool", "_law_size_so", "_law_rest", "_law_some", "_law_turn"] ["_law_box_here", "_law_pool", "_law_size_so"] (defScope s_w_pick) := ⟨rfl, rfl, rfl, by decide +kernel, rfl, by decide +kernel, by decide +kernel⟩
theorem cutS_more {S T : List Addr} {H H' : Hp} (e : Same (cutS T H) (cutS T H')) (h : ∀ a ∈ T, a ∈ S) : Same (cutS S H) (cutS S H') := fun b o q => by
  obtain ⟨h1, h2⟩ := cutS_some q
  have h3 : b ∉ T := fun z => h1 (h b z)
  have := e b o (by rw [cutS_out h3]; exact h2)
  rw [cutS_out h3] at this
  rw [cutS_out h1]
  exact this
theorem era_map {α β : Type} (f : α → β) : ∀ (l : List α) (k : Nat), (l.map f).eraseIdx k = (l.eraseIdx k).map f
  | [], _ => rfl
  | _ :: _, 0 => rfl
  | a :: l, k + 1 => congrArg (f a :: ·) (era_map f l k)
theorem era_perm {α : Type} : ∀ (l : List α) (k : Nat) (h : k < l.length), (l[k] :: l.eraseIdx k).Perm l
  | a :: l, 0, _ => List.Perm.refl _
  | a :: l, k + 1, h => (List.Perm.swap a (l[k]'(by simpa using h)) (l.eraseIdx k)).trans (List.Perm.cons a (era_perm l k (by simpa using h)))
theorem small8000 {i : Int} (h : 0 ≤ i ∧ i ≤ 10 ^ 60) : i.natAbs < 2 ^ 8000 := by
  have h2 : i.natAbs < 2 ^ 250 := by omega
  exact Nat.lt_of_lt_of_le h2 (Nat.pow_le_pow_right (by decide) (by decide))
/-! ### the box as it goes on -/
def BoxL (bx : List V) (N : Nat) : Prop := ∃ c0 c1 c2 : Int, bx = boxV c0 c1 c2 ∧ 0 ≤ c0 ∧ 0 ≤ c1 ∧ c1 < 2 ^ 62 ∧ 0 ≤ c2 ∧ c2 ≤ N
theorem BoxL.mono {bx : List V} {N M : Nat} (h : BoxL bx N) (e : N ≤ M) : BoxL bx M := by
  obtain ⟨c0, c1, c2, rfl, h1, h2, h3, h4, h5⟩ := h
  exact ⟨c0, c1, c2, rfl, h1, h2, h3, h4, by omega⟩
def spTake2 : Sp := fun vs H Q _ => ∃ (b : Addr) (n : Int) (bx : List V) (N : Nat), vs = [.ref b, .int n] ∧ H b = some (.lst bx) ∧ BoxL bx N ∧ N < 2 ^ 60 ∧ 1 ≤ n ∧ n.natAbs < 2 ^ 8000 ∧
  ∀ r bx', 0 ≤ r → r < n → BoxL bx' (N + 1) → Q (.int r) (upd H b (.lst bx'))
section
variable {P : Program} {w : World} {K : PySem.W.Frag} {mg : Str → Option Value} {base : Heap}
theorem ok_take2 {f : Addr} {fd : FuncData} {k : Nat} (G : FnOk P w K mg base CX0 k f fd ["_law_box_here", "_law_below"] (spTake K)) : FnOk P w K mg base CX0 k f fd ["_law_box_here", "_law_below"] spTake2 :=
  G.imp fun vs H Q E h => by
    obtain ⟨b, n, bx, N, rfl, hb, ⟨c0, c1, c2, rfl, h1, h2, h3, h4, h5⟩, hN, n1, n2, q⟩ := h
    exact ⟨b, c0, c1, c2, n, rfl, hb, h1, h2, h3, h4, by omega, n1, n2, fun r d0 d2 r0 r1 d00 d20 d21 => q r _ r0 r1 ⟨d0, c1, d2, rfl, d00, h2, h3, d20, by omega⟩⟩
/-- _law_pick(box, pool, size): some of the pool, each once -/
def spPick (K : PySem.W.Frag) : Sp := fun vs H Q _ => ∃ (b a : Addr) (n : Int) (bx : List V) (N : Nat) (xs : List Str), vs = [.ref b, .ref a, .int n] ∧ H b = some (.lst bx) ∧ BoxL bx N ∧ N + xs.length < 2 ^ 60 ∧ SqL K H a (xs.map V.str) ∧ xs.length ≤ 1000 ∧ 0 ≤ n ∧ n < 2 ^ 60 ∧
  ∀ (H' : Hp) (q : Addr) (ys rs : List Str) (bx' : List V), (ys ++ rs).Perm xs → ys.length = min n.toNat xs.length → H q = none → H' q = some (.lst (ys.map V.str)) → H' b = some (.lst bx') → BoxL bx' (N + ys.length) → Same (cutS [b] H) (cutS [b] H') → Q (.ref q) H'
theorem ok_pick {f fT : Addr} {fd fdT : FuncData} {k : Nat} (F : Fun K "_law_pick" "_law_pick" s_w_pick f fd) (G_w_take : FnOk P w K mg base CX0 k fT fdT ["_law_box_here", "_law_below"] spTake2) (g_w_take : mg "_law_take" = some (.ref fT)) (F_w_take : Fun K "_law_take" "_law_take" s_w_take fT fdT) (b_w_take : Binds K fdT ["_law_box_here", "_law_below"] [])
    (m_list : mg "list" = none) (m_range : mg "range" = none) (m_min : mg "min" = none) (m_len : mg "len" = none) : FnOk P w K mg base CX0 (k + 1) f fd ["_law_box_here", "_law_pool", "_law_size_so"] (spPick K) := by
  refine F.ok sc_w_pick (fun vs H Q E h => ?_) (fun cdv A outer s H vs Q E hr h => ?_)
  · obtain ⟨b, a, n, bx, N, xs, rfl, _⟩ := h
    rfl
  · obtain ⟨b, a, n, bx, N, xs, rfl, hb, hB, hN, hA, hx, n0, n1, q⟩ := h
    refine ⟨_, (pss_cons (ps_par (i := 3) (j := 4) (by rfl) sc_w_pick.nd rfl rfl (by decide) rfl rfl (pa_cons (pe_callTy call_list_of (by rfl) m_list (by decide +kernel) (pa_cons (pv 1) pa_nil)) (pa_cons (pe_lst pa_nil) pa_nil)) (by rfl)) 
    (pss_cons (ps_forX (ps_for PassesOwn.never rfl (pi_range1 (by rfl) m_range (pa_cons (pe_callB (call_min2 rfl) (by rfl) m_min (by decide +kernel) (pa_cons (pv 2) (pa_cons (pe_callB call_len_seq (by rfl) m_len PySem.boot_len (pa_cons (pv 3) pa_nil)) pa_nil))) pa_nil)) (pg_name (i := 5) sc_w_pick.nd rfl (Or.inl rfl)) (pss_one (ps_expr (pe_bm PySem.F.plainAttrs_list PySem.F.slot_list_append PySem.F.type_list_append mt_append (pv 4) (pa_cons (pe_bm PySem.F.plainAttrs_list PySem.F.slot_list_pop PySem.F.type_list_pop mt_popAt (pv 3) (pa_cons (pe_call G_w_take hr (by rfl) g_w_take F_w_take.kp b_w_take .nil pass0 (pa_cons (pv 0) (pa_cons (pe_callB call_len_seq (by rfl) m_len PySem.boot_len (pa_cons (pv 3) pa_nil)) pa_nil))) pa_nil)) pa_nil)))))) 
    (pss_one (ps_ret (pv 4))))), ?_⟩
    walk_at "ev"
    intro l hl
    walk_at "ev"
    intro p hp
    walk_at "ev"
    refine for_of ?_
    have nbl : l ≠ b := fun z => by
      rw [z, hb] at hl
      cases hl
    have s1 : Same H (upd H l (.lst (xs.map V.str))) := .upd hl
    have s2 : Same (upd H l (.lst (xs.map V.str))) (upd (upd H l (.lst (xs.map V.str))) p (.lst [])) := .upd hp
    have hl2 := s2 _ _ (upd_same (H := H) (a := l) (o := .lst (xs.map V.str)))
    have hp2 : (upd (upd H l (.lst (xs.map V.str))) p (.lst [])) p = some (.lst []) := upd_same
    have s12 := s1.trans s2
    have hpl : p ≠ l := fun z => by
      rw [z, upd_same] at hp
      cases hp
    have hpb : p ≠ b := fun z => by
      rw [z, upd_ne nbl.symm, hb] at hp
      cases hp
    have hp0 : H p = none := s1.free hp
    have hL2 : SqL K (upd (upd H l (.lst (xs.map V.str))) p (.lst [])) l (xs.map V.str) := sql_of hl2
    show iRng1 _ _ (upd (upd H l (.lst (xs.map V.str))) p (.lst [])) _
    generalize upd (upd H l (.lst (xs.map V.str))) p (.lst []) = H2 at s12 hl2 hp2 hL2
    walk_at "ev"
    rw [List.length_map]
    have hj : (if (xs.length : Int) < n then (xs.length : Int) else n) = ((min n.toNat xs.length : Nat) : Int) := by
      split <;> omega
    rw [hj]
    refine ⟨by omega, by omega, ?_⟩
    rw [Int.toNat_natCast]
    refine forR_it (walk_range (lo := 0) (n := min n.toNat xs.length)) (fun i σ H3 => ∃ x5 ys rs bx', σ = [some (.ref b), some (.ref a), some (.int n), some (.ref l), some (.ref p), x5] ∧ H3 l = some (.lst (rs.map V.str)) ∧ H3 p = some (.lst (ys.map V.str)) ∧ H3 b = some (.lst bx') ∧ BoxL bx' (N + i) ∧ (ys ++ rs).Perm xs ∧ ys.length = i ∧ Same (cutS [b] H) H3)
      ⟨_, [], xs, bx, rfl, hl2, hp2, s12 _ _ hb, hB, List.Perm.refl _, rfl, cutS_le.trans s12⟩ (fun _ _ _ _ _ => trivial) (fun i v σ H3 H3' hi h y => ?_) (fun σ H3 h => ?_)
    · obtain ⟨x5, ys, rs, bx', rfl, h1, h2, h3, h4, h5, h6, h7⟩ := h
      obtain ⟨rfl, rfl⟩ := y
      have hlen := h5.length_eq
      rw [List.length_append] at hlen
      have hL : SqL K H3' l (rs.map V.str) := sql_of h1
      have hPl : SqL K H3' p (ys.map V.str) := sql_of h2
      walk_at "ev"
      have hrl : ((rs.map V.str).length : Int) = rs.length := by rw [List.length_map]
      have hr1 : 1 ≤ rs.length := by omega
      refine ⟨b, _, bx', N + i, rfl, h3, h4, by omega, by omega, small8000 (by rw [hrl]; omega), fun r bx2 r0 r1 hB2 => ?_⟩
      rw [hrl] at r1
      obtain ⟨k, rfl⟩ : ∃ k : Nat, r = (k : Int) := ⟨r.toNat, by omega⟩
      have hk : k < rs.length := by omega
      have hsi : seqIndex? (k : Int) (rs.map V.str).length = some k := (ixN_seq (ixN_nat (by rw [List.length_map]; exact hk))).1
      have h1' : (upd H3' b (.lst bx2)) l = some (.lst (rs.map V.str)) := by
        rw [upd_ne nbl]
        exact h1
      refine ⟨l, _, (k : Int), k, .str rs[k], rfl, rfl, h1', by omega, by omega, hsi, by rw [List.getElem?_map, List.getElem?_eq_getElem hk]; rfl, ?_⟩
      have h2' : (upd (upd H3' b (.lst bx2)) l (.lst ((rs.map V.str).eraseIdx k))) p = some (.lst (ys.map V.str)) := by
        rw [upd_ne hpl, upd_ne hpb]
        exact h2
      refine ⟨p, _, _, rfl, rfl, h2', ?_, ?_⟩
      · rw [List.length_map]
        exact sz_lt (by omega)
      · refine ⟨_, ys ++ [rs[k]], rs.eraseIdx k, bx2, rfl, ?_, ?_, ?_, hB2, ?_, ?_, ?_⟩
        · rw [upd_ne hpl.symm, upd_same, era_map]
        · rw [upd_same, List.map_append]
          rfl
        · rw [upd_ne hpb.symm, upd_ne nbl.symm, upd_same]
        · refine List.Perm.trans ?_ h5
          rw [List.append_assoc]
          exact List.Perm.append_left ys (era_perm rs k hk)
        · rw [List.length_append, h6]
          rfl
        · intro x o hx
          obtain ⟨g1, g2⟩ := cutS_some hx
          have gb : x ≠ b := fun z => g1 (by rw [z]; exact List.mem_cons_self)
          have gl : x ≠ l := ne_of_none g2 hl
          have gp : x ≠ p := ne_of_none g2 hp0
          rw [upd_ne gp, upd_ne gl, upd_ne gb]
          exact h7 x o hx
    · obtain ⟨x5, ys, rs, bx', rfl, h1, h2, h3, h4, h5, h6, h7⟩ := h
      refine ⟨_, rfl, ?_⟩
      refine q H3 p ys rs bx' h5 h6 hp0 h2 h3 (by rw [h6]; exact h4) fun x o hx => ?_
      obtain ⟨g1, g2⟩ := cutS_some hx
      rw [cutS_out g1]
      exact h7 x o hx
end
end Jl

set_option Elab.async false
set_option linter.all false
set_option maxRecDepth 100000
set_option maxHeartbeats 4000000
set_option pp.maxSteps 900
namespace Jl
open PySem PySem.Spec PyProof.Rows L2
open Evl (sz_of sz_lt)
local macro_rules | `(tactic| walk_at "at") => `(tactic| first | exact box0 | exact box1 | exact box2)
local macro_rules | `(tactic| walk_at "sq") => `(tactic| first | (show SqL _ _ _ _; assumption) | (show SqT _ _ _ _; assumption) | (show _ = some _; assumption))
local macro_rules | `(tactic| walk_at "side") => `(tactic| first
  | (show (0 : Int) < _; decide)
  | (show (0 : Int) < _; omega)
  | exact ⟨by decide, by decide, by decide⟩
  | exact sz_of (Nat.le_of_ble_eq_true rfl)
  | exact rfl
  | exact Or.inl (by decide)
  | exact Or.inr (by decide)
  | exact Or.inr ⟨by omega, by omega⟩
  | exact Or.inl ⟨by omega, by omega⟩
  | exact ⟨by decide, by decide +kernel⟩)
local macro_rules | `(tactic| walk_at "ev1") => `(tactic| first
  | refine ⟨_, rfl, ?_⟩
  | refine ⟨_, _, rfl, rfl, ?_⟩
  | refine ⟨_, _, _, _, rfl, rfl, (by walk_at "sq"), (by walk_at "at"), ?_⟩
  | refine ⟨_, _, rfl, (by walk_at "sq"), ?_⟩
  | refine ⟨_, _, rfl, Or.inl (by walk_at "sq"), ?_⟩
  | refine ⟨_, _, rfl, Or.inr (by walk_at "sq"), ?_⟩
  | refine Or.inl ⟨_, rfl, ?_⟩
  | refine Or.inr ⟨_, rfl, ?_⟩
  | refine ⟨(by walk_at "side"), ?_⟩
  | refine ⟨.inl ⟨rfl, _, (by walk_at "sq")⟩, ?_⟩
  | refine ⟨_, _, rfl, ?_⟩)
local macro_rules | `(tactic| walk_at "nrm") => `(tactic| dsimp only [tNil, tCons, tC, tCB])
local macro_rules | `(tactic| walk_at "ev") => `(tactic| repeat (walk_at "ev1"))
/-! ### range(n) as a value, list of it -/
section
variable {X : Cx}
theorem cr_range1 : CallR X (.type "range") (fun vs H Q => ∃ j, vs = [V.int j] ∧ ∀ p, H p = none → Q (.ref p) (upd H p (.rng 0 j))) := fun pins s σ H vs us Q I r h => by
  obtain ⟨j, rfl, q⟩ := h
  obtain ⟨u, rfl, ru⟩ := vals1 r
  obtain ⟨t, rfl⟩ := ru
  exact call_range_1 ⟨.ref _, _, I.laid (o := .rng 0 j) (t' := s.toks + 1 + 1) (fun _ _ e => Heap.get?_push_of_some _ e) (Nat.le_refl _) ⟨_, _, _, Heap.get?_push_size _ rfl⟩, rfl, q _ (I.hok.fresh (Nat.le_refl _))⟩
theorem vals_from {f : Nat → V} : ∀ {us : List Value} (k : Nat), (∀ i v, us[i]? = some v → RelV (f (k + i)) v) → Vals ((List.range us.length).map fun i => f (k + i)) us
  | [], _, _ => .nil
  | u :: us, k, h => by
    rw [List.length_cons, List.range_succ_eq_map, List.map_cons, List.map_map]
    refine .cons (h 0 u rfl) ?_
    have := vals_from (f := f) (us := us) (k + 1) fun i v hv => by
      have q := h (i + 1) v (by simpa using hv)
      have e : k + (i + 1) = k + 1 + i := by omega
      rw [e] at q
      exact q
    have e : ((fun i => f (k + i)) ∘ Nat.succ) = fun i => f (k + 1 + i) := by
      funext i
      show f (k + (i + 1)) = f (k + 1 + i)
      congr 1
      omega
    rw [e]
    exact this
theorem call_list_rng (hc : X.calm = true) : CallR X (.type "list") (fun xs H Q => ∃ (r : Addr) (n : Nat), xs = [.ref r] ∧ H r = some (.rng 0 (n : Int)) ∧ n ≤ 1000 ∧ ∀ p, H p = none → Q (.ref p) (upd H p (.lst ((List.range n).map fun i => V.int ((i : Nat) : Int))))) := fun pins s σ H xs us Q I r h => by
  obtain ⟨a, n, rfl, ha, hn, q⟩ := h
  obtain ⟨u, rfl, ru⟩ := vals1 r
  cases ru
  obtain ⟨t, u, v, ho⟩ := I.hok _ _ ha
  refine call_list_range (n := n) (I.ok.hd hc) (show IsRange s.heap a 0 (n : Int) 1 t u v from ho) (small_one (by omega) (by omega) (by omega) (by omega)) ?_ (by omega) fun h' tk acc c hk hS hi => ?_
  · rw [rangeSize_one]
    by_cases h0 : (0 : Int) < n
    · rw [if_pos h0]
      omega
    · rw [if_neg h0]
      omega
  · obtain ⟨h1, h2⟩ := hi
    have hl : acc.toList.length = n := by rw [Array.length_toList]; exact h1
    have hv : Vals ((List.range n).map fun i => V.int ((i : Nat) : Int)) acc.toList := by
      rw [← hl]
      have g := vals_from (f := fun i => V.int ((i : Nat) : Int)) (us := acc.toList) 0 fun i v hv => by
        have hi : i < n := by
          rw [← hl]
          exact (List.getElem?_eq_some_iff.mp hv).1
        obtain ⟨t, e2⟩ := h2 i v (by simpa using hv)
        refine ⟨t, ?_⟩
        rw [e2]
        congr 1
        omega
      have e : (fun i => V.int (((0 + i : Nat)) : Int)) = fun i => V.int ((i : Nat) : Int) := by
        funext i
        rw [Nat.zero_add]
      rw [e] at g
      exact g
    exact ⟨.ref _, _, I.laid (o := .lst ((List.range n).map fun i => V.int ((i : Nat) : Int))) (t' := tk) hk (Nat.le_refl _) ⟨by rw [List.length_map, List.length_range]; exact sz_of (by omega), acc.toList, c, hv, by simpa using hS⟩, rfl, q _ (I.hok.fresh (Nat.le_refl _))⟩
/-! ### a method of a tuple whose object is known -/
/-- the place of a tuple whose object is known -/
def TupO (H : Hp) (x : V) : Prop := ∃ (p : Addr) (ob : Obj) (xs : List V), x = .ref p ∧ H p = some (.frz ob (.tup xs)) ∧ ob.cls = .type "tuple" ∧ ob.dict = none
def tBMT (r : V → List V → Hp → VK → Prop) (to : TE) (t : TA) : TE := fun σ H Q => to σ H fun x H1 => TupO H1 x ∧ t σ H1 fun xs H2 => r x xs H2 Q
theorem pe_tm {o e : Expr} {es : List Expr} {to : TE} {t : TA} {name : Str} {apos cpos : Pos} {id : String} {r : V → List V → Hp → VK → Prop} (slot : Slot "tuple" name id) (hty : typeOf (.builtin id) = pure (.type "method_descriptor")) (hm : MtR X id r) (ho : PE X o to) (ha : PA X (e :: es) t)
    (h1 : attributeBase o name X.env (eval o X.env) = eval o X.env := by rfl)
    (h2 : ((backTo cpos (starEach (e :: es) X.env)).all (fun x => !x.1) && (backToKw cpos (keywordEach [] X.env)).all (fun x => x.1.isSome)
      && decide ((e :: es).length + ([] : List Keyword).length + (if ([] : List Keyword).isEmpty then 0 else 1) < 30)) = true := by rfl)
    (h3 : (apos.endLine == cpos.line) = true := by rfl) (h4 : starEach (e :: es) X.env = (false, eval e X.env) :: starEach es X.env := by rfl) (h5 : (backTo cpos (starEach es X.env)).any (·.1) = false := by rfl) :
    PE X (.Call (.Attribute o name apos) (e :: es) [] cpos) (tBMT r to t) := ⟨fun pins s σ H Q I h => wpAny_Call_method_late h1 h2 h3 rfl (thn (ho.run pins s σ H _ I h) fun v s1 ⟨x, H1, I1, r1, ⟨p, ob, xs, ex, hp, hc, hd⟩, q1⟩ => by
  subst ex
  obtain rfl : v = Value.ref p := r1
  have hob : s1.heap.get? p = some ob := (I1.hok p _ hp).1
  refine ⟨"tuple", id, PySem.F.plainAttrs_tuple, slot, hty, ⟨ob, hob, hc⟩, fun a ea => ?_, ?_⟩
  · cases ea
    exact ⟨ob, hob, hd⟩
  · have g := ha.run cpos pins s1 σ H1 _ I1 q1
    rw [h4] at g ⊢
    have h6 : ((false, eval e X.env) :: backTo cpos (starEach es X.env)).any (·.1) = false := by
      rw [List.any_cons, h5]
      rfl
    exact Calls.callWith_builtin h6 (Calls.evalArgs_plain (thn g fun us s2 ⟨vs, H2, I2, r2, q2⟩ => hm pins s2 σ H2 (.ref p) vs _ us Q I2 rfl r2 q2)))⟩
/-- tuple(a list): a tuple whose object is known -/
def rTupF (K : PySem.W.Frag) : List V → Hp → VK → Prop := fun xs H Q => ∃ (p : Addr) (ys : List V), xs = [.ref p] ∧ SqL K H p ys ∧ ∀ (l : Addr) (ob : Obj), H l = none → ob.cls = .type "tuple" → ob.dict = none → Q (.ref l) (upd H l (.frz ob (.tup ys)))
theorem call_tupF : CallR X (.type "tuple") (rTupF X.K) := fun pins s σ H xs us Q I r h => by
  obtain ⟨p, ys, rfl, hq, q⟩ := h
  obtain ⟨u, rfl, rx⟩ := vals1 r
  cases rx
  obtain ⟨its, rv, pl, hz⟩ := I.list hq
  have hlen := rv.length
  refine call_tuple_list pl.isList (fun h' kp => ?_) (by rw [List.size_toArray]; omega)
  have I1 : Inv X pins σ H { s with heap := h' } := I.kept (t' := s.toks) kp
  have hget : (h'.push { cls := .type "tuple", data := .seq its.toArray }).get? h'.objs.size = some { cls := .type "tuple", data := .seq its.toArray } := Heap.get?_push_size _ rfl
  exact ⟨.ref h'.objs.size, _, I1.laid (o := .frz { cls := .type "tuple", data := .seq its.toArray } (.tup ys)) (t' := s.toks) (fun b o e => Heap.get?_push_of_some _ e) (Nat.le_refl _) ⟨hget, hz, its, rv, ⟨_, hget, rfl, _, rfl⟩⟩, rfl, q _ _ (I1.hok.fresh (Nat.le_refl _)) rfl rfl⟩
end
end Jl

set_option Elab.async false
set_option linter.all false
set_option maxRecDepth 100000
set_option maxHeartbeats 4000000
set_option pp.maxSteps 900
namespace Jl
open PySem PySem.Spec PyProof.Rows L2
open Evl (sz_of sz_lt)
local macro_rules | `(tactic| walk_at "at") => `(tactic| first | exact box0 | exact box1 | exact box2)
local macro_rules | `(tactic| walk_at "sq") => `(tactic| first | (show SqL _ _ _ _; assumption) | (show SqT _ _ _ _; assumption) | (show _ = some _; assumption))
local macro_rules | `(tactic| walk_at "side") => `(tactic| first
  | (show (0 : Int) < _; decide)
  | (show (0 : Int) < _; omega)
  | exact ⟨by decide, by decide, by decide⟩
  | exact sz_of (Nat.le_of_ble_eq_true rfl)
  | exact rfl
  | exact Or.inl (by decide)
  | exact Or.inr (by decide)
  | exact Or.inr ⟨by omega, by omega⟩
  | exact Or.inl ⟨by omega, by omega⟩
  | exact ⟨by decide, by decide +kernel⟩)
local macro_rules | `(tactic| walk_at "ev1") => `(tactic| first
  | refine ⟨_, rfl, ?_⟩
  | refine ⟨_, _, rfl, rfl, ?_⟩
  | refine ⟨_, _, _, _, rfl, rfl, (by walk_at "sq"), (by walk_at "at"), ?_⟩
  | refine ⟨_, _, rfl, (by walk_at "sq"), ?_⟩
  | refine ⟨_, _, rfl, Or.inl (by walk_at "sq"), ?_⟩
  | refine ⟨_, _, rfl, Or.inr (by walk_at "sq"), ?_⟩
  | refine Or.inl ⟨_, rfl, ?_⟩
  | refine Or.inr ⟨_, rfl, ?_⟩
  | refine ⟨(by walk_at "side"), ?_⟩
  | refine ⟨.inl ⟨rfl, _, (by walk_at "sq")⟩, ?_⟩
  | refine ⟨_, _, rfl, ?_⟩)
local macro_rules | `(tactic| walk_at "nrm") => `(tactic| dsimp only [tNil, tCons, tC, tCB])
local macro_rules | `(tactic| walk_at "ev") => `(tactic| repeat (walk_at "ev1"))

abbrev sc_w_web_N : List Str := ["_law_box_here", "_law_size_so", "_law_most", "_law_high", "_law_tags", "_law_marks", "_law_found", "_law_mark", "_law_one", "_law_two", "_law_space"]
abbrev s_w_web : Stmt := topS 17
theorem sc_w_web : FnScope ["_law_box_here", "_law_size_so", "_law_most", "_law_high", "_law_tags", "_law_marks", "_law_found", "_law_mark", "_law_one", "_law_two", "_law_space"] ["_law_box_here", "_law_size_so", "_law_most", "_law_high"] (defScope s_w_web) := ⟨rfl, rfl, rfl, by decide +kernel, rfl, by decide +kernel, by decide +kernel⟩
/-- the first row of a pair stands as a tuple whose object is known -/
def TupW (H : Hp) (v : V) (xs : List V) : Prop := ∃ (a0 a1 a2 : Addr) (ob : Obj), v = .ref a0 ∧ H a0 = some (.tup [.ref a1, .ref a2]) ∧ H a1 = some (.frz ob (.tup xs)) ∧ ob.cls = .type "tuple" ∧ ob.dict = none
/-! ### nets as data -/
structure QD where
  nm : Str
  st : Str
  en : Str
  room : Int
  gap : Int
def QD.d (f : Bool) (q : QD) : PyData := seqD f [.str q.nm, .str q.st, .str q.en, .int q.room, .int q.gap]
def netD (f : Bool) (ws : List Str) (qs : List QD) : PyData := seqD f [seqD f (ws.map PyData.str), seqD f (qs.map (QD.d f))]
def poolW : List Str := [Str.ofString "a", Str.ofString "b", Str.ofString "c.x", Str.ofString "d2", Str.ofString "k", Str.ofString "node", Str.ofString "s", Str.ofString "t", Str.ofString "w.1", Str.ofString "z"]
def poolQ : List Str := [Str.ofString "a", Str.ofString "d2", Str.ofString "e", Str.ofString "f1", Str.ofString "in.a", Str.ofString "k", Str.ofString "m", Str.ofString "out", Str.ofString "p", Str.ofString "q", Str.ofString "s", Str.ofString "v", Str.ofString "x", Str.ofString "z"]
structure GoodNet (s m : Nat) (h : Int) (ws : List Str) (qs : List QD) : Prop where
  wn : ws.Nodup
  wo : sortedS ws = true
  w2 : 2 ≤ ws.length
  wl : ws.length ≤ s
  wp : ∀ x ∈ ws, x ∈ poolW
  qn : ∃ l : List Str, l.Nodup ∧ sortedS l = true ∧ (∀ x ∈ l, x ∈ poolQ) ∧ ∃ k, qs.map QD.nm = l.take k
  q1 : 1 ≤ qs.length
  ql : qs.length ≤ m
  qq : ∀ q ∈ qs, q.st ∈ ws ∧ q.en ∈ ws ∧ q.st ≠ q.en ∧ 1 ≤ q.gap ∧ q.gap ≤ q.room ∧ q.room ≤ h
theorem cutS_at {S : List Addr} {H : Hp} {a : Addr} {o : HO} (h : H a = some o) (n : a ∉ S) : cutS S H a = some o := by
  rw [cutS_out n]
  exact h
theorem not1 {a b : Addr} (h : a ≠ b) : a ∉ [b] := fun z => h (List.mem_singleton.mp z)
theorem not2 {a b c : Addr} (h : a ≠ b) (h2 : a ≠ c) : a ∉ [b, c] := fun z => by
  rcases List.mem_cons.mp z with e | e
  · exact h e
  · exact h2 (List.mem_singleton.mp e)
theorem cutV_map {α : Type} {f : α → V} {xs : List α} {k : Nat} : cutV (xs.map f) none (some (k : Int)) = (xs.take k).map f := by
  unfold cutV
  rw [List.length_map, show HT.sIx xs.length 0 none = 0 from HT.sIx_none _ _, show HT.sIx xs.length xs.length (some (k : Int)) = min k xs.length from HT.sIx_nat _ _ _, Nat.sub_zero, List.drop_zero, ← List.map_take]
  congr 1
  by_cases h : k ≤ xs.length
  · rw [Nat.min_eq_left h]
  · rw [Nat.min_eq_right (by omega), List.take_of_length_le (by omega), List.take_of_length_le (by omega)]
/-- where the loop of _law_web stands -/
structure WSt (K : PySem.W.Frag) (b p7 p9 : Addr) (H3 : Hp) (ls fs : List V) (ds : List PyData) (Hc : Hp) (bx : List V) (n : Nat) : Prop where
  hb : Hc b = some (.lst bx)
  hB : BoxL bx n
  hf : Hc p7 = some (.lst fs)
  hd : DpAll K (cutS [p7, b] Hc) fs ds
  hS : Same (cutS [b] H3) (cutS [p7, b] Hc)
  h9 : cutS [p7, b] Hc p9 = some (.lst ls)
theorem WSt.take {K : PySem.W.Frag} {b p7 p9 : Addr} {H3 : Hp} {ls fs : List V} {ds : List PyData} {Hc : Hp} {bx bx' : List V} {n : Nat} (w : WSt K b p7 p9 H3 ls fs ds Hc bx n) (n7 : p7 ≠ b) (h : BoxL bx' (n + 1)) : WSt K b p7 p9 H3 ls fs ds (upd Hc b (.lst bx')) bx' (n + 1) := by
  have e : cutS [p7, b] (upd Hc b (.lst bx')) = cutS [p7, b] Hc := cutS_upd (List.mem_cons_of_mem _ List.mem_cons_self)
  exact ⟨upd_same, h, by rw [upd_ne n7]; exact w.hf, by rw [e]; exact w.hd, by rw [e]; exact w.hS, by rw [e]; exact w.h9⟩
theorem WSt.same {K : PySem.W.Frag} {b p7 p9 : Addr} {H3 : Hp} {ls fs : List V} {ds : List PyData} {Hc Hd : Hp} {bx : List V} {n : Nat} (w : WSt K b p7 p9 H3 ls fs ds Hc bx n) (e : Same Hc Hd) : WSt K b p7 p9 H3 ls fs ds Hd bx n :=
  ⟨e _ _ w.hb, w.hB, e _ _ w.hf, (cutS_mono e).dpa w.hd, w.hS.trans (cutS_mono e), cutS_mono e _ _ w.h9⟩
theorem WSt.push {K : PySem.W.Frag} {b p7 p9 : Addr} {H3 : Hp} {ls fs : List V} {ds : List PyData} {Hc : Hp} {bx : List V} {n : Nat} {v : V} {d : PyData} (w : WSt K b p7 p9 H3 ls fs ds Hc bx n) (n7 : p7 ≠ b) (h : Dp K (cutS [p7, b] Hc) v d) :
    WSt K b p7 p9 H3 ls (fs ++ [v]) (ds ++ [d]) (upd Hc p7 (.lst (fs ++ [v]))) bx n := by
  have e : cutS [p7, b] (upd Hc p7 (.lst (fs ++ [v]))) = cutS [p7, b] Hc := cutS_upd List.mem_cons_self
  exact ⟨by rw [upd_ne n7.symm]; exact w.hb, w.hB, upd_same, by rw [e]; exact dpa_app w.hd (dpa_one h), by rw [e]; exact w.hS, by rw [e]; exact w.h9⟩
theorem WSt.mono {K : PySem.W.Frag} {b p7 p9 : Addr} {H3 : Hp} {ls fs : List V} {ds : List PyData} {Hc : Hp} {bx : List V} {n n' : Nat} (w : WSt K b p7 p9 H3 ls fs ds Hc bx n) (h : n ≤ n') : WSt K b p7 p9 H3 ls fs ds Hc bx n' := ⟨w.hb, w.hB.mono h, w.hf, w.hd, w.hS, w.h9⟩
theorem apart (L r1 r2 : Int) (h1 : 0 ≤ r1) (h2 : r1 < L) (h3 : 0 ≤ r2) (h4 : r2 < L - 1) : 0 ≤ (r1 + 1 + r2) % L ∧ (r1 + 1 + r2) % L < L ∧ (r1 + 1 + r2) % L ≠ r1 := by
  refine ⟨Int.emod_nonneg _ (by omega), Int.emod_lt_of_pos _ (by omega), ?_⟩
  by_cases h : r1 + 1 + r2 < L
  · rw [Int.emod_eq_of_lt (by omega) h]
    omega
  · rw [← Int.sub_emod_right (r1 + 1 + r2) L, Int.emod_eq_of_lt (by omega) (by omega)]
    omega
section
variable {P : Program} {w : World} {K : PySem.W.Frag} {mg : Str → Option Value} {base : Heap}
/-- _law_web(box, size, most, high): a drawn net -/
def spWeb (K : PySem.W.Frag) : Sp := fun vs H Q _ => ∃ (b : Addr) (s m : Nat) (h : Int) (bx : List V) (N : Nat), vs = [.ref b, .int (s : Int), .int (m : Int), .int h] ∧ H b = some (.lst bx) ∧ BoxL bx N ∧ N < 2 ^ 50 ∧ 2 ≤ s ∧ s ≤ 10 ∧ 1 ≤ m ∧ m ≤ 14 ∧ 1 ≤ h ∧ h ≤ 10 ^ 50 ∧
  ∀ (H' : Hp) (v : V) (ws : List Str) (qs : List QD) (bx' : List V), GoodNet s m h ws qs → Dp K (cutS [b] H') v (netD true ws qs) → TupW (cutS [b] H') v (ws.map V.str) → H' b = some (.lst bx') → BoxL bx' (N + 200) → Same (cutS [b] H) (cutS [b] H') → Q v H'
theorem ok_web {f fT fP : Addr} {fd fdT fdP : FuncData} {k : Nat} (F : Fun K "_law_web" "_law_web" s_w_web f fd) (G_w_take : FnOk P w K mg base CX0 k fT fdT ["_law_box_here", "_law_below"] spTake2) (g_w_take : mg "_law_take" = some (.ref fT)) (F_w_take : Fun K "_law_take" "_law_take" s_w_take fT fdT) (b_w_take : Binds K fdT ["_law_box_here", "_law_below"] [])
    (G_w_pick : FnOk P w K mg base CX0 k fP fdP ["_law_box_here", "_law_pool", "_law_size_so"] (spPick K)) (g_w_pick : mg "_law_pick" = some (.ref fP)) (F_w_pick : Fun K "_law_pick" "_law_pick" s_w_pick fP fdP) (b_w_pick : Binds K fdP ["_law_box_here", "_law_pool", "_law_size_so"] [])
    (m_sorted : mg "sorted" = none) (m_len : mg "len" = none) (m_int : mg "int" = none) (m_tuple : mg "tuple" = none) : FnOk P w K mg base CX0 (k + 1) f fd ["_law_box_here", "_law_size_so", "_law_most", "_law_high"] (spWeb K) := by
  refine F.ok sc_w_web (fun vs H Q E h => ?_) (fun cdv A outer s0 H vs Q E hr h => ?_)
  · obtain ⟨b, s, m, h, bx, N, rfl, _⟩ := h
    rfl
  · obtain ⟨b, s, m, h, bx, N, rfl, hb, hB, hN, s1, s2, m1, m2, h1, h2, q⟩ := h
    refine ⟨_, (pss_cons (ps_set (i := 4) sc_w_web.nd rfl (Or.inl rfl) (pe_call G_w_pick hr (by rfl) g_w_pick F_w_pick.kp b_w_pick .nil pass0 (pa_cons (pv 0) (pa_cons (pe_lst (pa_cons pe_str (pa_cons pe_str (pa_cons pe_str (pa_cons pe_str (pa_cons pe_str (pa_cons pe_str (pa_cons pe_str (pa_cons pe_str (pa_cons pe_str (pa_cons pe_str pa_nil))))))))))) (pa_cons (pe_op op_add pe_int (pe_call G_w_take hr (by rfl) g_w_take F_w_take.kp b_w_take .nil pass0 (pa_cons (pv 0) (pa_cons (pe_op op_sub (pv 1) pe_int) pa_nil)))) pa_nil))))) 
    (pss_cons (ps_set (i := 5) sc_w_web.nd rfl (Or.inl rfl) (pe_callB cr_sortedS (by rfl) m_sorted (by decide +kernel) (pa_cons (pe_call G_w_pick hr (by rfl) g_w_pick F_w_pick.kp b_w_pick .nil pass0 (pa_cons (pv 0) (pa_cons (pe_lst (pa_cons pe_str (pa_cons pe_str (pa_cons pe_str (pa_cons pe_str (pa_cons pe_str (pa_cons pe_str (pa_cons pe_str (pa_cons pe_str (pa_cons pe_str (pa_cons pe_str (pa_cons pe_str (pa_cons pe_str (pa_cons pe_str (pa_cons pe_str pa_nil))))))))))))))) (pa_cons (pv 2) pa_nil)))) pa_nil))) 
    (pss_cons (ps_set (i := 6) sc_w_web.nd rfl (Or.inl rfl) (pe_lst pa_nil)) 
    (pss_cons (ps_forX (ps_for PassesOwn.never rfl (pi_list (pe_slice sl_list (pv 5) po_none (po_some (pe_op op_add pe_int (pe_call G_w_take hr (by rfl) g_w_take F_w_take.kp b_w_take .nil pass0 (pa_cons (pv 0) (pa_cons (pv 2) pa_nil))))))) (pg_name (i := 7) sc_w_web.nd rfl (Or.inl rfl)) 
      (pss_cons (ps_set (i := 8) sc_w_web.nd rfl (Or.inl rfl) (pe_call G_w_take hr (by rfl) g_w_take F_w_take.kp b_w_take .nil pass0 (pa_cons (pv 0) (pa_cons (pe_callB call_len_seq (by rfl) m_len PySem.boot_len (pa_cons (pv 4) pa_nil)) pa_nil)))) 
      (pss_cons (ps_set (i := 9) sc_w_web.nd rfl (Or.inl rfl) (pe_op op_mod (pe_callTy call_int1 (by rfl) m_int (by decide +kernel) (pa_cons (pe_op op_add (pe_op op_add (pv 8) pe_int) (pe_call G_w_take hr (by rfl) g_w_take F_w_take.kp b_w_take .nil pass0 (pa_cons (pv 0) (pa_cons (pe_op op_sub (pe_callB call_len_seq (by rfl) m_len PySem.boot_len (pa_cons (pv 4) pa_nil)) pe_int) pa_nil)))) pa_nil)) (pe_callB call_len_seq (by rfl) m_len PySem.boot_len (pa_cons (pv 4) pa_nil)))) 
      (Evl.pss_cut (ps_if (PW.pt (pw_and (pt_cmpR op_gt (pv 8) (pv 9) (nomark _)) (pw_and1 (pt_cmpR op_gt (pe_call G_w_take hr (by rfl) g_w_take F_w_take.kp b_w_take .nil pass0 (pa_cons (pv 0) (pa_cons pe_int pa_nil))) pe_int (nomark _))))) (pss_one (ps_par (i := 8) (j := 9) (by rfl) sc_w_web.nd rfl rfl (by decide) rfl rfl (pa_cons (pv 9) (pa_cons (pv 8) pa_nil)) (by rfl))) pss_nil) 
      (pss_cons (ps_set (i := 10) sc_w_web.nd rfl (Or.inl rfl) (pe_op op_add pe_int (pe_call G_w_take hr (by rfl) g_w_take F_w_take.kp b_w_take .nil pass0 (pa_cons (pv 0) (pa_cons (pv 3) pa_nil))))) 
      (pss_one (ps_expr (pe_bm PySem.F.plainAttrs_list PySem.F.slot_list_append PySem.F.type_list_append mt_append (pv 6) (pa_cons (pe_tup (pa_cons (pv 7) (pa_cons (pe_ix ix_list (pv 4) (pv 8) (fun _ _ => rfl)) (pa_cons (pe_ix ix_list (pv 4) (pv 9) (fun _ _ => rfl)) (pa_cons (pv 10) (pa_cons (pe_op op_add pe_int (pe_call G_w_take hr (by rfl) g_w_take F_w_take.kp b_w_take .nil pass0 (pa_cons (pv 0) (pa_cons (pv 10) pa_nil)))) pa_nil)))))) pa_nil)))))))))) 
    (pss_one (ps_ret (pe_tup (pa_cons (pe_callTy call_tupF (by rfl) m_tuple (by decide +kernel) (pa_cons (pe_callB cr_sortedS (by rfl) m_sorted (by decide +kernel) (pa_cons (pv 4) pa_nil)) pa_nil)) (pa_cons (pe_callTy call_tuple_of (by rfl) m_tuple (by decide +kernel) (pa_cons (pv 6) pa_nil)) pa_nil))))))))), ?_⟩
    have t0 : Trk [b] H := Trk.cons Trk.nil hb
    walk_at "ev"
    intro p1 hp1
    have n1 : p1 ≠ b := fun z => by
      rw [z, hb] at hp1
      cases hp1
    have hb1 : (upd H p1 (.lst (poolW.map V.str))) b = some (.lst bx) := (Same.upd hp1) _ _ hb
    have hS1 : Same (cutS [b] H) (cutS [b] (upd H p1 (.lst (poolW.map V.str)))) := cutS_mono (.upd hp1)
    have hq1 : (upd H p1 (.lst (poolW.map V.str))) p1 = some (.lst (poolW.map V.str)) := upd_same
    show tCons _ _ _ (upd H p1 (.lst (poolW.map V.str))) _
    generalize upd H p1 (.lst (poolW.map V.str)) = H1 at hb1 hS1 hq1 ⊢
    walk_at "ev"
    refine ⟨b, (s : Int) - 1, bx, N, rfl, hb1, hB, by omega, by omega, small8000 (by omega), fun r bx1 r0 r1 hB1 => ?_⟩
    walk_at "ev"
    have hb2 : (upd H1 b (.lst bx1)) b = some (.lst bx1) := upd_same
    have hq2 : (upd H1 b (.lst bx1)) p1 = some (.lst (poolW.map V.str)) := by
      rw [upd_ne n1]
      exact hq1
    have hS2 : Same (cutS [b] H) (cutS [b] (upd H1 b (.lst bx1))) := by
      rw [cutS_upd List.mem_cons_self]
      exact hS1
    refine ⟨b, p1, 2 + r, bx1, N + 1, poolW, rfl, hb2, hB1, by show N + 1 + 10 < 2 ^ 60; omega, sql_of hq2, by decide, by omega, by omega, fun H3 p3 ts rs bx3 hperm hlen hp3 hq3 hb3 hB3 hS3 => ?_⟩
    have tl : ts.length = (2 + r).toNat := by
      rw [hlen]
      show min _ 10 = _
      omega
    have hS3' := hS2.trans hS3
    have n3 : p3 ≠ b := fun z => by
      rw [z, hb2] at hp3
      cases hp3
    have htn : ts.Nodup ∧ ∀ x ∈ ts, x ∈ poolW := by
      have hn : (ts ++ rs).Nodup := hperm.nodup_iff.mpr (by decide +kernel)
      exact ⟨(List.nodup_append.mp hn).1, fun x hx => hperm.mem_iff.mp (List.mem_append_left _ hx)⟩
    have hB3' : BoxL bx3 (N + 20) := hB3.mono (by omega)
    clear hlen hperm hB3 hS3 hB1 hB hq2 hq1 hb1 hS1 hS2 hp3 hb2
    show gName 4 (.ref p3) _ H3 _
    clear hp1 n1
    have hT3 : cutS [b] H3 p3 = some (.lst (ts.map V.str)) := cutS_at hq3 (not1 n3)
    have t3 : Trk [b] H3 := Trk.cons Trk.nil hb3
    walk_at "ev"
    intro p4 hp4
    have n4 : p4 ≠ b := fun z => by
      rw [z, hb3] at hp4
      cases hp4
    have hb4 : (upd H3 p4 (.lst (poolQ.map V.str))) b = some (.lst bx3) := (Same.upd hp4) _ _ hb3
    have hS4 : Same (cutS [b] H3) (cutS [b] (upd H3 p4 (.lst (poolQ.map V.str)))) := cutS_mono (.upd hp4)
    have hq4 : (upd H3 p4 (.lst (poolQ.map V.str))) p4 = some (.lst (poolQ.map V.str)) := upd_same
    show tCons _ _ _ (upd H3 p4 (.lst (poolQ.map V.str))) _
    generalize upd H3 p4 (.lst (poolQ.map V.str)) = H4 at hb4 hS4 hq4 ⊢
    walk_at "ev"
    refine ⟨b, p4, (m : Int), bx3, N + 20, poolQ, rfl, hb4, hB3', by show N + 20 + 14 < 2 ^ 60; omega, sql_of hq4, by decide, by omega, by omega, fun H5 p5 ms rs2 bx5 hperm2 hlen2 hp5 hq5 hb5 hB5 hS5 => ?_⟩
    have ml : ms.length = m := by
      rw [hlen2]
      show min _ 14 = _
      omega
    have hS5' := hS4.trans hS5
    have hmn : ms.Nodup ∧ ∀ x ∈ ms, x ∈ poolQ := by
      have hn : (ms ++ rs2).Nodup := hperm2.nodup_iff.mpr (by decide +kernel)
      exact ⟨(List.nodup_append.mp hn).1, fun x hx => hperm2.mem_iff.mp (List.mem_append_left _ hx)⟩
    have hB5' : BoxL bx5 (N + 40) := hB5.mono (by omega)
    clear hlen2 hperm2 hB5 hS5 hq4 hb4 hS4 hp5
    walk_at "ev"
    refine ⟨p5, ms, rfl, sql_of hq5, by omega, fun zs p6 hz1 hz2 hp6 => ?_⟩
    have zl : zs.length = m := by rw [hz1.length_eq, ml]
    have hzn : zs.Nodup ∧ ∀ x ∈ zs, x ∈ poolQ := ⟨hz1.nodup_iff.mpr hmn.1, fun x hx => hmn.2 x (hz1.mem_iff.mp hx)⟩
    have hb6 : (upd H5 p6 (.lst (zs.map V.str))) b = some (.lst bx5) := (Same.upd hp6) _ _ hb5
    have hS6 : Same (cutS [b] H3) (cutS [b] (upd H5 p6 (.lst (zs.map V.str)))) := hS5'.trans (cutS_mono (.upd hp6))
    have hq6 : (upd H5 p6 (.lst (zs.map V.str))) p6 = some (.lst (zs.map V.str)) := upd_same
    have n6 : p6 ≠ b := fun z => by
      rw [z, hb5] at hp6
      cases hp6
    clear hmn hz1 hq5 hp6 hS5' ml
    show gName 5 (.ref p6) _ (upd H5 p6 (.lst (zs.map V.str))) _
    generalize upd H5 p6 (.lst (zs.map V.str)) = H6 at hb6 hS6 hq6 ⊢
    clear hb5 hp4 n4
    walk_at "ev"
    intro p7 hp7
    have n7 : p7 ≠ b := fun z => by
      rw [z, hb6] at hp7
      cases hp7
    have hb7 : (upd H6 p7 (.lst [])) b = some (.lst bx5) := (Same.upd hp7) _ _ hb6
    have hq7 : (upd H6 p7 (.lst [])) p7 = some (.lst []) := upd_same
    have hS7 : Same (cutS [b] H3) (cutS [p7, b] (upd H6 p7 (.lst []))) := hS6.trans (cutS_cons hp7)
    have hM7 : cutS [p7, b] (upd H6 p7 (.lst [])) p6 = some (.lst (zs.map V.str)) := (cutS_cons (S := [b]) (o := .lst []) hp7) _ _ (cutS_at hq6 (not1 n6))
    show gName 6 (.ref p7) _ (upd H6 p7 (.lst [])) _
    generalize upd H6 p7 (.lst []) = H7 at hb7 hS7 hq7 hM7 ⊢
    clear hb6 hS6 hq6 hp7
    refine for_of ?_
    walk_at "ev"
    refine ⟨b, (m : Int), bx5, N + 40, rfl, hb7, hB5', by omega, by omega, small8000 (by omega), fun r8 bx8 r80 r81 hB8 => ?_⟩
    have hq8 : (upd H7 b (.lst bx8)) p7 = some (.lst []) := by
      rw [upd_ne n7]
      exact hq7
    have hb8 : (upd H7 b (.lst bx8)) b = some (.lst bx8) := upd_same
    have eS8 : cutS [p7, b] (upd H7 b (.lst bx8)) = cutS [p7, b] H7 := cutS_upd (List.mem_cons_of_mem _ List.mem_cons_self)
    rw [← eS8] at hS7 hM7
    generalize upd H7 b (.lst bx8) = H8 at hb8 hS7 hq8 hM7 ⊢
    clear hb7 hq7 eS8 hB5'
    have hSl8 : SqL K H8 p6 (zs.map V.str) := sql_of (cutS_le _ _ hM7)
    walk_at "ev"
    intro p9 hp9
    obtain ⟨k, hk⟩ : ∃ k : Nat, 1 + r8 = (k : Int) := ⟨(1 + r8).toNat, by omega⟩
    rw [hk, cutV_map]
    have kl : k ≤ zs.length := by omega
    have w0 : WSt K b p7 p9 H3 ((zs.take k).map V.str) [] [] (upd H8 p9 (.lst ((zs.take k).map V.str))) bx8 (N + 41) :=
      ⟨(Same.upd hp9) _ _ hb8, hB8, (Same.upd hp9) _ _ hq8, .nil, hS7.trans (cutS_mono (.upd hp9)), cutS_new (Trk.cons (Trk.cons Trk.nil hb8) hq8) hp9⟩
    generalize upd H8 p9 (.lst ((zs.take k).map V.str)) = H9 at w0 ⊢
    clear hp9 hb8 hS7 hq8 hM7 hSl8 hB8
    refine ⟨p9, rfl, ⟨_, sql_of (cutS_le _ _ w0.h9)⟩, ?_⟩
    refine forR_it (walk_list (K := K) (a := p9) (xs := (zs.take k).map V.str)) (fun i σ Hc => ∃ (x7 x8 x9 x10 : Option V) (fs : List V) (qs : List QD) (bxc : List V), σ = [some (.ref b), some (.int (s : Int)), some (.int (m : Int)), some (.int h), some (.ref p3), some (.ref p6), some (.ref p7), x7, x8, x9, x10] ∧
        WSt K b p7 p9 H3 ((zs.take k).map V.str) fs (qs.map (QD.d true)) Hc bxc (N + 41 + 6 * i) ∧ qs.map QD.nm = zs.take i ∧ qs.length = i ∧ ∀ q ∈ qs, q.st ∈ ts ∧ q.en ∈ ts ∧ q.st ≠ q.en ∧ 1 ≤ q.gap ∧ q.gap ≤ q.room ∧ q.room ≤ h)
      ⟨_, _, _, _, [], [], bx8, rfl, w0, rfl, rfl, fun _ hx => absurd hx List.not_mem_nil⟩ (fun i σ Hc _ hh => ?_) (fun i v σ Hc Hc' hi hh y => ?_) (fun σ Hc hh => ?_)
    · obtain ⟨_, _, _, _, _, _, _, _, hw, _⟩ := hh
      exact sql_of (cutS_le _ _ hw.h9)
    · obtain ⟨x7, x8, x9, x10, fs, qs, bxc, rfl, hw, hqn, hql, hqq⟩ := hh
      obtain ⟨rfl, hv⟩ := y
      rw [List.length_map, List.length_take, Nat.min_eq_left kl] at hi
      have hzi : i < zs.length := by omega
      have ev : v = .str zs[i] := by
        rw [List.getElem?_map, List.getElem?_take_of_lt hi, List.getElem?_eq_getElem hzi] at hv
        exact (Option.some.inj hv).symm
      subst ev
      have hTc : SqL K Hc' p3 (ts.map V.str) := sql_of (cutS_le _ _ (hw.hS _ _ hT3))
      have hTl : (ts.map V.str).length = ts.length := List.length_map ..
      walk_at "ev"
      refine ⟨b, _, bxc, _, rfl, hw.hb, hw.hB, by omega, by omega, small8000 (by omega), fun r1 bx1 r10 r11 hB1 => ?_⟩
      have w1 := hw.take n7 hB1
      have hT1 : SqL K _ p3 (ts.map V.str) := sql_of (cutS_le _ _ (w1.hS _ _ hT3))
      generalize upd Hc' b (.lst bx1) = Ha at w1 hT1 ⊢
      walk_at "ev"
      refine ⟨b, _, bx1, _, rfl, w1.hb, w1.hB, by omega, by omega, small8000 (by omega), fun r2 bx2 r20 r21 hB2 => ?_⟩
      have w2 := w1.take n7 hB2
      have hT2 : SqL K _ p3 (ts.map V.str) := sql_of (cutS_le _ _ (w2.hS _ _ hT3))
      generalize upd Ha b (.lst bx2) = Hb at w2 hT2 ⊢
      clear hw w1 hTc hT1 hB1 hB2
      walk_at "ev"
      obtain ⟨ap1, ap2, ap3⟩ := apart (ts.map V.str).length r1 r2 r10 r11 r20 r21
      refine ⟨fun σ Hd => ∃ (o t : Nat) (x10' : Option V) (bxd : List V), σ = [some (.ref b), some (.int (s : Int)), some (.int (m : Int)), some (.int h), some (.ref p3), some (.ref p6), some (.ref p7), some (.str zs[i]), some (.int (o : Int)), some (.int (t : Int)), x10'] ∧
        o < ts.length ∧ t < ts.length ∧ o ≠ t ∧ WSt K b p7 p9 H3 ((zs.take k).map V.str) fs (qs.map (QD.d true)) Hd bxd (N + 41 + 6 * i + 1 + 1 + 1), ?_, ?_⟩
      · walk_at "ev"
        obtain ⟨o, rfl⟩ : ∃ o : Nat, r1 = (o : Int) := ⟨r1.toNat, by omega⟩
        obtain ⟨t, ht⟩ : ∃ t : Nat, ((o : Int) + 1 + r2) % ((ts.map V.str).length : Int) = (t : Int) := ⟨(((o : Int) + 1 + r2) % ((ts.map V.str).length : Int)).toNat, by omega⟩
        rw [ht] at ap1 ap2 ap3
        refine ite2 (fun e => ?_) (fun e => ?_)
        · walk_at "ev"
          refine ⟨b, _, bx2, _, rfl, w2.hb, w2.hB, by omega, by omega, small8000 (by omega), fun r3 bx3' r30 r31 hB3 => ?_⟩
          have w3 := w2.take n7 hB3
          walk_at "ev"
          refine ite2 (fun e2 => ?_) (fun e2 => ?_)
          · walk_at "ev"
            exact ⟨t, o, _, bx3', by rw [← ht]; rfl, by omega, by omega, by omega, w3⟩
          · exact ⟨o, t, _, bx3', by rw [← ht]; rfl, by omega, by omega, by omega, w3⟩
        · refine iteF ?_
          exact ⟨o, t, _, bx2, by rw [← ht]; rfl, by omega, by omega, by omega, ⟨w2.hb, w2.hB.mono (by omega), w2.hf, w2.hd, w2.hS, w2.h9⟩⟩
      · rintro σ Hd ⟨o, t, x10', bxd, rfl, ho, ht, hot, w3⟩
        walk_at "ev"
        refine ⟨b, h, bxd, _, rfl, w3.hb, w3.hB, by omega, by omega, small8000 (by omega), fun r5 bx5' r50 r51 hB5 => ?_⟩
        have w5 := w3.take n7 hB5
        have hT5 : SqL K _ p3 (ts.map V.str) := sql_of (cutS_le _ _ (w5.hS _ _ hT3))
        have hF5 : SqL K _ p7 fs := sql_of w5.hf
        generalize upd Hd b (.lst bx5') = He at w5 hT5 hF5 ⊢
        walk_at "ev"
        have a1 : atI (ts.map V.str) (o : Int) = some (.str ts[o]) := at_of rfl (by rw [List.getElem?_map, List.getElem?_eq_getElem ho]; rfl)
        have a2 : atI (ts.map V.str) (t : Int) = some (.str ts[t]) := at_of rfl (by rw [List.getElem?_map, List.getElem?_eq_getElem ht]; rfl)
        refine ⟨_, _, _, _, rfl, rfl, hT5, a1, ?_⟩
        walk_at "ev"
        refine ⟨_, _, _, _, rfl, rfl, hT5, a2, ?_⟩
        walk_at "ev"
        refine ⟨b, 1 + r5, bx5', _, rfl, w5.hb, w5.hB, by omega, by omega, small8000 (by omega), fun r6 bx6' r60 r61 hB6 => ?_⟩
        have w6 := w5.take n7 hB6
        generalize upd He b (.lst bx6') = Hf at w6 ⊢
        walk_at "ev"
        intro pt hpt
        have w7 := w6.same (.upd (o := .tup [V.str zs[i], V.str ts[o], V.str ts[t], V.int (1 + r5), V.int (1 + r6)]) hpt)
        have hpt2 : cutS [p7, b] (upd Hf pt (.tup [V.str zs[i], V.str ts[o], V.str ts[t], V.int (1 + r5), V.int (1 + r6)])) pt = some (.tup [V.str zs[i], V.str ts[o], V.str ts[t], V.int (1 + r5), V.int (1 + r6)]) :=
          cutS_new (Trk.cons (Trk.cons Trk.nil w6.hb) w6.hf) hpt
        have fl : fs.length = qs.length := by rw [dpa_len w7.hd, List.length_map]
        have w8 := w7.push n7 (v := .ref pt) (d := QD.d true ⟨zs[i], ts[o], ts[t], 1 + r5, 1 + r6⟩) (.tup (sqt_of hpt2) (.cons (.str _) (.cons (.str _) (.cons (.str _) (.cons (.int _) (.cons (.int _) .nil))))))
        refine ⟨p7, fs, .ref pt, rfl, rfl, w7.hf, sz_lt (by omega), ?_⟩
        refine ⟨_, _, _, _, fs ++ [.ref pt], qs ++ [⟨zs[i], ts[o], ts[t], 1 + r5, 1 + r6⟩], bx6', rfl, ?_, ?_, ?_, ?_⟩
        · rw [List.map_append]
          exact w8.mono (by omega)
        · rw [List.map_append, hqn, List.take_add_one, List.getElem?_eq_getElem hzi]
          rfl
        · rw [List.length_append, hql]
          rfl
        · intro x hx
          rcases List.mem_append.mp hx with hx | hx
          · exact hqq x hx
          · rw [List.mem_singleton.mp hx]
            refine ⟨List.getElem_mem ho, List.getElem_mem ht, fun e => hot (nd_ix htn.1 (List.getElem?_eq_getElem ho) (by rw [List.getElem?_eq_getElem ht]; exact congrArg some e.symm)), by show 1 ≤ 1 + r6; omega, by show 1 + r6 ≤ 1 + r5; omega, by show 1 + r5 ≤ h; omega⟩
    · obtain ⟨x7, x8, x9, x10, fs, qs, bxc, rfl, hw, hqn, hql, hqq⟩ := hh
      rw [List.length_map, List.length_take, Nat.min_eq_left kl] at hw hqn hql
      have hTc : SqL K Hc p3 (ts.map V.str) := sql_of (cutS_le _ _ (hw.hS _ _ hT3))
      walk_at "ev"
      refine ⟨by omega, fun us p10 hu1 hu2 hp10 => ?_⟩
      have w10 := hw.same (.upd (o := .lst (us.map V.str)) hp10)
      refine ⟨p10, _, rfl, sql_of upd_same, fun p11 ob hp11 hoc hod => ?_⟩
      have w11 := w10.same (.upd (o := .frz ob (.tup (us.map V.str))) hp11)
      have n11 : p11 ≠ b := fun z => by
        rw [z, w10.hb] at hp11
        cases hp11
      have g11 : cutS [b] _ p11 = some (.frz ob (.tup (us.map V.str))) := cutS_at (upd_same (H := upd Hc p10 (.lst (us.map V.str))) (a := p11) (o := .frz ob (.tup (us.map V.str)))) (not1 n11)
      generalize upd (upd Hc p10 (.lst (us.map V.str))) p11 (.frz ob (.tup (us.map V.str))) = H11 at w11 g11 ⊢
      walk_at "ev"
      refine ⟨p7, fs, rfl, .inl ⟨sql_of w11.hf, fun p12 hp12 => ?_⟩⟩
      have w12 := w11.same (.upd (o := .tup fs) hp12)
      have n12 : p12 ≠ b := fun z => by
        rw [z, w11.hb] at hp12
        cases hp12
      have g12 : cutS [b] _ p12 = some (.tup fs) := cutS_at (upd_same (H := H11) (a := p12) (o := .tup fs)) (not1 n12)
      have g11' := cutS_mono (S := [b]) (.upd (o := .tup fs) hp12) _ _ g11
      generalize upd H11 p12 (.tup fs) = H12 at w12 g12 g11' ⊢
      walk_at "ev"
      intro p13 hp13
      have w13 := w12.same (.upd (o := .tup [.ref p11, .ref p12]) hp13)
      have n13 : p13 ≠ b := fun z => by
        rw [z, w12.hb] at hp13
        cases hp13
      have e13 : Same (cutS [b] H12) (cutS [b] (upd H12 p13 (.tup [.ref p11, .ref p12]))) := cutS_mono (.upd hp13)
      have htl : ts.length = us.length := hu1.length_eq.symm
      have hus : us.Nodup ∧ ∀ x, x ∈ us ↔ x ∈ ts := ⟨hu1.nodup_iff.mpr htn.1, fun x => hu1.mem_iff⟩
      refine q _ (.ref p13) us qs bxc ⟨hus.1, hu2, by omega, by omega, fun x hx => htn.2 x ((hus.2 x).mp hx), ⟨zs, hzn.1, hz2, hzn.2, k, hqn⟩, by omega, by omega, fun x hx => ?_⟩ ?_ ⟨p13, p11, p12, ob, rfl, cutS_at upd_same (not1 n13), e13 _ _ g11', hoc, hod⟩ w13.hb (w13.hB.mono (by omega)) ?_
      · obtain ⟨q1, q2, q3⟩ := hqq x hx
        exact ⟨(hus.2 _).mpr q1, (hus.2 _).mpr q2, q3⟩
      · exact .tup (sqt_of (cutS_at upd_same (not1 n13))) (.cons (.tup (.inl (.inr ⟨ob, e13 _ _ g11'⟩)) dpa_strs) (.cons (.tup (sqt_of (e13 _ _ g12)) (cutS_tail.dpa w13.hd)) .nil))
      · exact hS3'.trans (w13.hS.trans cutS_tail)
end
end Jl

set_option Elab.async false
set_option linter.all false
set_option maxRecDepth 100000
set_option maxHeartbeats 4000000
set_option pp.maxSteps 900
namespace Jl
open PySem PySem.Spec PyProof.Rows L2
open Evl (sz_of sz_lt)
local macro_rules | `(tactic| walk_at "at") => `(tactic| first | exact box0 | exact box1 | exact box2)
local macro_rules | `(tactic| walk_at "sq") => `(tactic| first | (show SqL _ _ _ _; assumption) | (show SqT _ _ _ _; assumption) | (show _ = some _; assumption))
local macro_rules | `(tactic| walk_at "side") => `(tactic| first
  | (show (0 : Int) < _; decide)
  | (show (0 : Int) < _; omega)
  | exact ⟨by decide, by decide, by decide⟩
  | exact sz_of (Nat.le_of_ble_eq_true rfl)
  | exact rfl
  | exact Or.inl (by decide)
  | exact Or.inr (by decide)
  | exact Or.inr ⟨by omega, by omega⟩
  | exact Or.inl ⟨by omega, by omega⟩
  | exact ⟨by decide, by decide +kernel⟩)
local macro_rules | `(tactic| walk_at "ev1") => `(tactic| first
  | refine ⟨_, rfl, ?_⟩
  | refine ⟨_, _, rfl, rfl, ?_⟩
  | refine ⟨_, _, _, _, rfl, rfl, (by walk_at "sq"), (by walk_at "at"), ?_⟩
  | refine ⟨_, _, rfl, (by walk_at "sq"), ?_⟩
  | refine ⟨_, _, rfl, Or.inl (by walk_at "sq"), ?_⟩
  | refine ⟨_, _, rfl, Or.inr (by walk_at "sq"), ?_⟩
  | refine Or.inl ⟨_, rfl, ?_⟩
  | refine Or.inr ⟨_, rfl, ?_⟩
  | refine ⟨(by walk_at "side"), ?_⟩
  | refine ⟨.inl ⟨rfl, _, (by walk_at "sq")⟩, ?_⟩
  | refine ⟨_, _, rfl, ?_⟩)
local macro_rules | `(tactic| walk_at "nrm") => `(tactic| dsimp only [tNil, tCons, tC, tCB])
local macro_rules | `(tactic| walk_at "ev") => `(tactic| repeat (walk_at "ev1"))

/-! ### dict comprehensions by a walk -/
section
variable {X : Cx}
inductive DcP (wi : TI) (g : TG) (tt : TT) (tk tv : TE) (vs : List Nat) (σ : L2.St) (H : Hp) (Q : VK) : Prop
  | yes (h : tDc wi g tt tk tv vs σ H Q)
  | no (h : False)
def tDcX (wi : TI) (g : TG) (tt : TT) (tk tv : TE) (vs : List Nat) : TE := fun σ H Q => DcP wi g tt tk tv vs σ H Q
theorem pe_dcX {e : Expr} {wi : TI} {g : TG} {tt : TT} {tk tv : TE} {vs : List Nat} (h : PE X e (tDc wi g tt tk tv vs)) : PE X e (tDcX wi g tt tk tv vs) := ⟨fun pins s σ H Q I q => by
  cases q with
  | yes q => exact h.run pins s σ H Q I q
  | no q => exact q.elim⟩
theorem swd_true {kx vx : Expr} {gs : List Comprehension} {scope : Scope} {pos py : Pos} {y : Str} {l : Nat} {env : Env} (h1 : env.scope.kind = .function) (h2 : env.scope.names.lookup y = some .local) (h3 : (py.line == pos.line) = true)
    (h4 : (scope.names.any fun (n, k) => n == y && (k == .local || k == .cell)) = false) : swapsWith (.DictComp kx vx gs scope pos) (some (.Name y py)) l env = pure true := by
  have g1 : env.blockKind = .function := by
    unfold Env.blockKind
    rw [h1]
    rfl
  have g2 : env.kindOf y = some .local := h2
  unfold swapsWith
  simp only [g1, g2, h4, Expr.pos, h3]
  rfl
/-- y = {k: v for ..}: the name is stored within the comprehension's block -/
theorem ps_setDc {i : Nat} {y : Str} {py : Pos} {kx vx tg iter : Expr} {ifs : List Expr} {scope : Scope} {own : List (Str × Nat)} {pos spos : Pos} {wi : TI} {g : TG} {tt : TT} {tk tv : TE} (hc : X.calm = true) (hN : X.N.Nodup) (hy : X.N[i]? = some y) (hyl : X.env.scope.names.lookup y = some .local)
    (hsw : swapsWith (.DictComp kx vx [⟨tg, iter, ifs, 0⟩] scope pos) (some (.Name y py)) spos.line X.env = pure true) (hi : PI X tg iter wi) (ok : BlkOk X.N X.env.scope scope own)
    (hg : ∀ (s : Shared) (H : Hp) (C : Addr) (cl : List (Str × Addr)) (fp : List Addr), PG (X.blk s H scope (compEnvC scope cl C X.env) fp) tg g) (ht : ∀ (s : Shared) (H : Hp) (C : Addr) (cl : List (Str × Addr)) (fp : List Addr), PTs (X.blk s H scope (compEnvC scope cl C X.env) fp) ifs tt)
    (hk : ∀ (s : Shared) (H : Hp) (C : Addr) (cl : List (Str × Addr)) (fp : List Addr), PE (X.blk s H scope (compEnvC scope cl C X.env) fp) kx tk)
    (he : ∀ (s : Shared) (H : Hp) (C : Addr) (cl : List (Str × Addr)) (fp : List Addr), PE (X.blk s H scope (compEnvC scope cl C X.env) fp) vx tv) (hs : ∀ x, foldedSetIterable iter X.env x = pure x := by intro _; rfl) :
    PS X (.Assign [.Name y py] (.DictComp kx vx [⟨tg, iter, ifs, 0⟩] scope pos) spos) (tAsg (tDc wi g tt tk tv (own.map (·.2))) (gName i)) := ⟨fun pins s σ H D I h => by
  rw [exec_Assign_Name_used _ _ _ _ hsw]
  have h' : tDc wi g tt tk tv (own.map (·.2)) σ H (fun x H1 => gName i x σ H1 D.nx) := h
  have core := dc_core (pos := pos) (pos' := firstIterPos [⟨tg, iter, ifs, 0⟩] pos) (use := some (assign (.Name y py) X.env)) (Qf := fun _ s' => SP X pins D .next s') hc hN I hi ok hg ht hk he hs h' (fun L C s' m H' I' q hn f => by
    obtain ⟨f0, f1, f2, f3, f4, f5⟩ := f
    show wpAny _ _ (assign (.Name y py) X.env (.ref L)) _ _ _
    exact wpAny_assign_Name (store_ok2 (v := V.ref L) I' hN hy (.inl hyl) rfl (fun s2 I2 ⟨a, sb, ha⟩ => ⟨m, hn.sameBut sb (by
      rcases ha with z | z
      · rw [z]
        exact f1
      · exact fun e => f4 y a z e.symm), fun h3 sb3 => ⟨_, H', I2.turned (t' := s2.toks) (fun b o hb e => (sb3.2 b hb).trans e) f0 f1 f3 f4 f5, q⟩⟩) (.inr hyl)))
  exact wpAny_bind (wpAny_standAt (wpAny_bind (wpAny_bind (thn core fun _ s' hq => wpAny_pure (wpAny_pure hq)))))⟩
theorem ps_setDcX {st : Stmt} {i : Nat} {wi : TI} {g : TG} {tt : TT} {tk tv : TE} {vs : List Nat} (h : PS X st (tAsg (tDc wi g tt tk tv vs) (gName i))) : PS X st (tAsg (tDcX wi g tt tk tv vs) (gName i)) := ⟨fun pins s σ H D I q => by
  have q : DcP wi g tt tk tv vs σ H (fun x H1 => gName i x σ H1 D.nx) := q
  cases q with
  | yes q => exact h.run pins s σ H D I q
  | no q => exact q.elim⟩
theorem dc_of {wi : TI} {g : TG} {tt : TT} {tk tv : TE} {vs : List Nat} {σ : L2.St} {H : Hp} {Q : VK} (q : tDc wi g tt tk tv vs σ H Q) : tDcX wi g tt tk tv vs σ H Q := .yes q
end
/-- {x: f x for x in a row of texts} -/
theorem dc_strs {K : PySem.W.Frag} {tl tk tv : TE} {j : Nat} {vs : List Nat} {σ : L2.St} {H H0 : Hp} {Q : VK} {a : Addr} {fb : Bool} {xs : List Str} (f : Str → V) (hn : xs.Nodup)
    (ht : ∀ R' : VK, R' (.ref a) H0 → tl σ H R') (hs : SqF fb K H0 a (xs.map V.str)) (hl : xs.length ≤ 1000) (hw : ∀ x, wipe ((wipe σ vs).set j (some x)) vs = wipe σ vs)
    (hk : ∀ (x : Str) (H1 : Hp) (Q' : VK), Q' (.str x) H1 → tk ((wipe σ vs).set j (some (.str x))) H1 Q') (hv : ∀ (x : Str) (H1 : Hp) (Q' : VK), Q' (f x) H1 → tv ((wipe σ vs).set j (some (.str x))) H1 Q')
    (q : ∀ D, H0 D = none → Q (.ref D) (upd H0 D (.dK (xs.map fun x => (.inr x, f x))))) : tDcX (iSeq K tl) (gName j) tYes tk tv vs σ H Q := by
  refine dc_of ?_
  refine iSeq_at ht hs fun J w D hD => ?_
  refine ⟨fun i m H1 => m = xs.length - i ∧ i ≤ xs.length ∧ H1 = upd H0 D (.dK ((xs.take i).map fun x => (.inr x, f x))), ⟨_, rfl, Nat.zero_le _, rfl⟩, fun i m H1 hW => ?_⟩
  obtain ⟨rfl, hi, rfl⟩ := hW
  have hG : SqF fb K (upd H0 D (.dK ((xs.take i).map fun x => (.inr x, f x)))) a (xs.map V.str) := (Same.upd hD).sqF hs
  have hxl : (xs.map V.str).length = xs.length := List.length_map ..
  by_cases hlt : i < xs.length
  · refine .inr ⟨w.goes i _ (by omega) hG, fun H2 => H2 = upd H0 D (.dK ((xs.take (i + 1)).map fun x => (.inr x, f x))), fun H2 e => ⟨xs.length - (i + 1), by omega, rfl, hlt, e⟩, fun x H2 y => ?_⟩
    obtain ⟨rfl, hx⟩ := w.yields i _ x H2 (by omega) hG y
    rw [List.getElem?_map, List.getElem?_eq_getElem hlt] at hx
    cases hx
    refine ⟨hw _, ?_⟩
    dsimp only [tYes]
    rw [if_pos rfl]
    refine hk _ _ _ (hv _ _ _ ⟨_, .inr xs[i], rfl, upd_same, ?_, ?_⟩)
    · rw [List.length_map, List.length_take]
      exact sz_lt (by omega)
    · rw [upd_upd, List.take_add_one, List.getElem?_eq_getElem hlt, List.map_append, putK_new]
      · rfl
      · have hno : ∀ ys : List Str, xs[i] ∉ ys → valV (ys.map fun x => ((.inr x : Key), f x)) (.inr xs[i]) = none := by
          intro ys
          induction ys with
          | nil => exact fun _ => rfl
          | cons y ys ih =>
            intro hy
            rw [List.map_cons, valV_neg (fun e => hy (by rw [← Sum.inr.inj e]; exact List.mem_cons_self))]
            exact ih fun h => hy (List.mem_cons_of_mem _ h)
        refine hno _ fun hm => ?_
        obtain ⟨k, hk1, hk2⟩ := List.mem_take_iff_getElem.mp hm
        have := nd_ix hn (List.getElem?_eq_getElem hlt) (by rw [List.getElem?_eq_getElem (show k < xs.length by omega)]; exact congrArg some hk2)
        omega
  · have e : i = xs.length := by omega
    subst e
    refine .inl ⟨?_, ?_⟩
    · have := w.stops _ hG
      rw [hxl] at this
      exact this
    · rw [List.take_length]
      exact q D hD
/-- tuple(x) of a list or a tuple -/
def rTupOf (K : PySem.W.Frag) : List V → Hp → VK → Prop := fun xs H Q => ∃ p ys, xs = [.ref p] ∧ ((SqL K H p ys ∧ ∀ l, H l = none → Q (.ref l) (upd H l (.tup ys))) ∨ (SqT K H p ys ∧ Q (.ref p) H))
theorem call_tup_of {X : Cx} : CallR X (.type "tuple") (rTupOf X.K) := call_tuple_of
/-! ### sorted of data -/
def rSortD (K : PySem.W.Frag) : List V → Hp → VK → Prop := fun vs H Q => ∃ (a : Addr) (bs : List (V × PyData)), vs = [.ref a] ∧ SqL K H a (bs.map (·.1)) ∧ (∀ b ∈ bs, Dp K H b.1 b.2) ∧ PySem.W.AllAlike (bs.map (·.2)) ∧ PySem.W.Sortable (bs.map (·.2)) ∧ (∀ b ∈ bs, b.2.depth ≤ 30) ∧
  ∀ p, H p = none → Q (.ref p) (upd H p (.lst ((bs.mergeSort (PySem.W.dataLe false (·.2))).map (·.1))))
section
variable {X : Cx}
theorem each_vals : ∀ {us : List Value} {bs : List (V × PyData)}, Vals (bs.map (·.1)) us → PySem.W.EachIs (fun u b => RelV b.1 u) us bs
  | _, [], .nil => .nil
  | _, _ :: _, .cons r t => .cons r (each_vals t)
theorem vals_each : ∀ {us : List Value} {bs : List (V × PyData)}, PySem.W.EachIs (fun u b => RelV b.1 u) us bs → Vals (bs.map (·.1)) us
  | _, _, .nil => .nil
  | _, _, .cons r t => .cons r (vals_each t)
theorem cr_sortedD (hc : X.calm = true) (hu : X.A.units + 64 < cLine) : CallR X (.builtin "sorted") (rSortD X.K) := by
  intro pins s σ H vs us Q I r h
  obtain ⟨a, bs, rfl, hs, hd, hal, hso, hdp, q⟩ := h
  obtain ⟨its, rv, hl, hz⟩ := I.list hs
  rw [Vals.ref1 r]
  have he := each_vals rv
  have hr : ∀ (us : List Value) (bs : List (V × PyData)), (∀ b ∈ bs, Dp X.K H b.1 b.2) → PySem.W.EachIs (fun u b => RelV b.1 u) us bs → PySem.W.EachIs (fun u b => ∃ as, Reads s.heap u b.2 as) us bs := by
    intro us bs hd he
    induction he with
    | nil => exact .nil
    | @cons u b us bs h1 h2 ih => exact .cons (Dp.reads I b.2 b.1 u (hd b List.mem_cons_self) h1) (ih fun b hb => hd b (List.mem_cons_of_mem _ hb))
  have hlen : bs.length = its.length := by have := rv.length; rw [List.length_map] at this; exact this
  refine PySem.W.sorted_data (enc := (·.2)) hl.isList he (hr _ _ hd he) hal hso (by rw [List.length_map] at hz; exact hz) (fun b hb => by have := hdp b hb; omega) fun out hol ho => ?_
  obtain ⟨ep, he'⟩ := PyProof.Rows.sortedAll_at s.heap its out.toArray
  have hlen2 : ((bs.mergeSort (PySem.W.dataLe false (·.2))).map (·.1)).length ≤ sizeLine := by
    rw [List.length_map, List.length_mergeSort]
    rw [List.length_map] at hz
    exact hz
  exact ⟨.ref _, upd H (s.heap.objs.size + 1) (.lst _), I.laid (t' := s.toks) (fun _ _ => PyProof.Rows.sortedAll_old) (Nat.le_succ _) ⟨hlen2, out, ep, vals_each ho, he'⟩, rfl, q _ (I.hok.fresh (Nat.le_succ _))⟩
end
end Jl

set_option Elab.async false
set_option linter.all false
set_option maxRecDepth 100000
set_option maxHeartbeats 4000000
set_option pp.maxSteps 900
namespace Jl
open PySem PySem.Spec PyProof.Rows L2
open Evl (sz_of sz_lt)
local macro_rules | `(tactic| walk_at "at") => `(tactic| first | exact box0 | exact box1 | exact box2)
local macro_rules | `(tactic| walk_at "sq") => `(tactic| first | (show SqL _ _ _ _; assumption) | (show SqT _ _ _ _; assumption) | (show _ = some _; assumption))
local macro_rules | `(tactic| walk_at "side") => `(tactic| first
  | (show (0 : Int) < _; decide)
  | (show (0 : Int) < _; omega)
  | exact ⟨by decide, by decide, by decide⟩
  | exact sz_of (Nat.le_of_ble_eq_true rfl)
  | exact rfl
  | exact Or.inl (by decide)
  | exact Or.inr (by decide)
  | exact Or.inr ⟨by omega, by omega⟩
  | exact Or.inl ⟨by omega, by omega⟩
  | exact ⟨by decide, by decide +kernel⟩)
local macro_rules | `(tactic| walk_at "ev1") => `(tactic| first
  | refine ⟨_, rfl, ?_⟩
  | refine ⟨_, _, rfl, rfl, ?_⟩
  | refine ⟨_, _, _, _, rfl, rfl, (by walk_at "sq"), (by walk_at "at"), ?_⟩
  | refine ⟨_, _, rfl, (by walk_at "sq"), ?_⟩
  | refine ⟨_, _, rfl, Or.inl (by walk_at "sq"), ?_⟩
  | refine ⟨_, _, rfl, Or.inr (by walk_at "sq"), ?_⟩
  | refine Or.inl ⟨_, rfl, ?_⟩
  | refine Or.inr ⟨_, rfl, ?_⟩
  | refine ⟨(by walk_at "side"), ?_⟩
  | refine ⟨.inl ⟨rfl, _, (by walk_at "sq")⟩, ?_⟩
  | refine ⟨_, _, rfl, ?_⟩)
local macro_rules | `(tactic| walk_at "nrm") => `(tactic| dsimp only [tNil, tCons, tC, tCB])
local macro_rules | `(tactic| walk_at "ev") => `(tactic| repeat (walk_at "ev1"))

theorem vals_app : ∀ {vs : List V} {us : List Value} {zs : List V} {ws : List Value}, Vals vs us → Vals zs ws → Vals (vs ++ zs) (us ++ ws)
  | _, _, _, _, .nil, h => h
  | _, _, _, _, .cons r t, h => .cons r (vals_app t h)
section
variable {X : Cx} {CX : CXT} {k : Nat} {f : Addr} {fd : FuncData} {ps ks : List Str} {sp : Sp} {E : XK} {x : Str} {p pos : Pos} {kws : List Keyword} {tk : TA} {g : List Value → List Value → List Value} {gV : List V → List V → List V}
def tCallK0 (sp : Sp) (gV : List V → List V → List V) (E : XK) (tk : TA) : TE := fun σ H Q => tk σ H fun zs H2 => sp (gV [] zs) H2 Q E
/-- f(k = e, ..), nothing by position -/
theorem pe_callK0 (F : FnOk X.prog X.w X.K X.mg X.base CX k f fd ps sp) (hr : Room k X.A) (hg : Gl X x) (hm : X.mg x = some (.ref f)) (hk : PySem.W.keepIn X.K (.ref f) = true) (hb : KBinds X.K fd ps ks g gV) (hx : Passes CX X E)
    (hkw : PK X kws tk) (hall : (backToKw pos (keywordEach kws X.env)).all (·.1.isSome) = true := by rfl) (hks : (backToKw pos (keywordEach kws X.env)).filterMap (·.1) = ks := by rfl)
    (hdb : (x == ("__debug__" : Str)) = false := by decide) (hpl : ((backTo pos (starEach [] X.env)).any (·.1) || (backToKw pos (keywordEach kws X.env)).any (·.1.isNone)) = false := by rfl) :
    PE X (.Call (.Name x p) [] kws pos) (tCallK0 sp gV E tk) := by
  refine ⟨fun pins s σ H Q I h => ?_⟩
  refine wpAny_Call_Name_kw (ld_glob I hg hm ?_ hdb)
  refine PySem.W.callWith_KW0 (h₀ := X.base) I.ok.mod.kin hk hall (thn (hkw.run pos pins s σ H _ I h) fun ws s2 ⟨zs, H2, I2, rz, q2⟩ => ⟨I2.kIn, ?_⟩) hpl
  rw [hks]
  exact run_fnk (us := []) (vs := []) F hr hb hx I2 .nil rz q2
end
/-! ### data of nets: shape, depth -/
theorem canAll : ∀ {ds : List PyData}, (∀ d ∈ ds, d.canLay0 = true) → PyData.canLayAll0 ds = true
  | [], _ => by simp [PyData.canLayAll0]
  | d :: ds, h => by
    rw [PyData.canLayAll0, h d List.mem_cons_self, canAll fun e he => h e (List.mem_cons_of_mem _ he)]
    rfl
theorem depAll {n : Nat} : ∀ {ds : List PyData}, (∀ d ∈ ds, d.depth ≤ n) → PyData.depthAll ds ≤ n
  | [], _ => by simp [PyData.depthAll]
  | d :: ds, h => by
    rw [PyData.depthAll]
    exact Nat.max_le.mpr ⟨h d List.mem_cons_self, depAll fun e he => h e (List.mem_cons_of_mem _ he)⟩
theorem poolW_ok : ∀ x ∈ poolW, PyData.strOk x = true := by decide +kernel
theorem poolQ_ok : ∀ x ∈ poolQ, PyData.strOk x = true := by decide +kernel
theorem GoodNet.nm_ok {s m : Nat} {h : Int} {ws : List Str} {qs : List QD} (g : GoodNet s m h ws qs) : ∀ q ∈ qs, PyData.strOk q.nm = true := fun q hq => by
  obtain ⟨l, _, _, hl, k, e⟩ := g.qn
  have : q.nm ∈ l.take k := by
    rw [← e]
    exact List.mem_map.mpr ⟨q, hq, rfl⟩
  exact poolQ_ok _ (hl _ (List.mem_of_mem_take this))
theorem can_seq {f : Bool} {ds : List PyData} (h : ∀ d ∈ ds, d.canLay0 = true) : (seqD f ds).canLay0 = true := by
  cases f with
  | true =>
    show (PyData.tuple ds).canLay0 = true
    rw [PyData.canLay0]
    exact canAll h
  | false =>
    show (PyData.list ds).canLay0 = true
    rw [PyData.canLay0]
    exact canAll h
theorem dep_seq {f : Bool} {n : Nat} {ds : List PyData} (h : ∀ d ∈ ds, d.depth ≤ n) : (seqD f ds).depth ≤ n + 1 := by
  cases f with
  | true =>
    show (PyData.tuple ds).depth ≤ n + 1
    rw [PyData.depth]
    have := depAll h
    omega
  | false =>
    show (PyData.list ds).depth ≤ n + 1
    rw [PyData.depth]
    have := depAll h
    omega
theorem mem2 {α : Type} {a b x : α} (h : x ∈ [a, b]) : x = a ∨ x = b := by simpa using h
theorem mem5 {α : Type} {a b c d e x : α} (h : x ∈ [a, b, c, d, e]) : x = a ∨ x = b ∨ x = c ∨ x = d ∨ x = e := by simpa using h
theorem net_shaped {f : Bool} {s m : Nat} {h : Int} {ws : List Str} {qs : List QD} (g : GoodNet s m h ws qs) : SeqAt.shaped (netD f ws qs) = true := by
  have c1 : ∀ x ∈ ws, (PyData.str x).canLay0 = true := fun x hx => by
    rw [PyData.canLay0]
    exact poolW_ok x (g.wp x hx)
  have h1 : (netD f ws qs).canLay0 = true := can_seq fun d hd => by
    rcases mem2 hd with rfl | rfl
    · refine can_seq fun d hd => ?_
      obtain ⟨x, hx, rfl⟩ := List.mem_map.mp hd
      exact c1 x hx
    · refine can_seq fun d hd => ?_
      obtain ⟨q, hq, rfl⟩ := List.mem_map.mp hd
      refine can_seq fun d hd => ?_
      have hw := g.qq q hq
      rcases mem5 hd with rfl | rfl | rfl | rfl | rfl
      · rw [PyData.canLay0]
        exact g.nm_ok q hq
      · exact c1 _ hw.1
      · exact c1 _ hw.2.1
      · simp [PyData.canLay0]
      · simp [PyData.canLay0]
  have h2 : (netD f ws qs).depth ≤ 3 := dep_seq (n := 2) fun d hd => by
    rcases mem2 hd with rfl | rfl
    · refine dep_seq (n := 1) fun d hd => ?_
      obtain ⟨x, hx, rfl⟩ := List.mem_map.mp hd
      simp [PyData.depth]
    · refine dep_seq (n := 1) fun d hd => ?_
      obtain ⟨q, hq, rfl⟩ := List.mem_map.mp hd
      refine dep_seq (n := 0) fun d hd => ?_
      rcases mem5 hd with rfl | rfl | rfl | rfl | rfl <;> simp [PyData.depth]
  unfold SeqAt.shaped
  rw [h1, decide_eq_true (show (netD f ws qs).depth ≤ 64 by omega)]
  rfl
theorem okD_str {n : Nat} {x : Str} : okD (n + 1) (.str x) := trivial
theorem okD_int {n : Nat} {i : Int} : okD (n + 1) (.int i) := trivial
theorem net_okD {f : Bool} {ws : List Str} {qs : List QD} (h1 : ws.length ≤ 60) (h2 : qs.length ≤ 60) : okD 4 (netD f ws qs) :=
  okD_seq.mpr ⟨by show 2 ≤ 1000; decide, fun d hd => by
    rcases mem2 hd with rfl | rfl
    · refine okD_seq.mpr ⟨by rw [List.length_map]; omega, fun d hd => ?_⟩
      obtain ⟨x, hx, rfl⟩ := List.mem_map.mp hd
      exact okD_str
    · refine okD_seq.mpr ⟨by rw [List.length_map]; omega, fun d hd => ?_⟩
      obtain ⟨q, hq, rfl⟩ := List.mem_map.mp hd
      refine okD_seq.mpr ⟨by show 5 ≤ 1000; decide, fun d hd => ?_⟩
      rcases mem5 hd with rfl | rfl | rfl | rfl | rfl
      · exact okD_str
      · exact okD_str
      · exact okD_str
      · exact okD_int
      · exact okD_int⟩
theorem net_lists {f : Bool} {ws : List Str} {qs : List QD} : listsD (netD f ws qs) = netD false ws qs := by
  unfold netD
  rw [listsD_seq]
  show PyData.list [listsD _, listsD _] = PyData.list [_, _]
  rw [listsD_seq, listsD_seq, List.map_map, List.map_map]
  have e1 : ws.map (listsD ∘ PyData.str) = ws.map PyData.str := List.map_congr_left fun _ _ => rfl
  have e2 : qs.map (listsD ∘ QD.d f) = qs.map (QD.d false) := List.map_congr_left fun q _ => by
    show listsD (seqD f _) = _
    rw [listsD_seq]
    rfl
  rw [e1, e2]
  rfl
/-- a new tuple of data -/
theorem dp_tup {K : PySem.W.Frag} {S : List Addr} {H : Hp} {p : Addr} {xs : List V} {ds : List PyData} (t : Trk S H) (hp : H p = none) (h : DpAll K (cutS S H) xs ds) : Dp K (cutS S (upd H p (.tup xs))) (.ref p) (.tuple ds) :=
  .tup (sqt_of (cutS_new t hp)) ((cutS_mono (.upd hp)).dpa h)
theorem dp_lst {K : PySem.W.Frag} {S : List Addr} {H : Hp} {p : Addr} {xs : List V} {ds : List PyData} (t : Trk S H) (hp : H p = none) (h : DpAll K (cutS S H) xs ds) : Dp K (cutS S (upd H p (.lst xs))) (.ref p) (.list ds) :=
  .lst (sql_of (cutS_new t hp)) ((cutS_mono (.upd hp)).dpa h)
theorem TupW.mono {H H' : Hp} {v : V} {xs : List V} (h : TupW H v xs) (e : Same H H') : TupW H' v xs := by
  obtain ⟨a0, a1, a2, ob, rfl, h0, h1, h2, h3⟩ := h
  exact ⟨a0, a1, a2, ob, rfl, e _ _ h0, e _ _ h1, h2, h3⟩
theorem mem3 {α : Type} {a b c x : α} (h : x ∈ [a, b, c]) : x = a ∨ x = b ∨ x = c := by simpa using h
theorem dpn_tup {K : PySem.W.Frag} {H : Hp} {p : Addr} {xs : List V} {ds : List PyData} (hp : H p = none) (h : DpAll K H xs ds) : Dp K (upd H p (.tup xs)) (.ref p) (.tuple ds) := .tup (sqt_of upd_same) ((Same.upd hp).dpa h)
theorem dpn_lst {K : PySem.W.Frag} {H : Hp} {p : Addr} {xs : List V} {ds : List PyData} (hp : H p = none) (h : DpAll K H xs ds) : Dp K (upd H p (.lst xs)) (.ref p) (.list ds) := .lst (sql_of upd_same) ((Same.upd hp).dpa h)
theorem dpn_row {K : PySem.W.Frag} {H : Hp} {p : Addr} {a b c : Str} {r g : Int} (hp : H p = none) : Dp K (upd H p (.tup [.str a, .str b, .str c, .int r, .int g])) (.ref p) (QD.d true ⟨a, b, c, r, g⟩) :=
  dpn_tup hp (.cons (.str _) (.cons (.str _) (.cons (.str _) (.cons (.int _) (.cons (.int _) .nil)))))
section
variable {K : PySem.W.Frag}
/-- a net as it is read: a list or a tuple, its rows -/
structure NetAt (K : PySem.W.Frag) (H : Hp) (fb : Bool) (a0 a1 a2 : Addr) (ws : List Str) (qs : List QD) (xq : List V) : Prop where
  h0 : SqF fb K H a0 [.ref a1, .ref a2]
  h1 : SqF fb K H a1 (ws.map V.str)
  h2 : SqF fb K H a2 xq
  hq : ∀ (i : Nat) (v : V), xq[i]? = some v → ∃ (q : QD) (a : Addr), qs[i]? = some q ∧ v = .ref a ∧ SqF fb K H a [.str q.nm, .str q.st, .str q.en, .int q.room, .int q.gap]
  ll : xq.length = qs.length
theorem NetAt.same {H H' : Hp} {fb : Bool} {a0 a1 a2 : Addr} {ws : List Str} {qs : List QD} {xq : List V} (n : NetAt K H fb a0 a1 a2 ws qs xq) (e : Same H H') : NetAt K H' fb a0 a1 a2 ws qs xq :=
  ⟨e.sqF n.h0, e.sqF n.h1, e.sqF n.h2, fun i v h => by
    obtain ⟨q, a, g1, g2, g3⟩ := n.hq i v h
    exact ⟨q, a, g1, g2, e.sqF g3⟩, n.ll⟩
theorem netAt {H : Hp} {fb : Bool} {v : V} {ws : List Str} {qs : List QD} (h : Dp K H v (netD fb ws qs)) : ∃ a0 a1 a2 xq, v = .ref a0 ∧ NetAt K H fb a0 a1 a2 ws qs xq := by
  obtain ⟨a0, x0, rfl, h0, hx⟩ := Dp.seq_of h
  cases hx with
  | cons d1 hx =>
    cases hx with
    | cons d2 hx =>
      cases hx
      obtain ⟨a1, x1, rfl, h1, hx1⟩ := Dp.seq_of d1
      obtain ⟨a2, x2, rfl, h2, hx2⟩ := Dp.seq_of d2
      rw [dpa_strs_of hx1] at h1
      refine ⟨a0, a1, a2, x2, rfl, h0, h1, h2, fun i v hv => ?_, by rw [dpa_len hx2, List.length_map]⟩
      obtain ⟨d, hd, hvd⟩ := dpa_get hx2 hv
      rw [List.getElem?_map] at hd
      cases e : qs[i]? with
      | none =>
        rw [e] at hd
        cases hd
      | some q =>
        rw [e] at hd
        cases hd
        obtain ⟨a, x, rfl, g1, g2⟩ := Dp.seq_of hvd
        cases g2 with
        | cons c1 g2 =>
          cases g2 with
          | cons c2 g2 =>
            cases g2 with
            | cons c3 g2 =>
              cases g2 with
              | cons c4 g2 =>
                cases g2 with
                | cons c5 g2 =>
                  cases g2
                  cases c1
                  cases c2
                  cases c3
                  cases c4
                  cases c5
                  exact ⟨q, a, rfl, rfl, g1⟩
end
end Jl

set_option Elab.async false
set_option linter.all false
set_option maxRecDepth 100000
set_option maxHeartbeats 4000000
set_option pp.maxSteps 900
namespace Jl
open PySem PySem.Spec PyProof.Rows L2
open Evl (sz_of sz_lt)
local macro_rules | `(tactic| walk_at "at") => `(tactic| first | exact box0 | exact box1 | exact box2)
local macro_rules | `(tactic| walk_at "sq") => `(tactic| first | (show SqL _ _ _ _; assumption) | (show SqT _ _ _ _; assumption) | (show _ = some _; assumption))
local macro_rules | `(tactic| walk_at "side") => `(tactic| first
  | (show (0 : Int) < _; decide)
  | (show (0 : Int) < _; omega)
  | exact ⟨by decide, by decide, by decide⟩
  | exact sz_of (Nat.le_of_ble_eq_true rfl)
  | exact rfl
  | exact Or.inl (by decide)
  | exact Or.inr (by decide)
  | exact Or.inr ⟨by omega, by omega⟩
  | exact Or.inl ⟨by omega, by omega⟩
  | exact ⟨by decide, by decide +kernel⟩)
local macro_rules | `(tactic| walk_at "ev1") => `(tactic| first
  | refine ⟨_, rfl, ?_⟩
  | refine ⟨_, _, rfl, rfl, ?_⟩
  | refine ⟨_, _, _, _, rfl, rfl, (by walk_at "sq"), (by walk_at "at"), ?_⟩
  | refine ⟨_, _, rfl, (by walk_at "sq"), ?_⟩
  | refine ⟨_, _, rfl, Or.inl (by walk_at "sq"), ?_⟩
  | refine ⟨_, _, rfl, Or.inr (by walk_at "sq"), ?_⟩
  | refine Or.inl ⟨_, rfl, ?_⟩
  | refine Or.inr ⟨_, rfl, ?_⟩
  | refine ⟨(by walk_at "side"), ?_⟩
  | refine ⟨.inl ⟨rfl, _, (by walk_at "sq")⟩, ?_⟩
  | refine ⟨_, _, rfl, ?_⟩)
local macro_rules | `(tactic| walk_at "nrm") => `(tactic| dsimp only [tNil, tCons, tC, tCB])
local macro_rules | `(tactic| walk_at "ev") => `(tactic| repeat (walk_at "ev1"))

/-! ### kinds of data -/
def isI : PyData → Bool
  | .int _ => true
  | .bool _ => true
  | _ => false
def isB : PyData → Bool
  | .bool _ => true
  | _ => false
def isT : PyData → Bool
  | .tuple _ => true
  | _ => false
def isS : PyData → Bool
  | .str _ => true
  | _ => false
theorem kI {K : PySem.W.Frag} (d : PyData) : PySem.W.kitOne K (.type (tyD d)) (.type "int") = some (isI d) := by
  cases d with
  | none => exact kit_ty (a := "NoneType") (b := "int") (r := false) (by decide +kernel)
  | bool _ => exact kit_ty (a := "bool") (b := "int") (r := true) (by decide +kernel)
  | int _ => exact kit_ty (a := "int") (b := "int") (r := true) (by decide +kernel)
  | str _ => exact kit_ty (a := "str") (b := "int") (r := false) (by decide +kernel)
  | list _ => exact kit_ty (a := "list") (b := "int") (r := false) (by decide +kernel)
  | tuple _ => exact kit_ty (a := "tuple") (b := "int") (r := false) (by decide +kernel)
  | dict _ => exact kit_ty (a := "dict") (b := "int") (r := false) (by decide +kernel)
theorem kB {K : PySem.W.Frag} (d : PyData) : PySem.W.kitOne K (.type (tyD d)) (.type "bool") = some (isB d) := by
  cases d with
  | none => exact kit_ty (a := "NoneType") (b := "bool") (r := false) (by decide +kernel)
  | bool _ => exact kit_ty (a := "bool") (b := "bool") (r := true) (by decide +kernel)
  | int _ => exact kit_ty (a := "int") (b := "bool") (r := false) (by decide +kernel)
  | str _ => exact kit_ty (a := "str") (b := "bool") (r := false) (by decide +kernel)
  | list _ => exact kit_ty (a := "list") (b := "bool") (r := false) (by decide +kernel)
  | tuple _ => exact kit_ty (a := "tuple") (b := "bool") (r := false) (by decide +kernel)
  | dict _ => exact kit_ty (a := "dict") (b := "bool") (r := false) (by decide +kernel)
theorem kT {K : PySem.W.Frag} (d : PyData) : PySem.W.kitOne K (.type (tyD d)) (.type "tuple") = some (isT d) := by
  cases d with
  | none => exact kit_ty (a := "NoneType") (b := "tuple") (r := false) (by decide +kernel)
  | bool _ => exact kit_ty (a := "bool") (b := "tuple") (r := false) (by decide +kernel)
  | int _ => exact kit_ty (a := "int") (b := "tuple") (r := false) (by decide +kernel)
  | str _ => exact kit_ty (a := "str") (b := "tuple") (r := false) (by decide +kernel)
  | list _ => exact kit_ty (a := "list") (b := "tuple") (r := false) (by decide +kernel)
  | tuple _ => exact kit_ty (a := "tuple") (b := "tuple") (r := true) (by decide +kernel)
  | dict _ => exact kit_ty (a := "dict") (b := "tuple") (r := false) (by decide +kernel)
theorem kS {K : PySem.W.Frag} (d : PyData) : PySem.W.kitOne K (.type (tyD d)) (.type "str") = some (isS d) := by
  cases d with
  | none => exact kit_ty (a := "NoneType") (b := "str") (r := false) (by decide +kernel)
  | bool _ => exact kit_ty (a := "bool") (b := "str") (r := false) (by decide +kernel)
  | int _ => exact kit_ty (a := "int") (b := "str") (r := false) (by decide +kernel)
  | str _ => exact kit_ty (a := "str") (b := "str") (r := true) (by decide +kernel)
  | list _ => exact kit_ty (a := "list") (b := "str") (r := false) (by decide +kernel)
  | tuple _ => exact kit_ty (a := "tuple") (b := "str") (r := false) (by decide +kernel)
  | dict _ => exact kit_ty (a := "dict") (b := "str") (r := false) (by decide +kernel)
/-- a number, l or more -/
def numD (l : Int) : PyData → Bool
  | .int i => decide (l ≤ i)
  | _ => false
def spNum (K : PySem.W.Frag) : Sp := fun vs H Q _ => ∃ (v : V) (l : Int) (d : PyData), vs = [v, .int l] ∧ Dp K H v d ∧ Q (.bl (numD l d)) H

abbrev sc_is_number_N : List Str := ["thing", "least"]
abbrev s_is_number : Stmt := topS 3
theorem sc_is_number : FnScope ["thing", "least"] ["thing", "least"] (defScope s_is_number) := ⟨rfl, rfl, rfl, by decide +kernel, rfl, by decide +kernel, by decide +kernel⟩
section
variable {P : Program} {w : World} {K : PySem.W.Frag} {mg : Str → Option Value} {base : Heap}
abbrev FunNum (K : PySem.W.Frag) (f : Addr) (fd : FuncData) : Prop := FunD K "is_number" "is_number" (defArgs s_is_number) (defBody s_is_number) (defScope s_is_number) [.non] [] f fd
theorem ok_is_number {f : Addr} {fd : FuncData} {k : Nat} (F : FunNum K f fd) (m_isinstance : mg "isinstance" = none) (m_int : mg "int" = none) (m_bool : mg "bool" = none) : FnOk P w K mg base CX0 (k + 1) f fd ["thing", "least"] (spNum K) := by
  refine F.ok sc_is_number (fun vs H Q E h => ?_) (fun cdv A outer s0 H vs Q E hr h => ?_)
  · obtain ⟨v, l, d, rfl, _⟩ := h
    rfl
  · obtain ⟨v, l, d, rfl, hD, q⟩ := h
    refine ⟨_, (pss_cons (ps_if (PW.pt (pw_or (pt_not (pt_val (pe_callB call_isi (by rfl) m_isinstance (by decide +kernel) (pa_cons (pv 0) (pa_cons (pe_bltn (v := .ty "int") (u := .type "int") (by rfl) m_int (by decide +kernel) rfl) pa_nil))))) (pw_or1 (pt_val (pe_callB call_isi (by rfl) m_isinstance (by decide +kernel) (pa_cons (pv 0) (pa_cons (pe_bltn (v := .ty "bool") (u := .type "bool") (by rfl) m_bool (by decide +kernel) rfl) pa_nil))))))) (pss_one (ps_ret pe_bl)) pss_nil) 
    (pss_one (ps_ret (pe_or (pe_cmpR op_isN (pv 1) pe_non (nomark _)) (pe_one (pe_cmpR op_ge (pv 0) (pv 1) (nomark _))))))), ?_⟩
    walk_at "ev"
    walk_at "nrm"
    refine isi1 hD (fun t e => by rw [e]; exact kI d) ?_
    cases d with
    | int i =>
      walk_at "ev"
      walk_at "nrm"
      refine isi1 hD (fun t e => by rw [e]; exact kB (.int i)) ?_
      cases hD
      walk_at "ev"
      exact q
    | bool b =>
      walk_at "ev"
      walk_at "nrm"
      refine isi1 hD (fun t e => by rw [e]; exact kB (.bool b)) ?_
      walk_at "ev"
      exact q
    | _ =>
      walk_at "ev"
      exact q
end
end Jl

set_option Elab.async false
set_option linter.all false
set_option maxRecDepth 100000
set_option maxHeartbeats 4000000
set_option pp.maxSteps 900
namespace Jl
open PySem PySem.Spec PyProof.Rows L2
open Evl (sz_of sz_lt)
local macro_rules | `(tactic| walk_at "at") => `(tactic| first | exact box0 | exact box1 | exact box2)
local macro_rules | `(tactic| walk_at "sq") => `(tactic| first | (show SqL _ _ _ _; assumption) | (show SqT _ _ _ _; assumption) | (show _ = some _; assumption))
local macro_rules | `(tactic| walk_at "side") => `(tactic| first
  | (show (0 : Int) < _; decide)
  | (show (0 : Int) < _; omega)
  | exact ⟨by decide, by decide, by decide⟩
  | exact sz_of (Nat.le_of_ble_eq_true rfl)
  | exact rfl
  | exact Or.inl (by decide)
  | exact Or.inr (by decide)
  | exact Or.inr ⟨by omega, by omega⟩
  | exact Or.inl ⟨by omega, by omega⟩
  | exact ⟨by decide, by decide +kernel⟩)
local macro_rules | `(tactic| walk_at "ev1") => `(tactic| first
  | refine ⟨_, rfl, ?_⟩
  | refine ⟨_, _, rfl, rfl, ?_⟩
  | refine ⟨_, _, _, _, rfl, rfl, (by walk_at "sq"), (by walk_at "at"), ?_⟩
  | refine ⟨_, _, rfl, (by walk_at "sq"), ?_⟩
  | refine ⟨_, _, rfl, Or.inl (by walk_at "sq"), ?_⟩
  | refine ⟨_, _, rfl, Or.inr (by walk_at "sq"), ?_⟩
  | refine Or.inl ⟨_, rfl, ?_⟩
  | refine Or.inr ⟨_, rfl, ?_⟩
  | refine ⟨(by walk_at "side"), ?_⟩
  | refine ⟨.inl ⟨rfl, _, (by walk_at "sq")⟩, ?_⟩
  | refine ⟨_, _, rfl, ?_⟩)
local macro_rules | `(tactic| walk_at "nrm") => `(tactic| dsimp only [tNil, tCons, tC, tCB])
local macro_rules | `(tactic| walk_at "ev") => `(tactic| repeat (walk_at "ev1"))

abbrev sc_is_row_N : List Str := ["thing", "many"]
abbrev s_is_row : Stmt := topS 5
theorem sc_is_row : FnScope ["thing", "many"] ["thing", "many"] (defScope s_is_row) := ⟨rfl, rfl, rfl, by decide +kernel, rfl, by decide +kernel, by decide +kernel⟩
abbrev sc_ascends_N : List Str := ["row", "place"]
abbrev s_ascends : Stmt := topS 6
theorem sc_ascends : FnScope ["row", "place"] ["row"] (defScope s_ascends) := ⟨rfl, rfl, rfl, by decide +kernel, rfl, by decide +kernel, by decide +kernel⟩
theorem decV {a b : Int} : decide (V.int a = V.int b) = decide (a = b) := decide_eq_decide.mpr ⟨V.int.inj, congrArg _⟩
/-- a tuple of m things -/
def rowB (m : Int) : PyData → Bool
  | .tuple ds => decide ((ds.length : Int) = m)
  | _ => false
def ascD (ds : List PyData) : Bool := (List.range (ds.length - 1)).all fun i => PySem.W.dataLt (ds.getD i .none) (ds.getD (i + 1) .none)
section
variable {X : Cx}
/-- x < y of data alike -/
def rLtD (K : PySem.W.Frag) : R2 := fun x y H Q => ∃ d e, Dp K H x d ∧ Dp K H y e ∧ PySem.W.alike d e = true ∧ d ≠ .none ∧ d.depth ≤ 60 ∧ Q (.bl (PySem.W.dataLt d e)) H
theorem op_ltD (hu : X.A.units + 64 < cLine) : OpR X (compareOp .Lt) (rLtD X.K) := by
  intro pins s σ H x y v u Q I rx ry h
  obtain ⟨d, e, hd, he, ha, hn, hp, q⟩ := h
  obtain ⟨as, r1⟩ := Dp.reads I d x v hd rx
  obtain ⟨bs, r2⟩ := Dp.reads I e y u he ry
  exact PySem.W.lt_data r1 r2 ha hn (by have := Nat.min_le_left d.depth e.depth; omega) ⟨.bl _, H, I, rfl, q⟩
end
section
variable {P : Program} {w : World} {K : PySem.W.Frag} {mg : Str → Option Value} {base : Heap}
def spRow (K : PySem.W.Frag) : Sp := fun vs H Q _ => ∃ (v : V) (m : Int) (d : PyData), vs = [v, .int m] ∧ Dp K H v d ∧ Q (.bl (rowB m d)) H
theorem ok_is_row {f : Addr} {fd : FuncData} {k : Nat} (F : Fun K "is_row" "is_row" s_is_row f fd) (m_isinstance : mg "isinstance" = none) (m_tuple : mg "tuple" = none) (m_len : mg "len" = none) : FnOk P w K mg base CX0 (k + 1) f fd ["thing", "many"] (spRow K) := by
  refine F.ok sc_is_row (fun vs H Q E h => ?_) (fun cdv A outer s0 H vs Q E hr h => ?_)
  · obtain ⟨v, m, d, rfl, _⟩ := h
    rfl
  · obtain ⟨v, m, d, rfl, hD, q⟩ := h
    refine ⟨_, (pss_one (ps_ret (pe_and (pe_callB call_isi (by rfl) m_isinstance (by decide +kernel) (pa_cons (pv 0) (pa_cons (pe_bltn (v := .ty "tuple") (u := .type "tuple") (by rfl) m_tuple (by decide +kernel) rfl) pa_nil))) (pe_one (pe_cmpR op_eq (pe_callB call_len_seq (by rfl) m_len PySem.boot_len (pa_cons (pv 0) pa_nil)) (pv 1) (nomark _)))))), ?_⟩
    walk_at "ev"
    walk_at "nrm"
    refine isi1 hD (fun t e => by rw [e]; exact kT d) ?_
    cases d with
    | tuple ds =>
      obtain ⟨a, xs, rfl, hs, ha⟩ := Dp.seq_of (f := true) hD
      have hs : SqT K H a xs := hs
      walk_at "ev"
      rw [decV, dpa_len ha]
      exact q
    | _ =>
      walk_at "ev"
      exact q
def spAsc (K : PySem.W.Frag) : Sp := fun vs H Q _ => ∃ (v : V) (fb : Bool) (ds : List PyData), vs = [v] ∧ Dp K H v (seqD fb ds) ∧ ds.length ≤ 1000 ∧
  (∀ i d e, ds[i]? = some d → ds[i + 1]? = some e → PySem.W.alike d e = true ∧ d ≠ .none ∧ d.depth ≤ 60) ∧ ∀ H', Same H H' → Q (.bl (ascD ds)) H'
theorem ok_ascends {f : Addr} {fd : FuncData} {k : Nat} (F : Fun K "ascends" "ascends" s_ascends f fd) (m_all : mg "all" = none) (m_range : mg "range" = none) (m_len : mg "len" = none) : FnOk P w K mg base CX0 (k + 1) f fd ["row"] (spAsc K) := by
  refine F.ok sc_ascends (fun vs H Q E h => ?_) (fun cdv A outer s0 H vs Q E hr h => ?_)
  · obtain ⟨v, fb, ds, rfl, _⟩ := h
    rfl
  · obtain ⟨v, fb, ds, rfl, hD, hl, hc, q⟩ := h
    refine ⟨_, (pss_one (ps_ret (pe_callB (cr_all rfl) (by rfl) m_all (by decide +kernel) (pa_cons (pe_lcX (pe_lc (own := [("place", 1)]) (g := gName 1) (tt := tYes) (te := tOp (rLtD K) (tOp (rIxF K) (tVar 0) (tVar 1)) (tOp (rIxF K) (tVar 0) (tOp (rI0 fun i j => .int (i + j)) (tVar 1) (tC (.int 1))))) (by rfl) sc_ascends.nd (pi_range1 (by rfl) m_range (pa_cons (pe_op op_sub (pe_callB call_len_seq (by rfl) m_len PySem.boot_len (pa_cons (pv 0) pa_nil)) pe_int) pa_nil)) (blkOk_by (own := [("place", 1)]) (N := sc_ascends_N) (sc := defScope s_ascends) (by decide +kernel)) (fun _ _ _ _ _ => pg_name (i := 1) sc_ascends.nd rfl (Or.inl rfl)) (fun _ _ _ _ _ => pts_nil) (fun _ _ _ _ _ => (pe_cmpR (op_ltD hr.units) (pe_ix ix_lt (pv 0) (pv 1) (fun _ _ => rfl)) (pe_ix ix_lt (pv 0) (pe_op op_add (pv 1) pe_int) (fun _ _ => rfl)) (nomark _))))) pa_nil)))), ?_⟩
    obtain ⟨a, xs, rfl, hs, ha⟩ := Dp.seq_of hD
    have lx := dpa_len ha
    refine lc_of ?_
    walk_at "ev"
    refine ⟨a, xs, rfl, hs.or, ?_⟩
    walk_at "ev"
    refine ⟨by omega, by omega, ?_⟩
    intro D hD0
    have hn : ((xs.length : Int) - 1).toNat = ds.length - 1 := by omega
    rw [hn]
    refine lc_it (walk_range (lo := 0) (n := ds.length - 1)) (fun i H' => Same H H' ∧ H' D = some (.lst (((List.range i).map fun i => PySem.W.dataLt (ds.getD i .none) (ds.getD (i + 1) .none)).map V.bl))) ⟨.upd hD0, upd_same⟩ (fun _ _ _ _ => trivial) (fun i x H' H'' hi hh y => ?_) (fun H' hh => ?_)
    · obtain ⟨g1, g2⟩ := hh
      obtain ⟨rfl, hv⟩ := y
      have hv : x = .int (0 + (i : Int)) := hv
      rw [Int.zero_add] at hv
      subst hv
      refine ⟨rfl, ?_⟩
      dsimp only [tYes]
      rw [if_pos rfl]
      have i1 : i < xs.length := by omega
      have i2 : i + 1 < xs.length := by omega
      obtain ⟨d, hd, hd2⟩ := dpa_get ha (List.getElem?_eq_getElem i1)
      obtain ⟨e, he, he2⟩ := dpa_get ha (List.getElem?_eq_getElem i2)
      have hs2 := g1.sqF hs
      refine ⟨_, rfl, ?_⟩
      refine ⟨_, rfl, ?_⟩
      refine rIxF_at hs2 (atI_nat (List.getElem?_eq_getElem i1)) ?_
      refine ⟨_, rfl, ?_⟩
      walk_at "ev"
      dsimp only
      refine rIxF_at hs2 (v := xs[i + 1]) (by rw [show ((i : Int) + 1) = ((i + 1 : Nat) : Int) from by omega]; exact atI_nat (List.getElem?_eq_getElem i2)) ?_
      obtain ⟨c1, c2, c3⟩ := hc i d e hd he
      refine ⟨d, e, g1.dp hd2, g1.dp he2, c1, c2, c3, ?_⟩
      refine ⟨_, g2, by rw [List.length_map, List.length_map, List.length_range]; exact sz_lt (by omega), g1.mut hD0, ?_⟩
      rw [upd_same, List.range_succ, List.map_append, List.map_append]
      have e1 : ds.getD i .none = d := by rw [List.getD_eq_getElem?_getD, hd]; rfl
      have e2 : ds.getD (i + 1) .none = e := by rw [List.getD_eq_getElem?_getD, he]; rfl
      show _ = some (HO.lst (_ ++ [V.bl (PySem.W.dataLt (ds.getD i .none) (ds.getD (i + 1) .none))]))
      rw [e1, e2]
    · obtain ⟨g1, g2⟩ := hh
      refine ⟨D, _, rfl, sql_of g2, ?_⟩
      have e : ((List.range (ds.length - 1)).map fun i => PySem.W.dataLt (ds.getD i .none) (ds.getD (i + 1) .none)).all id = ascD ds := by
        unfold ascD
        rw [List.all_map]
        rfl
      rw [e]
      exact q _ g1
end
end Jl

set_option Elab.async false
set_option linter.all false
set_option maxRecDepth 100000
set_option maxHeartbeats 1000000
set_option pp.maxSteps 900
namespace Jl
open PySem PySem.Spec PyProof.Rows L2
open Evl (sz_of sz_lt)
local macro_rules | `(tactic| walk_at "at") => `(tactic| first | exact box0 | exact box1 | exact box2)
local macro_rules | `(tactic| walk_at "sq") => `(tactic| first | (show SqL _ _ _ _; assumption) | (show SqT _ _ _ _; assumption) | (show _ = some _; assumption))
local macro_rules | `(tactic| walk_at "side") => `(tactic| first
  | (show (0 : Int) < _; decide)
  | (show (0 : Int) < _; omega)
  | exact ⟨by decide, by decide, by decide⟩
  | exact sz_of (Nat.le_of_ble_eq_true rfl)
  | exact rfl
  | exact Or.inl (by decide)
  | exact Or.inr (by decide)
  | exact Or.inr ⟨by omega, by omega⟩
  | exact Or.inl ⟨by omega, by omega⟩
  | exact ⟨by decide, by decide +kernel⟩)
local macro_rules | `(tactic| walk_at "ev1") => `(tactic| first
  | refine ⟨_, rfl, ?_⟩
  | refine ⟨_, _, rfl, rfl, ?_⟩
  | refine ⟨_, _, _, _, rfl, rfl, (by walk_at "sq"), (by walk_at "at"), ?_⟩
  | refine ⟨_, _, rfl, (by walk_at "sq"), ?_⟩
  | refine ⟨_, _, rfl, Or.inl (by walk_at "sq"), ?_⟩
  | refine ⟨_, _, rfl, Or.inr (by walk_at "sq"), ?_⟩
  | refine Or.inl ⟨_, rfl, ?_⟩
  | refine Or.inr ⟨_, rfl, ?_⟩
  | refine ⟨(by walk_at "side"), ?_⟩
  | refine ⟨.inl ⟨rfl, _, (by walk_at "sq")⟩, ?_⟩
  | refine ⟨_, _, rfl, ?_⟩)
local macro_rules | `(tactic| walk_at "nrm") => `(tactic| dsimp only [tNil, tCons, tC, tCB])
local macro_rules | `(tactic| walk_at "ev") => `(tactic| repeat (walk_at "ev1"))

abbrev sc_is_name_N : List Str := ["thing", "sign"]
abbrev s_is_name : Stmt := topS 4
theorem sc_is_name : FnScope ["thing", "sign"] ["thing"] (defScope s_is_name) := ⟨rfl, rfl, rfl, by decide +kernel, rfl, by decide +kernel, by decide +kernel⟩
def lettersS : Str := Str.ofString "abcdefghijklmnopqrstuvwxyz"
def signsS : Str := Str.ofString "abcdefghijklmnopqrstuvwxyz0123456789."
/-- a name: a letter first, then signs -/
def nameB (x : Str) : Bool := match x.cps.toList with
  | [] => false
  | c :: r => decide (c ∈ lettersS.cps.toList) && (c :: r).all fun c => decide (c ∈ signsS.cps.toList)
def nameD : PyData → Bool
  | .str x => nameB x
  | _ => false
theorem str_nil {x : Str} (h : x.cps.toList = []) : x = Str.ofString "" := by
  cases x with
  | mk a =>
    have : a = #[] := Array.toList_inj.mp h
    rw [this]
    rfl
section
variable {P : Program} {w : World} {K : PySem.W.Frag} {mg : Str → Option Value} {base : Heap}
def spName (K : PySem.W.Frag) : Sp := fun vs H Q _ => ∃ (v : V) (d : PyData), vs = [v] ∧ Dp K H v d ∧ (∀ x, d = .str x → x.cps.size ≤ 1000) ∧ ∀ H', Same H H' → Q (.bl (nameD d)) H'
theorem ok_is_name {f : Addr} {fd : FuncData} {k : Nat} {tL tS : Tok} (F : Fun K "is_name" "is_name" s_is_name f fd) (g_LETTERS : mg "LETTERS" = some (.str lettersS tL)) (g_SIGNS : mg "SIGNS" = some (.str signsS tS)) (m_isinstance : mg "isinstance" = none) (m_str : mg "str" = none) (m_all : mg "all" = none) : FnOk P w K mg base CX0 (k + 1) f fd ["thing"] (spName K) := by
  refine F.ok sc_is_name (fun vs H Q E h => ?_) (fun cdv A outer s0 H vs Q E hr h => ?_)
  · obtain ⟨v, d, rfl, _⟩ := h
    rfl
  · obtain ⟨v, d, rfl, hD, hl, q⟩ := h
    refine ⟨_, (pss_cons (ps_if (PW.pt (pw_or (pt_not (pt_val (pe_callB call_isi (by rfl) m_isinstance (by decide +kernel) (pa_cons (pv 0) (pa_cons (pe_bltn (v := .ty "str") (u := .type "str") (by rfl) m_str (by decide +kernel) rfl) pa_nil))))) (pw_or1 (pt_cmpR op_eq (pv 0) pe_str (nomark _))))) (pss_one (ps_ret pe_bl)) pss_nil) 
    (pss_one (ps_ret (pe_and (pe_cmpR op_inS (pe_ix ix_str (pv 0) pe_int (fun _ _ => rfl)) (pe_glob (v := .str lettersS) rfl g_LETTERS ⟨_, rfl⟩) (by with_unfolding_all rfl)) (pe_one (pe_callB (cr_all rfl) (by rfl) m_all (by decide +kernel) (pa_cons (pe_lcX (pe_lc (own := [("sign", 1)]) (g := gName 1) (tt := tYes) (te := tOp rInS (tVar 1) (tC (.str signsS))) (by rfl) sc_is_name.nd (pi_str (pv 0)) (blkOk_by (own := [("sign", 1)]) (N := sc_is_name_N) (sc := defScope s_is_name) (by decide +kernel)) (fun _ _ _ _ _ => pg_name (i := 1) sc_is_name.nd rfl (Or.inl rfl)) (fun _ _ _ _ _ => pts_nil) (fun _ _ _ _ _ => (pe_cmpR op_inS (pv 1) (pe_glob (v := .str signsS) rfl g_SIGNS ⟨_, rfl⟩) (by with_unfolding_all rfl))))) pa_nil))))))), ?_⟩
    walk_at "ev"
    walk_at "nrm"
    refine isi1 hD (fun t e => by rw [e]; exact kS d) ?_
    cases d with
    | str x =>
      cases hD
      have hx := hl x rfl
      walk_at "ev"
      cases hc : x.cps.toList with
      | nil =>
        have e := str_nil hc
        rw [e, decide_eq_true rfl]
        refine iteT ?_
        have : nameD (.str x) = false := by
          show nameB x = false
          unfold nameB
          rw [hc]
        rw [this] at q
        exact q H fun _ _ e => e
      | cons c r =>
        have e : ¬ V.str x = V.str (Str.ofString "") := fun z => by
          rw [V.str.inj z] at hc
          cases hc
        rw [decide_eq_false e]
        refine iteF ?_
        walk_at "ev"
        try dsimp only [tC, tNil]
        have hnm : nameD (.str x) = (decide (c ∈ lettersS.cps.toList) && (c :: r).all fun c => decide (c ∈ signsS.cps.toList)) := by
          show nameB x = _
          unfold nameB
          rw [hc]
        refine ⟨x, 0, c, rfl, rfl, Nat.le_of_lt (sz_lt (by show x.cps.size < _; omega)), atI_nat (j := 0) (by rw [hc]; rfl), ?_⟩
        refine ⟨c, lettersS, rfl, rfl, ?_⟩
        refine ⟨_, rfl, ?_⟩
        cases hl0 : decide (c ∈ lettersS.cps.toList) with
        | false =>
          refine iteF ?_
          rw [hnm, hl0] at q
          exact q H fun _ _ e => e
        | true =>
          refine iteT ?_
          rw [hnm, hl0, Bool.true_and] at q
          refine lc_of ?_
          refine ⟨_, rfl, x, rfl, fun D hD0 => ?_⟩
          refine lc_it (walk_str (z := x)) (fun i H' => Same H H' ∧ H' D = some (.lst ((((c :: r).take i).map fun c => decide (c ∈ signsS.cps.toList)).map V.bl))) ⟨.upd hD0, upd_same⟩ (fun _ _ _ _ => trivial) (fun i v H' H'' hi hh y => ?_) (fun H' hh => ?_)
          · obtain ⟨g1, g2⟩ := hh
            obtain ⟨rfl, c2, hc2, rfl⟩ := y
            refine ⟨rfl, ?_⟩
            dsimp only [tYes]
            rw [if_pos rfl]
            refine ⟨_, rfl, ?_⟩
            refine ⟨c2, signsS, rfl, rfl, ?_⟩
            have hg : (c :: r)[i]? = some c2 := by
              rw [← hc, Array.getElem?_toList]
              exact hc2
            refine ⟨_, g2, by rw [List.length_map, List.length_map, List.length_take]; exact sz_lt (by omega), g1.mut hD0, ?_⟩
            rw [upd_same, List.take_add_one, hg, List.map_append, List.map_append]
            rfl
          · obtain ⟨g1, g2⟩ := hh
            have hlen : x.cps.size = (c :: r).length := by rw [← hc, Array.length_toList]
            rw [hlen, List.take_length] at g2
            refine ⟨D, _, rfl, sql_of g2, ?_⟩
            have e1 : ((c :: r).map fun c => decide (c ∈ signsS.cps.toList)).all id = (c :: r).all fun c => decide (c ∈ signsS.cps.toList) := by
              rw [List.all_map]
              rfl
            rw [e1]
            exact q _ g1
    | _ =>
      walk_at "ev"
      exact q H fun _ _ e => e
end
end Jl

set_option Elab.async false
set_option linter.all false
set_option maxRecDepth 100000
set_option maxHeartbeats 1000000
set_option pp.maxSteps 900
namespace Jl
open PySem PySem.Spec PyProof.Rows L2
open Evl (sz_of sz_lt)
local macro_rules | `(tactic| walk_at "at") => `(tactic| first | exact box0 | exact box1 | exact box2)
local macro_rules | `(tactic| walk_at "sq") => `(tactic| first | (show SqL _ _ _ _; assumption) | (show SqT _ _ _ _; assumption) | (show _ = some _; assumption))
local macro_rules | `(tactic| walk_at "side") => `(tactic| first
  | (show (0 : Int) < _; decide)
  | (show (0 : Int) < _; omega)
  | exact ⟨by decide, by decide, by decide⟩
  | exact sz_of (Nat.le_of_ble_eq_true rfl)
  | exact rfl
  | exact Or.inl (by decide)
  | exact Or.inr (by decide)
  | exact Or.inr ⟨by omega, by omega⟩
  | exact Or.inl ⟨by omega, by omega⟩
  | exact ⟨by decide, by decide +kernel⟩)
local macro_rules | `(tactic| walk_at "ev1") => `(tactic| first
  | refine ⟨_, rfl, ?_⟩
  | refine ⟨_, _, rfl, rfl, ?_⟩
  | refine ⟨_, _, _, _, rfl, rfl, (by walk_at "sq"), (by walk_at "at"), ?_⟩
  | refine ⟨_, _, rfl, (by walk_at "sq"), ?_⟩
  | refine ⟨_, _, rfl, Or.inl (by walk_at "sq"), ?_⟩
  | refine ⟨_, _, rfl, Or.inr (by walk_at "sq"), ?_⟩
  | refine Or.inl ⟨_, rfl, ?_⟩
  | refine Or.inr ⟨_, rfl, ?_⟩
  | refine ⟨(by walk_at "side"), ?_⟩
  | refine ⟨.inl ⟨rfl, _, (by walk_at "sq")⟩, ?_⟩
  | refine ⟨_, _, rfl, ?_⟩)
local macro_rules | `(tactic| walk_at "nrm") => `(tactic| dsimp only [tNil, tCons, tC, tCB])
local macro_rules | `(tactic| walk_at "ev") => `(tactic| repeat (walk_at "ev1"))

abbrev sc_w_is_mark_N : List Str := ["_law_matter", "_law_sign"]
abbrev s_w_is_mark : Stmt := topS 18
theorem sc_w_is_mark : FnScope ["_law_matter", "_law_sign"] ["_law_matter"] (defScope s_w_is_mark) := ⟨rfl, rfl, rfl, by decide +kernel, rfl, by decide +kernel, by decide +kernel⟩
def signS (c : Nat) : Str := ⟨#[c]⟩
theorem eqv_nil2 {ds : List PyData} : PyData.eqv (.list ds) (.list []) = ds.isEmpty := by
  cases ds with
  | nil => simp [PyData.eqv, PyData.eqvAll]
  | cons d ds => simp [PyData.eqv, PyData.eqvAll]
theorem shaped_signs {cs : List Nat} (h : ∀ c ∈ cs, c < 0x110000) : SeqAt.shaped (.list (cs.map fun c => PyData.str (signS c))) = true := by
  have c1 : (PyData.list (cs.map fun c => PyData.str (signS c))).canLay0 = true := by
    rw [PyData.canLay0]
    exact canAll fun e he => by
      obtain ⟨c, hc, rfl⟩ := List.mem_map.mp he
      rw [PyData.canLay0]
      show (#[c] : Array Nat).all (fun x => decide (x < 0x110000)) = true
      simp
      exact h c hc
  have dd : (PyData.list (cs.map fun c => PyData.str (signS c))).depth ≤ 64 := by
    rw [PyData.depth]
    have := depAll (n := 0) (ds := cs.map fun c => PyData.str (signS c)) fun e he => by
      obtain ⟨c, _, rfl⟩ := List.mem_map.mp he
      simp [PyData.depth]
    omega
  unfold SeqAt.shaped
  rw [c1, decide_eq_true dd]
  rfl
theorem shaped_nil2 : SeqAt.shaped (.list []) = true := by
  unfold SeqAt.shaped
  simp [PyData.canLay0, PyData.canLayAll0, PyData.depth, PyData.depthAll]
theorem dpa_signs {K : PySem.W.Frag} {H : Hp} : ∀ {cs : List Nat}, DpAll K H (cs.map fun c => V.str (signS c)) (cs.map fun c => PyData.str (signS c))
  | [] => .nil
  | c :: cs => .cons (.str _) dpa_signs
theorem filt_all {cs : List Nat} {g : Nat → Bool} : (cs.filter fun c => !g c).isEmpty = cs.all g := by
  induction cs with
  | nil => rfl
  | cons d ds ih =>
    cases hg : g d with
    | true =>
      rw [List.filter_cons_of_neg (by rw [hg]; exact Bool.false_ne_true), ih, List.all_cons, hg]
      rfl
    | false =>
      rw [List.filter_cons_of_pos (by rw [hg]; rfl), List.all_cons, hg]
      rfl
section
variable {P : Program} {w : World} {K : PySem.W.Frag} {mg : Str → Option Value} {base : Heap}
def spMark (K : PySem.W.Frag) : Sp := fun vs H Q _ => ∃ (v : V) (d : PyData), vs = [v] ∧ Dp K H v d ∧ (∀ x, d = .str x → x.cps.size ≤ 1000 ∧ PyData.strOk x = true) ∧ ∀ H', Same H H' → Q (.bl (nameD d)) H'
theorem ok_w_is_mark {f : Addr} {fd : FuncData} {k : Nat} (F : Fun K "_law_is_mark" "_law_is_mark" s_w_is_mark f fd) (m_isinstance : mg "isinstance" = none) (m_str : mg "str" = none) : FnOk P w K mg base CX0 (k + 1) f fd ["_law_matter"] (spMark K) := by
  refine F.ok sc_w_is_mark (fun vs H Q E h => ?_) (fun cdv A outer s0 H vs Q E hr h => ?_)
  · obtain ⟨v, d, rfl, _⟩ := h
    rfl
  · obtain ⟨v, d, rfl, hD, hl, q⟩ := h
    refine ⟨_, (pss_cons (ps_if (PW.pt (pw_or (pt_not (pt_val (pe_callB call_isi (by rfl) m_isinstance (by decide +kernel) (pa_cons (pv 0) (pa_cons (pe_bltn (v := .ty "str") (u := .type "str") (by rfl) m_str (by decide +kernel) rfl) pa_nil))))) (pw_or (pt_cmpR op_eq (pv 0) pe_str (nomark _)) (pw_or1 (pt_cmpR op_notInS (pe_ix ix_str (pv 0) pe_int (fun _ _ => rfl)) pe_str (by with_unfolding_all rfl)))))) (pss_one (ps_ret pe_bl)) pss_nil) 
    (pss_one (ps_ret (pe_cmpR (op_eqD hr.units) (pe_lcX (pe_lc (own := [("_law_sign", 1)]) (g := gName 1) (tt := tTest (tOp rNotInS (tVar 1) (tC (.str signsS)))) (te := tVar 1) (by rfl) sc_w_is_mark.nd (pi_str (pv 0)) (blkOk_by (own := [("_law_sign", 1)]) (N := sc_w_is_mark_N) (sc := defScope s_w_is_mark) (by decide +kernel)) (fun _ _ _ _ _ => pg_name (i := 1) sc_w_is_mark.nd rfl (Or.inl rfl)) (fun _ _ _ _ _ => (pts_one (pt_cmpR op_notInS (pv 1) pe_str (by with_unfolding_all rfl)))) (fun _ _ _ _ _ => (pv 1)))) (pe_lst pa_nil) (nomark _))))), ?_⟩
    walk_at "ev"
    walk_at "nrm"
    refine isi1 hD (fun t e => by rw [e]; exact kS d) ?_
    cases d with
    | str x =>
      cases hD
      obtain ⟨hx, hxo⟩ := hl x rfl
      have hcp : ∀ c ∈ x.cps.toList, c < 0x110000 := fun c hc => by
        have h2 : x.cps.all (fun c => decide (c < 0x110000)) = true := hxo
        rw [← Array.all_toList] at h2
        exact of_decide_eq_true (List.all_eq_true.mp h2 c hc)
      walk_at "ev"
      cases hc : x.cps.toList with
      | nil =>
        have e := str_nil hc
        rw [e, decide_eq_true rfl]
        refine iteT ?_
        have : nameD (.str x) = false := by
          show nameB x = false
          unfold nameB
          rw [hc]
        rw [this] at q
        exact iteT (q H fun _ _ e => e)
      | cons c r =>
        have e : ¬ V.str x = V.str (Str.ofString "") := fun z => by
          rw [V.str.inj z] at hc
          cases hc
        have hnm : nameD (.str x) = (decide (c ∈ lettersS.cps.toList) && (c :: r).all fun c => decide (c ∈ signsS.cps.toList)) := by
          show nameB x = _
          unfold nameB
          rw [hc]
        rw [decide_eq_false e]
        refine iteF ?_
        walk_at "ev"
        try dsimp only [tC, tNil]
        refine ⟨x, 0, c, rfl, rfl, Nat.le_of_lt (sz_lt (by show x.cps.size < _; omega)), atI_nat (j := 0) (by rw [hc]; rfl), ?_⟩
        refine ⟨c, lettersS, rfl, rfl, ?_⟩
        refine ⟨_, rfl, ?_⟩
        cases hl0 : decide (c ∈ lettersS.cps.toList) with
        | false =>
          refine iteT ?_
          rw [hnm, hl0] at q
          exact q H fun _ _ e => e
        | true =>
          refine iteF ?_
          rw [hnm, hl0, Bool.true_and] at q
          walk_at "ev"
          refine lc_of ?_
          refine ⟨_, rfl, x, rfl, fun D hD0 => ?_⟩
          refine lc_it (walk_str (z := x)) (fun i H' => Same H H' ∧ H' D = some (.lst ((((c :: r).take i).filter fun c => !decide (c ∈ signsS.cps.toList)).map fun c => V.str (signS c)))) ⟨.upd hD0, upd_same⟩ (fun _ _ _ _ => trivial) (fun i v H' H'' hi hh y => ?_) (fun H' hh => ?_)
          · obtain ⟨g1, g2⟩ := hh
            obtain ⟨rfl, c2, hc2, rfl⟩ := y
            refine ⟨rfl, ?_⟩
            refine ⟨_, rfl, ?_⟩
            refine ⟨c2, signsS, rfl, rfl, ?_⟩
            refine ⟨_, rfl, ?_⟩
            have hg : (c :: r)[i]? = some c2 := by
              rw [← hc, Array.getElem?_toList]
              exact hc2
            have hlen2 : (((c :: r).take i).filter fun c => !decide (c ∈ signsS.cps.toList)).length ≤ i := Nat.le_trans (List.length_filter_le _ _) (by rw [List.length_take]; omega)
            rw [List.take_add_one, hg, List.filter_append]
            cases hs : decide (c2 ∈ signsS.cps.toList) with
            | true =>
              refine iteF ?_
              have hf : ((some c2).toList.filter fun c => !decide (c ∈ signsS.cps.toList)) = [] := List.filter_cons_of_neg (p := fun c => !decide (c ∈ signsS.cps.toList)) (l := []) (by show ¬ (!decide (c2 ∈ signsS.cps.toList)) = true; rw [hs]; decide)
              rw [hf, List.append_nil]
              exact ⟨g1, g2⟩
            | false =>
              refine iteT ?_
              have hf : ((some c2).toList.filter fun c => !decide (c ∈ signsS.cps.toList)) = [c2] := List.filter_cons_of_pos (p := fun c => !decide (c ∈ signsS.cps.toList)) (l := []) (by show (!decide (c2 ∈ signsS.cps.toList)) = true; rw [hs]; decide)
              refine ⟨_, rfl, _, g2, by rw [List.length_map]; exact sz_lt (by omega), g1.mut hD0, ?_⟩
              rw [upd_same, hf, List.map_append]
              rfl
          · obtain ⟨g1, g2⟩ := hh
            have hlen : x.cps.size = (c :: r).length := by rw [← hc, Array.length_toList]
            rw [hlen, List.take_length] at g2
            walk_at "ev"
            intro M hM
            have s2 := Same.upd (o := .lst []) hM
            refine ⟨_, .list [], .lst (sql_of (s2 _ _ g2)) dpa_signs, .lst (sql_of upd_same) .nil, shaped_signs fun z hz => hcp z (by rw [hc]; exact (List.mem_filter.mp hz).1), shaped_nil2, ?_⟩
            rw [eqv_nil2, List.isEmpty_map, filt_all]
            exact q _ (g1.trans s2)
    | _ =>
      walk_at "ev"
      exact q H fun _ _ e => e
end
end Jl

set_option Elab.async false
set_option linter.all false
set_option maxRecDepth 100000
set_option maxHeartbeats 1000000
set_option pp.maxSteps 900
namespace Jl
open PySem PySem.Spec PyProof.Rows L2
open Evl (sz_of sz_lt)
local macro_rules | `(tactic| walk_at "at") => `(tactic| first | exact box0 | exact box1 | exact box2)
local macro_rules | `(tactic| walk_at "sq") => `(tactic| first | (show SqL _ _ _ _; assumption) | (show SqT _ _ _ _; assumption) | (show _ = some _; assumption))
local macro_rules | `(tactic| walk_at "side") => `(tactic| first
  | (show (0 : Int) < _; decide)
  | (show (0 : Int) < _; omega)
  | exact ⟨by decide, by decide, by decide⟩
  | exact sz_of (Nat.le_of_ble_eq_true rfl)
  | exact rfl
  | exact Or.inl (by decide)
  | exact Or.inr (by decide)
  | exact Or.inr ⟨by omega, by omega⟩
  | exact Or.inl ⟨by omega, by omega⟩
  | exact ⟨by decide, by decide +kernel⟩)
local macro_rules | `(tactic| walk_at "ev1") => `(tactic| first
  | refine ⟨_, rfl, ?_⟩
  | refine ⟨_, _, rfl, rfl, ?_⟩
  | refine ⟨_, _, _, _, rfl, rfl, (by walk_at "sq"), (by walk_at "at"), ?_⟩
  | refine ⟨_, _, rfl, (by walk_at "sq"), ?_⟩
  | refine ⟨_, _, rfl, Or.inl (by walk_at "sq"), ?_⟩
  | refine ⟨_, _, rfl, Or.inr (by walk_at "sq"), ?_⟩
  | refine Or.inl ⟨_, rfl, ?_⟩
  | refine Or.inr ⟨_, rfl, ?_⟩
  | refine ⟨(by walk_at "side"), ?_⟩
  | refine ⟨.inl ⟨rfl, _, (by walk_at "sq")⟩, ?_⟩
  | refine ⟨_, _, rfl, ?_⟩)
local macro_rules | `(tactic| walk_at "nrm") => `(tactic| dsimp only [tNil, tCons, tC, tCB])
local macro_rules | `(tactic| walk_at "ev") => `(tactic| repeat (walk_at "ev1"))

abbrev sc_w_goes_up_N : List Str := ["_law_some", "_law_k"]
abbrev s_w_goes_up : Stmt := topS 20
theorem sc_w_goes_up : FnScope ["_law_some", "_law_k"] ["_law_some"] (defScope s_w_goes_up) := ⟨rfl, rfl, rfl, by decide +kernel, rfl, by decide +kernel, by decide +kernel⟩
theorem ltI {ds : List PyData} : (((List.range (ds.length - 1)).filter fun i => !PySem.W.dataLt (ds.getD i .none) (ds.getD (i + 1) .none))).isEmpty = ascD ds := by
  unfold ascD
  generalize List.range (ds.length - 1) = l
  induction l with
  | nil => rfl
  | cons i l ih =>
    cases hg : PySem.W.dataLt (ds.getD i .none) (ds.getD (i + 1) .none) with
    | true =>
      rw [List.filter_cons_of_neg (by rw [hg]; exact Bool.false_ne_true), ih, List.all_cons, hg]
      rfl
    | false =>
      rw [List.filter_cons_of_pos (by rw [hg]; rfl), List.all_cons, hg]
      rfl
theorem shaped_ints {is : List Int} : SeqAt.shaped (.list (is.map PyData.int)) = true := by
  have c : (PyData.list (is.map PyData.int)).canLay0 = true := by
    rw [PyData.canLay0]
    exact canAll fun e he => by
      obtain ⟨i, _, rfl⟩ := List.mem_map.mp he
      simp [PyData.canLay0]
  have dd : (PyData.list (is.map PyData.int)).depth ≤ 64 := by
    rw [PyData.depth]
    have := depAll (n := 0) (ds := is.map PyData.int) fun e he => by
      obtain ⟨i, _, rfl⟩ := List.mem_map.mp he
      simp [PyData.depth]
    omega
  unfold SeqAt.shaped
  rw [c, decide_eq_true dd]
  rfl
theorem dpa_ints {K : PySem.W.Frag} {H : Hp} : ∀ {is : List Int}, DpAll K H (is.map V.int) (is.map PyData.int)
  | [] => .nil
  | i :: is => .cons (.int i) dpa_ints
section
variable {P : Program} {w : World} {K : PySem.W.Frag} {mg : Str → Option Value} {base : Heap}
theorem ok_w_goes_up {f : Addr} {fd : FuncData} {k : Nat} (F : Fun K "_law_goes_up" "_law_goes_up" s_w_goes_up f fd) (m_range : mg "range" = none) (m_len : mg "len" = none) : FnOk P w K mg base CX0 (k + 1) f fd ["_law_some"] (spAsc K) := by
  refine F.ok sc_w_goes_up (fun vs H Q E h => ?_) (fun cdv A outer s0 H vs Q E hr h => ?_)
  · obtain ⟨v, fb, ds, rfl, _⟩ := h
    rfl
  · obtain ⟨v, fb, ds, rfl, hD0, hk1, hcc, q⟩ := h
    refine ⟨_, (pss_one (ps_ret (pe_cmpR (op_eqD hr.units) (pe_lcX (pe_lc (own := [("_law_k", 1)]) (g := gName 1) (tt := tNot (tTest (tOp (rLtD K) (tOp (rIxF K) (tVar 0) (tOp (rI0 fun i j => .int (i - j)) (tVar 1) (tC (.int 1)))) (tOp (rIxF K) (tVar 0) (tVar 1))))) (te := tVar 1) (by rfl) sc_w_goes_up.nd (pi_range2 (by rfl) m_range (pa_cons pe_int (pa_cons (pe_callB call_len_seq (by rfl) m_len PySem.boot_len (pa_cons (pv 0) pa_nil)) pa_nil))) (blkOk_by (own := [("_law_k", 1)]) (N := sc_w_goes_up_N) (sc := defScope s_w_goes_up) (by decide +kernel)) (fun _ _ _ _ _ => pg_name (i := 1) sc_w_goes_up.nd rfl (Or.inl rfl)) (fun _ _ _ _ _ => (pts_one (pt_not (pt_cmpR (op_ltD hr.units) (pe_ix ix_lt (pv 0) (pe_op op_sub (pv 1) pe_int) (fun _ _ => rfl)) (pe_ix ix_lt (pv 0) (pv 1) (fun _ _ => rfl)) (nomark _))))) (fun _ _ _ _ _ => (pv 1)))) (pe_lst pa_nil) (nomark _)))), ?_⟩
    obtain ⟨b, xs, rfl, hs, ha⟩ := Dp.seq_of hD0
    have lx := dpa_len ha
    walk_at "ev"
    refine lc_of ?_
    walk_at "ev"
    refine ⟨b, xs, rfl, hs.or, ?_⟩
    refine ⟨_, _, rfl, ⟨by omega, by omega, by omega, by omega⟩, ?_⟩
    intro D hD
    have hn : ((xs.length : Int) - 1).toNat = ds.length - 1 := by omega
    rw [hn]
    refine lc_it (walk_range (lo := 1) (n := ds.length - 1)) (fun i H' => Same H H' ∧ H' D = some (.lst ((((List.range i).filter fun i => !PySem.W.dataLt (ds.getD i .none) (ds.getD (i + 1) .none)).map fun (i : Nat) => (1 + (i : Int))).map V.int))) ⟨.upd hD, upd_same⟩ (fun _ _ _ _ => trivial) (fun i x H' H'' hi hh y => ?_) (fun H' hh => ?_)
    · obtain ⟨g1, g2⟩ := hh
      obtain ⟨rfl, hv⟩ := y
      have hv : x = .int (1 + (i : Int)) := hv
      subst hv
      refine ⟨rfl, ?_⟩
      have j1 : i < xs.length := by omega
      have j2 : i + 1 < xs.length := by omega
      obtain ⟨d, hd, hd2⟩ := dpa_get ha (List.getElem?_eq_getElem j1)
      obtain ⟨e, he, he2⟩ := dpa_get ha (List.getElem?_eq_getElem j2)
      obtain ⟨c1, c2, c3⟩ := hcc i d e hd he
      have hs2 := g1.sqF hs
      have e4 := g1
      refine ⟨_, rfl, ?_⟩
      refine ⟨_, rfl, ?_⟩
      refine ⟨_, _, rfl, rfl, ?_⟩
      dsimp only
      refine rIxF_at hs2 (v := xs[i]) (by rw [show (1 + (i : Int) - 1) = ((i : Nat) : Int) from by omega]; exact atI_nat (List.getElem?_eq_getElem j1)) ?_
      refine ⟨_, rfl, ?_⟩
      refine ⟨_, rfl, ?_⟩
      refine rIxF_at hs2 (v := xs[i + 1]) (by rw [show (1 + (i : Int)) = ((i + 1 : Nat) : Int) from by omega]; exact atI_nat (List.getElem?_eq_getElem j2)) ?_
      refine ⟨_, _, e4.dp hd2, e4.dp he2, c1, c2, c3, ?_⟩
      refine ⟨_, rfl, ?_⟩
      have f1 : ds.getD i .none = d := by rw [List.getD_eq_getElem?_getD, hd]; rfl
      have f2 : ds.getD (i + 1) .none = e := by rw [List.getD_eq_getElem?_getD, he]; rfl
      rw [← f1, ← f2, List.range_succ, List.filter_append]
      cases hg : PySem.W.dataLt (ds.getD i .none) (ds.getD (i + 1) .none) with
      | true =>
        rw [if_neg (by decide)]
        have hf : ([i].filter fun i => !PySem.W.dataLt (ds.getD i .none) (ds.getD (i + 1) .none)) = [] := List.filter_cons_of_neg (p := fun i => !PySem.W.dataLt (ds.getD i .none) (ds.getD (i + 1) .none)) (l := []) (by show ¬ (!PySem.W.dataLt (ds.getD i .none) (ds.getD (i + 1) .none)) = true; rw [hg]; decide)
        rw [hf, List.append_nil]
        exact ⟨g1, g2⟩
      | false =>
        rw [if_pos (by decide)]
        have hf : ([i].filter fun i => !PySem.W.dataLt (ds.getD i .none) (ds.getD (i + 1) .none)) = [i] := List.filter_cons_of_pos (p := fun i => !PySem.W.dataLt (ds.getD i .none) (ds.getD (i + 1) .none)) (l := []) (by show (!PySem.W.dataLt (ds.getD i .none) (ds.getD (i + 1) .none)) = true; rw [hg]; decide)
        refine ⟨_, rfl, _, g2, ?_, g1.mut hD, ?_⟩
        · rw [List.length_map, List.length_map]
          have h1 := List.length_filter_le (fun i => !PySem.W.dataLt (ds.getD i .none) (ds.getD (i + 1) .none)) (List.range i)
          rw [List.length_range] at h1
          exact sz_lt (by omega)
        · rw [upd_same, hf, List.map_append, List.map_append]
          rfl
    · obtain ⟨g1, g2⟩ := hh
      walk_at "ev"
      intro M hM
      have s2 := Same.upd (o := .lst []) hM
      refine ⟨_, .list [], .lst (sql_of (s2 _ _ g2)) dpa_ints, .lst (sql_of upd_same) .nil, shaped_ints, shaped_nil2, ?_⟩
      rw [eqv_nil2, List.isEmpty_map, List.isEmpty_map, ltI]
      exact q _ (g1.trans s2)
end
end Jl

set_option Elab.async false
set_option linter.all false
set_option maxRecDepth 100000
set_option maxHeartbeats 1000000
set_option pp.maxSteps 900
namespace Jl
open PySem PySem.Spec PyProof.Rows L2
open Evl (sz_of sz_lt)
local macro_rules | `(tactic| walk_at "at") => `(tactic| first | exact box0 | exact box1 | exact box2)
local macro_rules | `(tactic| walk_at "sq") => `(tactic| first | (show SqL _ _ _ _; assumption) | (show SqT _ _ _ _; assumption) | (show _ = some _; assumption))
local macro_rules | `(tactic| walk_at "side") => `(tactic| first
  | (show (0 : Int) < _; decide)
  | (show (0 : Int) < _; omega)
  | exact ⟨by decide, by decide, by decide⟩
  | exact sz_of (Nat.le_of_ble_eq_true rfl)
  | exact rfl
  | exact Or.inl (by decide)
  | exact Or.inr (by decide)
  | exact Or.inr ⟨by omega, by omega⟩
  | exact Or.inl ⟨by omega, by omega⟩
  | exact ⟨by decide, by decide +kernel⟩)
local macro_rules | `(tactic| walk_at "ev1") => `(tactic| first
  | refine ⟨_, rfl, ?_⟩
  | refine ⟨_, _, rfl, rfl, ?_⟩
  | refine ⟨_, _, _, _, rfl, rfl, (by walk_at "sq"), (by walk_at "at"), ?_⟩
  | refine ⟨_, _, rfl, (by walk_at "sq"), ?_⟩
  | refine ⟨_, _, rfl, Or.inl (by walk_at "sq"), ?_⟩
  | refine ⟨_, _, rfl, Or.inr (by walk_at "sq"), ?_⟩
  | refine Or.inl ⟨_, rfl, ?_⟩
  | refine Or.inr ⟨_, rfl, ?_⟩
  | refine ⟨(by walk_at "side"), ?_⟩
  | refine ⟨.inl ⟨rfl, _, (by walk_at "sq")⟩, ?_⟩
  | refine ⟨_, _, rfl, ?_⟩)
local macro_rules | `(tactic| walk_at "nrm") => `(tactic| dsimp only [tNil, tCons, tC, tCB])
local macro_rules | `(tactic| walk_at "ev") => `(tactic| repeat (walk_at "ev1"))

abbrev sc_is_queue_N : List Str := ["thing", "workers", "name", "start", "end", "room", "notice"]
abbrev s_is_queue : Stmt := topS 8
theorem sc_is_queue : FnScope ["thing", "workers", "name", "start", "end", "room", "notice"] ["thing", "workers"] (defScope s_is_queue) := ⟨rfl, rfl, rfl, by decide +kernel, rfl, by decide +kernel, by decide +kernel⟩
theorem valV_in : ∀ {ks : List Str} {z : Str}, (valV (ks.map fun x => ((.inr x : Key), V.bl true)) (.inr z)).isSome = decide (z ∈ ks)
  | [], z => by
    rw [decide_eq_false List.not_mem_nil]
    rfl
  | y :: ks, z => by
    by_cases e : y = z
    · subst e
      rw [List.map_cons, valV_pos rfl, decide_eq_true List.mem_cons_self]
      rfl
    · rw [List.map_cons, valV_neg (fun q => e (Sum.inr.inj q)), valV_in]
      refine decide_eq_decide.mpr ⟨fun h => List.mem_cons_of_mem _ h, fun h => ?_⟩
      rcases List.mem_cons.mp h with h | h
      · exact absurd h.symm e
      · exact h
def leD : PyData → PyData → Bool
  | .int t, .int r => decide (t ≤ r)
  | _, _ => false
def queueE (ws : List Str) (d2 d3 d4 d5 : PyData) : Bool := match d2, d3 with
  | .str s, .str e => decide (s ∈ ws) && (decide (e ∈ ws) && (!decide (s = e) && (numD 1 d4 && (numD 1 d5 && leD d5 d4))))
  | _, _ => false
theorem queueE_no {ws : List Str} {d2 d3 d4 d5 : PyData} (h : ∀ s, d2 ≠ .str s) : queueE ws d2 d3 d4 d5 = false := by
  cases d2 <;> first | exact absurd rfl (h _) | (cases d3 <;> rfl)
def queueC (ws : List Str) (d1 d2 d3 d4 d5 : PyData) : Bool := nameD d1 && queueE ws d2 d3 d4 d5
def queueD (ws : List Str) : PyData → Bool
  | .tuple [d1, d2, d3, d4, d5] => queueC ws d1 d2 d3 d4 d5
  | _ => false
theorem five_of {K : PySem.W.Frag} {H : Hp} {v : V} {d : PyData} (h : Dp K H v d) (hr : rowB 5 d = true) : ∃ (c : Addr) (u1 u2 u3 u4 u5 : V) (d1 d2 d3 d4 d5 : PyData), v = .ref c ∧ d = .tuple [d1, d2, d3, d4, d5] ∧ SqT K H c [u1, u2, u3, u4, u5] ∧ Dp K H u1 d1 ∧ Dp K H u2 d2 ∧ Dp K H u3 d3 ∧ Dp K H u4 d4 ∧ Dp K H u5 d5 := by
  cases h with
  | tup hs ha =>
    rename_i a xs ds
    have hl : ds.length = 5 := by
      have : ((ds.length : Nat) : Int) = 5 := of_decide_eq_true hr
      omega
    cases ha with
    | nil => cases hl
    | cons g1 ha =>
      cases ha with
      | nil => cases hl
      | cons g2 ha =>
        cases ha with
        | nil => cases hl
        | cons g3 ha =>
          cases ha with
          | nil => cases hl
          | cons g4 ha =>
            cases ha with
            | nil => cases hl
            | cons g5 ha =>
              cases ha with
              | nil => exact ⟨a, _, _, _, _, _, _, _, _, _, _, rfl, rfl, hs, g1, g2, g3, g4, g5⟩
              | cons _ _ =>
                simp only [List.length_cons] at hl
                omega
  | _ => cases hr
section
variable {P : Program} {w : World} {K : PySem.W.Frag} {mg : Str → Option Value} {base : Heap}
def spQueue (K : PySem.W.Frag) : Sp := fun vs H Q _ => ∃ (v : V) (M : Addr) (ks : List Str) (d : PyData), vs = [v, .ref M] ∧ Dp K H v d ∧ H M = some (.dK (ks.map fun x => (.inr x, .bl true))) ∧ (∀ x y z u t, d = .tuple [.str x, y, z, u, t] → x.cps.size ≤ 1000) ∧ ∀ H', Same H H' → Q (.bl (queueD ks d)) H'
theorem ok_is_queue {f fR fN fM : Addr} {fd fdR fdN fdM : FuncData} {k : Nat} (F : Fun K "is_queue" "is_queue" s_is_queue f fd)
    (G_is_row : FnOk P w K mg base CX0 k fR fdR ["thing", "many"] (spRow K)) (g_is_row : mg "is_row" = some (.ref fR)) (F_is_row : Fun K "is_row" "is_row" s_is_row fR fdR) (b_is_row : Binds K fdR ["thing", "many"] [])
    (G_is_number : FnOk P w K mg base CX0 k fN fdN ["thing", "least"] (spNum K)) (g_is_number : mg "is_number" = some (.ref fN)) (F_is_number : FunNum K fN fdN) (b_is_number : Binds K fdN ["thing", "least"] [])
    (G_is_name : FnOk P w K mg base CX0 k fM fdM ["thing"] (spName K)) (g_is_name : mg "is_name" = some (.ref fM)) (F_is_name : Fun K "is_name" "is_name" s_is_name fM fdM) (b_is_name : Binds K fdM ["thing"] [])
    (m_isinstance : mg "isinstance" = none) (m_str : mg "str" = none) : FnOk P w K mg base CX0 (k + 1) f fd ["thing", "workers"] (spQueue K) := by
  refine F.ok sc_is_queue (fun vs H Q E h => ?_) (fun cdv A outer s0 H vs Q E hr h => ?_)
  · obtain ⟨v, M, ks, d, rfl, _⟩ := h
    rfl
  · obtain ⟨v, M, ks, d, rfl, hD, hM, hl, q⟩ := h
    have hu := hu_of hr
    refine ⟨_, (pss_cons (ps_if (pt_not (pt_val (pe_call G_is_row hr (by rfl) g_is_row F_is_row.kp b_is_row .nil pass0 (pa_cons (pv 0) (pa_cons pe_int pa_nil))))) (pss_one (ps_ret pe_bl)) pss_nil) 
    (pss_cons (ps_asg (pv 0) (pg_tup rfl (pgs_cons (pg_name (i := 2) sc_is_queue.nd rfl (Or.inl rfl)) (pgs_cons (pg_name (i := 3) sc_is_queue.nd rfl (Or.inl rfl)) (pgs_cons (pg_name (i := 4) sc_is_queue.nd rfl (Or.inl rfl)) (pgs_cons (pg_name (i := 5) sc_is_queue.nd rfl (Or.inl rfl)) (pgs_cons (pg_name (i := 6) sc_is_queue.nd rfl (Or.inl rfl)) pgs_nil))))))) 
    (pss_cons (ps_if (PW.pt (pw_or (pt_not (pt_val (pe_call G_is_name hr (by rfl) g_is_name F_is_name.kp b_is_name .nil pass0 (pa_cons (pv 2) pa_nil)))) (pw_or (pt_not (pt_val (pe_callB call_isi (by rfl) m_isinstance (by decide +kernel) (pa_cons (pv 3) (pa_cons (pe_bltn (v := .ty "str") (u := .type "str") (by rfl) m_str (by decide +kernel) rfl) pa_nil))))) (pw_or1 (pt_not (pt_val (pe_callB call_isi (by rfl) m_isinstance (by decide +kernel) (pa_cons (pv 4) (pa_cons (pe_bltn (v := .ty "str") (u := .type "str") (by rfl) m_str (by decide +kernel) rfl) pa_nil))))))))) (pss_one (ps_ret pe_bl)) pss_nil) 
    (pss_cons (ps_if (PW.pt (pw_or (pt_cmp (pc_dnotin hu (pv 3) (pv 1))) (pw_or (pt_cmp (pc_dnotin hu (pv 4) (pv 1))) (pw_or1 (pt_cmpR op_eq (pv 3) (pv 4) (nomark _)))))) (pss_one (ps_ret pe_bl)) pss_nil) 
    (pss_one (ps_ret (pe_and (pe_call G_is_number hr (by rfl) g_is_number F_is_number.kp b_is_number .nil pass0 (pa_cons (pv 5) (pa_cons pe_int pa_nil))) (pe_and (pe_call G_is_number hr (by rfl) g_is_number F_is_number.kp b_is_number .nil pass0 (pa_cons (pv 6) (pa_cons pe_int pa_nil))) (pe_one (pe_cmpR op_le (pv 6) (pv 5) (nomark _))))))))))), ?_⟩
    walk_at "ev"
    refine ⟨v, 5, d, rfl, hD, ?_⟩
    cases hb : rowB 5 d with
    | false =>
      refine ⟨_, rfl, iteT ?_⟩
      have e0 : queueD ks d = false := by
        unfold queueD
        split
        · cases hb
        · rfl
      rw [e0] at q
      exact q H fun _ _ e => e
    | true =>
      refine ⟨_, rfl, iteF ?_⟩
      obtain ⟨c, u1, u2, u3, u4, u5, d1, d2, d3, d4, d5, rfl, rfl, hs, g1, g2, g3, g4, g5⟩ := five_of hD hb
      try dsimp only [tNext, tSeq, tAsg]
      refine ⟨_, rfl, c, [u1, u2, u3, u4, u5], rfl, hs, rfl, u1, [u2, u3, u4, u5], rfl, u2, [u3, u4, u5], rfl, u3, [u4, u5], rfl, u4, [u5], rfl, u5, [], rfl, rfl, ?_⟩
      have hq : queueD ks (.tuple [d1, d2, d3, d4, d5]) = queueC ks d1 d2 d3 d4 d5 := rfl
      rw [hq] at q
      walk_at "ev"
      refine ⟨u1, d1, rfl, g1, fun x e => by subst e; exact hl _ _ _ _ _ rfl, fun H1 s1 => ?_⟩
      cases hn : nameD d1 with
      | false =>
        refine ⟨_, rfl, iteT (iteT ?_)⟩
        have e0 : queueC ks d1 d2 d3 d4 d5 = false := by unfold queueC; rw [hn]; rfl
        rw [e0] at q
        exact q H1 s1
      | true =>
        have e1 : queueC ks d1 d2 d3 d4 d5 = queueE ks d2 d3 d4 d5 := by unfold queueC; rw [hn]; rfl
        rw [e1] at q
        refine ⟨_, rfl, iteF ?_⟩
        walk_at "ev"
        walk_at "nrm"
        refine isi1 (s1.dp g2) (fun t e => by rw [e]; exact kS d2) ?_
        cases d2 with
        | str sx =>
          cases g2
          refine ⟨_, rfl, iteF ?_⟩
          walk_at "ev"
          walk_at "nrm"
          refine isi1 (s1.dp g3) (fun t e => by rw [e]; exact kS d3) ?_
          cases d3 with
          | str ex =>
            cases g3
            refine ⟨_, rfl, iteF ?_⟩
            have hM1 := s1 _ _ hM
            have qe : queueE ks (.str sx) (.str ex) d4 d5 = (decide (sx ∈ ks) && (decide (ex ∈ ks) && (!decide (sx = ex) && (numD 1 d4 && (numD 1 d5 && leD d5 d4))))) := rfl
            rw [qe] at q
            try dsimp only [tNext, tSeq, tAsg]
            refine ⟨_, rfl, _, rfl, M, _, rfl, DGet.k (k := .inr sx) hM1, ?_⟩
            rw [valV_in]
            cases h1 : decide (sx ∈ ks) with
            | false =>
              rw [h1] at q
              exact ⟨_, rfl, iteT (iteT (q H1 s1))⟩
            | true =>
              rw [h1, Bool.true_and] at q
              refine ⟨_, rfl, iteF ?_⟩
              refine ⟨_, rfl, _, rfl, M, _, rfl, DGet.k (k := .inr ex) hM1, ?_⟩
              rw [valV_in]
              cases h2 : decide (ex ∈ ks) with
              | false =>
                rw [h2] at q
                exact ⟨_, rfl, iteT (iteT (q H1 s1))⟩
              | true =>
                rw [h2, Bool.true_and] at q
                refine ⟨_, rfl, iteF ?_⟩
                walk_at "ev"
                have ed : decide (V.str sx = V.str ex) = decide (sx = ex) := decide_eq_decide.mpr ⟨V.str.inj, congrArg _⟩
                rw [ed]
                cases h3 : decide (sx = ex) with
                | true =>
                  rw [h3] at q
                  exact iteT (q H1 s1)
                | false =>
                  rw [h3] at q
                  refine iteF ?_
                  walk_at "ev"
                  refine ⟨u4, 1, d4, rfl, s1.dp g4, ?_⟩
                  cases h4 : numD 1 d4 with
                  | false =>
                    rw [h4] at q
                    exact ⟨_, rfl, iteF (q H1 s1)⟩
                  | true =>
                    rw [h4] at q
                    refine ⟨_, rfl, iteT ?_⟩
                    walk_at "ev"
                    refine ⟨u5, 1, d5, rfl, s1.dp g5, ?_⟩
                    cases h5 : numD 1 d5 with
                    | false =>
                      rw [h5] at q
                      exact ⟨_, rfl, iteF (q H1 s1)⟩
                    | true =>
                      rw [h5] at q
                      refine ⟨_, rfl, iteT ?_⟩
                      cases d4 <;> first | cases h4 | skip
                      cases d5 <;> first | cases h5 | skip
                      cases g4
                      cases g5
                      walk_at "ev"
                      exact q H1 s1
          | _ => exact ⟨_, rfl, iteT (q H1 s1)⟩
        | _ =>
          refine ⟨_, rfl, iteT (iteT ?_)⟩
          have q2 := q H1 s1
          rw [queueE_no (by intro s z; cases z)] at q2
          exact q2
end
end Jl

set_option Elab.async false
set_option linter.all false
set_option maxRecDepth 100000
set_option maxHeartbeats 1000000
set_option pp.maxSteps 900
namespace Jl
open PySem PySem.Spec PyProof.Rows L2
open Evl (sz_of sz_lt)
local macro_rules | `(tactic| walk_at "at") => `(tactic| first | exact box0 | exact box1 | exact box2)
local macro_rules | `(tactic| walk_at "sq") => `(tactic| first | (show SqL _ _ _ _; assumption) | (show SqT _ _ _ _; assumption) | (show _ = some _; assumption))
local macro_rules | `(tactic| walk_at "side") => `(tactic| first
  | (show (0 : Int) < _; decide)
  | (show (0 : Int) < _; omega)
  | exact ⟨by decide, by decide, by decide⟩
  | exact sz_of (Nat.le_of_ble_eq_true rfl)
  | exact rfl
  | exact Or.inl (by decide)
  | exact Or.inr (by decide)
  | exact Or.inr ⟨by omega, by omega⟩
  | exact Or.inl ⟨by omega, by omega⟩
  | exact ⟨by decide, by decide +kernel⟩)
local macro_rules | `(tactic| walk_at "ev1") => `(tactic| first
  | refine ⟨_, rfl, ?_⟩
  | refine ⟨_, _, rfl, rfl, ?_⟩
  | refine ⟨_, _, _, _, rfl, rfl, (by walk_at "sq"), (by walk_at "at"), ?_⟩
  | refine ⟨_, _, rfl, (by walk_at "sq"), ?_⟩
  | refine ⟨_, _, rfl, Or.inl (by walk_at "sq"), ?_⟩
  | refine ⟨_, _, rfl, Or.inr (by walk_at "sq"), ?_⟩
  | refine Or.inl ⟨_, rfl, ?_⟩
  | refine Or.inr ⟨_, rfl, ?_⟩
  | refine ⟨(by walk_at "side"), ?_⟩
  | refine ⟨.inl ⟨rfl, _, (by walk_at "sq")⟩, ?_⟩
  | refine ⟨_, _, rfl, ?_⟩)
local macro_rules | `(tactic| walk_at "nrm") => `(tactic| dsimp only [tNil, tCons, tC, tCB])
local macro_rules | `(tactic| walk_at "ev") => `(tactic| repeat (walk_at "ev1"))

/-! ### t[::-1] of a tuple -/
section
open HT
variable {prog : Program} {w : World} {A : Around} {E : Value → Shared → Prop} {s : Shared}
theorem places_rev (n : Nat) : Builtin.Slice.slicePlaces ((n : Int) - 1) (-1) (-1) = n := by
  unfold Builtin.Slice.slicePlaces
  rw [if_neg (by decide)]
  by_cases h : (n : Int) - 1 > -1
  · rw [if_pos h, show (-(-1) : Int) = 1 from rfl, Int.ediv_one]
    omega
  · rw [if_neg h]
    omega
theorem sliceApplied_rev {sl : Addr} {vs : Value} {n : Nat} {Q : Int × Int × Nat → Shared → Prop} (hs : s.heap.IsSliceOf sl .none .none vs) (ps : IsPart vs (some (-1)))
    (h : Q ((n : Int) - 1, -1, n) s) : wpAny (model prog w) A (Builtin.Slice.sliceApplied (.ref sl) (pure (n : Int))) Q E s := by
  obtain ⟨os, hos, hcs, hds⟩ := id hs
  unfold Builtin.Slice.sliceApplied Builtin.Slice.sliceFields
  refine wpAny_bind (wpAny_bind (wpAny_field hos hds (x := .none) rfl (wpAny_bind (wpAny_field hos hds (x := .none) rfl (wpAny_bind (wpAny_field hos hds (x := vs) rfl (wpAny_pure ?_)))))))
  refine wpAny_bind (slicePart_ ps ?_)
  show wpAny _ _ (if ((-1 : Int) == 0) = true then _ else _) _ _ s
  rw [if_neg (by decide)]
  refine wpAny_bind (slicePart_none (wpAny_bind (slicePart_none (wpAny_bind (wpAny_pure ?_)))))
  show wpAny _ _ (pure ((n : Int) - 1, (-1 : Int), Builtin.Slice.slicePlaces ((n : Int) - 1) (-1) (-1))) _ _ s
  rw [places_rev]
  exact wpAny_pure h
theorem pick_rev (xs : Array Value) : ((List.range xs.size).filterMap fun (m : Nat) => xs[(((xs.size : Nat) : Int) - 1 + (m : Int) * (-1)).toNat]?).toArray = xs.toList.reverse.toArray := by
  congr 1
  have e : (fun (m : Nat) => xs[(((xs.size : Nat) : Int) - 1 + (m : Int) * (-1)).toNat]?) = (fun (i : Nat) => xs[i]?) ∘ fun (m : Nat) => (((xs.size : Nat) : Int) - 1 + (m : Int) * (-1)).toNat := rfl
  rw [e, ← List.filterMap_map]
  have e2 : (List.range xs.size).map (fun (m : Nat) => (((xs.size : Nat) : Int) - 1 + (m : Int) * (-1)).toNat) = (List.range xs.size).map fun k => xs.size - 1 - k := List.map_congr_left fun k hk => by omega
  rw [e2]
  have e3 := PySem.W.krv_range xs.size
  rw [e3, List.filterMap_reverse, PySem.W.krv_all]
theorem getItem_tuple_rev {t sl : Addr} {items : Array Value} {vs : Value} {Q : Value → Shared → Prop} (ht : IsTup s.heap t items) (hs : s.heap.IsSliceOf sl .none .none vs) (ps : IsPart vs (some (-1)))
    (h : Q (.ref s.heap.objs.size) { s with heap := s.heap.push { cls := .type "tuple", data := .seq items.toList.reverse.toArray } })
    (hsz : items.size ≤ sizeLine) : wpAny (model prog w) A (getItem (.ref t) (.ref sl)) Q E s := by
  have htake : sizeOk (.seq items.toList.reverse.toArray) := by
    show items.toList.reverse.toArray.size ≤ sizeLine
    rw [List.size_toArray, List.length_reverse, Array.length_toList]
    exact hsz
  obtain ⟨os, hos, hcs, hds⟩ := id hs
  have hTs : s.TypeIs (.ref sl) "slice" := ⟨os, hos, hcs⟩
  unfold getItem
  try with_reducible refine wpAny_holding ?_
  first | refine wpAny_bind (wpAny_pure ?_) | skip
  refine wpAny_bind (wpAny_sequenceKey ht.typeIs (by decide) ?_)
  refine wpAny_bind (wpAny_callSpecial?_slot (name := Str.ofString "__getitem__") ht.typeIs PyProof.Rows.slot_tuple_getitem
    (wpAny_call_entry PyProof.Rows.slot_tuple_getitem ht.typeIs entry_tuple_getitem ?_ (args_tuple_getitem _ _)))
  show wpAny _ _ (Builtin.Tuple.tupleItemsOf (.ref t) >>= _) _ _ s
  refine wpAny_bind (tupleItemsOf_ ht ?_)
  refine wpAny_bind (wpAny_typeOf hTs ?_)
  rw [if_pos (by decide)]
  refine wpAny_bind (sliceApplied_rev hs ps ?_)
  have hno : ¬ (((((items.size : Nat) : Int) - 1) == 0 && (-1 : Int) == 1 && items.size == items.size) = true) := by
    intro q
    rw [Bool.and_eq_true, Bool.and_eq_true] at q
    exact absurd q.1.2 (by decide)
  show wpAny _ _ (if ((((items.size : Nat) : Int) - 1) == 0 && (-1 : Int) == 1 && items.size == items.size) = true then _ else _) _ _ s
  rw [if_neg hno, pick_rev]
  first
    | exact wpAny_bind (m := Builtin.Tuple.tupleExact _) (wpAny_newObj_type (wpAny_pure ⟨_, rfl, wpAny_pure h⟩) htake)
    | exact wpAny_bind (m := Builtin.Tuple.tupleExact _) (wpAny_newObj_type (wpAny_bind (wpAny_pure (wpAny_pure ⟨_, rfl, wpAny_pure h⟩))) htake)
    | exact wpAny_bind (wpAny_bind (m := Builtin.Tuple.tupleExact _) (wpAny_newObj_type (wpAny_pure (wpAny_pure ⟨_, rfl, wpAny_pure h⟩)) htake))
    | exact wpAny_bind (wpAny_bind (m := Builtin.Tuple.tupleExact _) (wpAny_newObj_type (wpAny_pure ⟨_, rfl, wpAny_pure h⟩) htake))
end
section
variable {X : Cx}
def tRevT (K : PySem.W.Frag) (te : TE) : TE := fun σ H Q => te σ H fun x H1 => ∃ a xs, x = .ref a ∧ SqT K H1 a xs ∧ ∀ p, H1 p = none → Q (.ref p) (upd H1 p (.tup xs.reverse))
theorem pe_revT {e : Expr} {te : TE} {k : Nat} {p1 p2 p3 pos : Pos} (he : PE X e te) : PE X (.Subscript e (.Slice none none (some (.UnaryOp .USub (.Constant (.int 1) k p1) p2)) p3) pos) (tRevT X.K te) := by
  refine ⟨fun pins s σ H Q I h => ?_⟩
  refine Subscript_ (thn (he.run pins s σ H _ I h) fun v s1 ⟨x, H1, I1, r1, q1⟩ => ?_)
  obtain ⟨a, xs, ex, hx, q⟩ := q1
  subst ex
  cases r1
  have hst : PO X (some (.UnaryOp .USub (.Constant (.int 1) k p1) p2)) (tPart (tUn (rU fun i => .int (-i)) (tC (.int 1)))) := po_some (pe_un un_neg pe_int)
  refine wpAny_Slice (thn (po_none.run pins s1 σ H1 (fun o H2 => o = none ∧ H2 = H1) I1 ⟨rfl, rfl⟩) fun vl s2 ⟨l, H2, I2, pl, el, e2⟩ => ?_)
  subst el e2
  refine thn (po_none.run pins s2 σ H2 (fun o H3 => o = none ∧ H3 = H2) I2 ⟨rfl, rfl⟩) fun vu s3 ⟨u, H3, I3, pu, eu, e3⟩ => ?_
  subst eu e3
  refine thn (hst.run pins s3 σ H3 (fun o H4 => o = some (-1) ∧ H4 = H3) I3 ⟨1, rfl, -1, rfl, rfl, rfl⟩) fun vs s4 ⟨o, H4, I4, ps, eo, e4⟩ => ?_
  subst eo e4
  cases pl
  cases pu
  have I5 : Inv X pins σ H4 { s4 with heap := s4.heap.push { cls := .type "slice", data := .fields #[.none, .none, vs] } } := I4.kept (t' := s4.toks) fun b ob q => Heap.get?_push_of_some _ q
  obtain ⟨its, r, ht, hz⟩ := I5.tuple hx
  have hlen := r.length
  show wpAny (model X.prog X.w) X.A (subscriptTail e (.Slice none none (some (.UnaryOp .USub (.Constant (.int 1) k p1) p2)) p3) (.ref a) (.ref s4.heap.objs.size)) (EP X pins σ Q) X.xe { s4 with heap := s4.heap.push { cls := .type "slice", data := .fields #[.none, .none, vs] } }
  refine tail_any (ops := [.ref a, .ref s4.heap.objs.size]) ht.typeIs PyProof.Rows.slot_tuple_getitem.lookup ?_ (by with_unfolding_all rfl)
  refine getItem_tuple_rev ht (Heap.IsSliceOf.new _ .none .none vs) ps ?_ (by rw [List.size_toArray]; omega)
  refine ⟨.ref _, _, I5.laid (t' := s4.toks) (o := .tup xs.reverse) (fun b ob q => Heap.get?_push_of_some _ q) (Nat.le_refl _) ?_, rfl, q _ (I5.hok.fresh (Nat.le_refl _))⟩
  exact ⟨by rw [List.length_reverse]; exact hz, _, r.reverse, IsTup.new _ _⟩
end
end Jl

set_option Elab.async false
set_option linter.all false
set_option maxRecDepth 100000
set_option maxHeartbeats 1000000
set_option pp.maxSteps 300
namespace Jl
open PySem PySem.Spec PyProof.Rows L2
open Evl (sz_of sz_lt)
local macro_rules | `(tactic| walk_at "at") => `(tactic| first | exact box0 | exact box1 | exact box2)
local macro_rules | `(tactic| walk_at "sq") => `(tactic| first | (show SqL _ _ _ _; assumption) | (show SqT _ _ _ _; assumption) | (show _ = some _; assumption))
local macro_rules | `(tactic| walk_at "side") => `(tactic| first
  | (show (0 : Int) < _; decide)
  | (show (0 : Int) < _; omega)
  | exact ⟨by decide, by decide, by decide⟩
  | exact sz_of (Nat.le_of_ble_eq_true rfl)
  | exact rfl
  | exact Or.inl (by decide)
  | exact Or.inr (by decide)
  | exact Or.inr ⟨by omega, by omega⟩
  | exact Or.inl ⟨by omega, by omega⟩
  | exact ⟨by decide, by decide +kernel⟩)
local macro_rules | `(tactic| walk_at "ev1") => `(tactic| first
  | refine ⟨_, rfl, ?_⟩
  | refine ⟨_, _, rfl, rfl, ?_⟩
  | refine ⟨_, _, _, _, rfl, rfl, (by walk_at "sq"), (by walk_at "at"), ?_⟩
  | refine ⟨_, _, rfl, (by walk_at "sq"), ?_⟩
  | refine ⟨_, _, rfl, Or.inl (by walk_at "sq"), ?_⟩
  | refine ⟨_, _, rfl, Or.inr (by walk_at "sq"), ?_⟩
  | refine Or.inl ⟨_, rfl, ?_⟩
  | refine Or.inr ⟨_, rfl, ?_⟩
  | refine ⟨(by walk_at "side"), ?_⟩
  | refine ⟨.inl ⟨rfl, _, (by walk_at "sq")⟩, ?_⟩
  | refine ⟨_, _, rfl, ?_⟩)
local macro_rules | `(tactic| walk_at "nrm") => `(tactic| dsimp only [tNil, tCons, tC, tCB])
local macro_rules | `(tactic| walk_at "ev") => `(tactic| repeat (walk_at "ev1"))

abbrev sc_w_of_N : List Str := ["_law_box_here", "_law_some"]
abbrev s_w_of : Stmt := topS 14
theorem sc_w_of : FnScope ["_law_box_here", "_law_some"] ["_law_box_here", "_law_some"] (defScope s_w_of) := ⟨rfl, rfl, rfl, by decide +kernel, rfl, by decide +kernel, by decide +kernel⟩
/-! ### data of bounded depth, width and texts -/
def okT : Nat → PyData → Prop
  | 0, _ => False
  | n + 1, .list ds => ds.length ≤ 1000 ∧ ∀ d ∈ ds, okT n d
  | n + 1, .tuple ds => ds.length ≤ 1000 ∧ ∀ d ∈ ds, okT n d
  | _ + 1, .dict _ => False
  | _ + 1, .str x => x.cps.size ≤ 1000 ∧ PyData.strOk x = true
  | _ + 1, _ => True
theorem okT_seq {n : Nat} {f : Bool} {ds : List PyData} : okT (n + 1) (seqD f ds) ↔ ds.length ≤ 1000 ∧ ∀ d ∈ ds, okT n d := by
  cases f <;> exact Iff.rfl
theorem okT_okD : ∀ {n : Nat} {d : PyData}, okT n d → okD n d
  | n + 1, .none, _ => trivial
  | n + 1, .bool _, _ => trivial
  | n + 1, .int _, _ => trivial
  | n + 1, .str _, _ => trivial
  | n + 1, .list ds, h => ⟨h.1, fun d hd => okT_okD (h.2 d hd)⟩
  | n + 1, .tuple ds, h => ⟨h.1, fun d hd => okT_okD (h.2 d hd)⟩
theorem okT_can : ∀ {n : Nat} {d : PyData}, okT n d → d.canLay0 = true
  | n + 1, .none, _ => by simp [PyData.canLay0]
  | n + 1, .bool _, _ => by simp [PyData.canLay0]
  | n + 1, .int _, _ => by simp [PyData.canLay0]
  | n + 1, .str _, h => by rw [PyData.canLay0]; exact h.2
  | n + 1, .list ds, h => can_seq (f := false) fun d hd => okT_can (h.2 d hd)
  | n + 1, .tuple ds, h => can_seq (f := true) fun d hd => okT_can (h.2 d hd)
theorem okT_dep : ∀ {n : Nat} {d : PyData}, okT n d → d.depth ≤ n
  | n + 1, .none, _ => by simp [PyData.depth]
  | n + 1, .bool _, _ => by simp [PyData.depth]
  | n + 1, .int _, _ => by simp [PyData.depth]
  | n + 1, .str _, h => by simp [PyData.depth]
  | n + 1, .list ds, h => dep_seq (f := false) fun d hd => okT_dep (h.2 d hd)
  | n + 1, .tuple ds, h => dep_seq (f := true) fun d hd => okT_dep (h.2 d hd)
theorem okT_mono : ∀ {n m : Nat} {d : PyData}, n ≤ m → okT n d → okT m d
  | n + 1, m + 1, .none, _, _ => trivial
  | n + 1, m + 1, .bool _, _, _ => trivial
  | n + 1, m + 1, .int _, _, _ => trivial
  | n + 1, m + 1, .str _, _, h => h
  | n + 1, m + 1, .list ds, e, h => ⟨h.1, fun d hd => okT_mono (by omega) (h.2 d hd)⟩
  | n + 1, m + 1, .tuple ds, e, h => ⟨h.1, fun d hd => okT_mono (by omega) (h.2 d hd)⟩
  | n + 1, 0, _, e, _ => absurd e (by omega)
theorem okT_shaped {n : Nat} {d : PyData} (h : okT n d) (hn : n ≤ 60) : SeqAt.shaped d = true := by
  have h2 := okT_dep h
  unfold SeqAt.shaped
  rw [okT_can h, decide_eq_true (show d.depth ≤ 64 by omega)]
  rfl
def okTB : Nat → PyData → Bool
  | 0, _ => false
  | n + 1, .list ds => decide (ds.length ≤ 1000) && ds.all (okTB n)
  | n + 1, .tuple ds => decide (ds.length ≤ 1000) && ds.all (okTB n)
  | _ + 1, .dict _ => false
  | _ + 1, .str x => decide (x.cps.size ≤ 1000) && PyData.strOk x
  | _ + 1, _ => true
theorem okTB_ok : ∀ {n : Nat} {d : PyData}, okTB n d = true → okT n d
  | n + 1, .none, _ => trivial
  | n + 1, .bool _, _ => trivial
  | n + 1, .int _, _ => trivial
  | n + 1, .str x, h => by
    have h : (decide (x.cps.size ≤ 1000) && PyData.strOk x) = true := h
    rw [Bool.and_eq_true] at h
    exact ⟨of_decide_eq_true h.1, h.2⟩
  | n + 1, .list ds, h => by
    have h : (decide (ds.length ≤ 1000) && ds.all (okTB n)) = true := h
    rw [Bool.and_eq_true, List.all_eq_true] at h
    exact ⟨of_decide_eq_true h.1, fun d hd => okTB_ok (h.2 d hd)⟩
  | n + 1, .tuple ds, h => by
    have h : (decide (ds.length ≤ 1000) && ds.all (okTB n)) = true := h
    rw [Bool.and_eq_true, List.all_eq_true] at h
    exact ⟨of_decide_eq_true h.1, fun d hd => okTB_ok (h.2 d hd)⟩
def GoodV (n : Nat) (K : PySem.W.Frag) (H : Hp) (v : V) : Prop := ∃ d, Dp K H v d ∧ okT n d
theorem GoodV.same {n : Nat} {K : PySem.W.Frag} {H H' : Hp} {v : V} (h : GoodV n K H v) (e : Same H H') : GoodV n K H' v := by
  obtain ⟨d, h1, h2⟩ := h
  exact ⟨d, e.dp h1, h2⟩
theorem GoodV.mono {n m : Nat} {K : PySem.W.Frag} {H : Hp} {v : V} (h : GoodV n K H v) (e : n ≤ m) : GoodV m K H v := by
  obtain ⟨d, h1, h2⟩ := h
  exact ⟨d, h1, okT_mono e h2⟩
theorem goods_of {n : Nat} {K : PySem.W.Frag} {H : Hp} : ∀ {xs : List V}, (∀ x ∈ xs, GoodV n K H x) → ∃ ds, DpAll K H xs ds ∧ ∀ d ∈ ds, okT n d
  | [], _ => ⟨[], .nil, fun d h => absurd h List.not_mem_nil⟩
  | x :: xs, h => by
    obtain ⟨d, h1, h2⟩ := h x List.mem_cons_self
    obtain ⟨ds, h3, h4⟩ := goods_of (xs := xs) fun y hy => h y (List.mem_cons_of_mem _ hy)
    refine ⟨d :: ds, .cons h1 h3, fun e he => ?_⟩
    rcases List.mem_cons.mp he with e1 | he
    · rw [e1]
      exact h2
    · exact h4 e he
theorem goodV_of {n : Nat} {K : PySem.W.Frag} {H : Hp} {vs : List V} {ds : List PyData} (h : DpAll K H vs ds) (hg : ∀ d ∈ ds, okT n d) : ∀ v ∈ vs, GoodV n K H v := fun v hv => by
  obtain ⟨i, hi, rfl⟩ := List.getElem_of_mem hv
  obtain ⟨d, hd, hd2⟩ := dpa_get h (List.getElem?_eq_getElem hi)
  exact ⟨d, hd2, hg d (List.mem_of_getElem? hd)⟩
theorem cutV_mem {xs : List V} {lo hi : Option Int} {x : V} (h : x ∈ cutV xs lo hi) : x ∈ xs := List.mem_of_mem_drop (List.mem_of_mem_take h)
theorem slA_to {K : PySem.W.Frag} {H : Hp} {b c : Addr} {xs : List V} {lo hi : Option Int} {Q : VK} (hs : SqT K (cutS [b] H) c xs) (t : Trk [b] H) (q : ∀ H' r, Same H H' → SqT K (cutS [b] H') r (cutV xs lo hi) → Q (.ref r) H') : rSlA K (.ref c) lo hi H Q :=
  ⟨c, xs, rfl, cutS_le.sqT hs, fun ⟨w1, w2⟩ => q H c (fun _ _ e => e) (by
    have e : cutV xs lo hi = xs := by
      unfold cutV
      rw [w1, w2, Nat.sub_zero, List.drop_zero, List.take_length]
    rw [e]
    exact hs), fun _ p hp => q _ p (.upd hp) (sqt_of (cutS_new t hp))⟩
theorem catA_to {K : PySem.W.Frag} {H : Hp} {b c d : Addr} {xs ys : List V} {Q : VK} (hx : SqT K (cutS [b] H) c xs) (hy : SqT K (cutS [b] H) d ys) (t : Trk [b] H) (hl : xs.length + ys.length ≤ sizeLine)
    (q : ∀ H' r, Same H H' → SqT K (cutS [b] H') r (xs ++ ys) → Q (.ref r) H') : rCatA K (.ref c) (.ref d) H Q :=
  ⟨c, d, xs, ys, rfl, rfl, cutS_le.sqT hx, cutS_le.sqT hy, hl, fun e => q H d (fun _ _ e => e) (by rw [e]; exact hy), fun _ e => q H c (fun _ _ e => e) (by rw [e, List.append_nil]; exact hx), fun _ _ p hp => q _ p (.upd hp) (sqt_of (cutS_new t hp))⟩
section
variable {P : Program} {w : World} {K : PySem.W.Frag} {mg : Str → Option Value} {base : Heap}
/-- _law_of(box, some): one of them -/
def spOf (K : PySem.W.Frag) : Sp := fun vs H Q _ => ∃ (b a : Addr) (bx : List V) (N : Nat) (fb : Bool) (xs : List V), vs = [.ref b, .ref a] ∧ H b = some (.lst bx) ∧ BoxL bx N ∧ N < 2 ^ 60 ∧ SqF fb K (cutS [b] H) a xs ∧ 1 ≤ xs.length ∧ xs.length ≤ 1000 ∧
  ∀ v bx', v ∈ xs → BoxL bx' (N + 1) → Q v (upd H b (.lst bx'))
theorem ok_of {f fT : Addr} {fd fdT : FuncData} {k : Nat} (F : Fun K "_law_of" "_law_of" s_w_of f fd) (G_w_take : FnOk P w K mg base CX0 k fT fdT ["_law_box_here", "_law_below"] spTake2) (g_w_take : mg "_law_take" = some (.ref fT)) (F_w_take : Fun K "_law_take" "_law_take" s_w_take fT fdT) (b_w_take : Binds K fdT ["_law_box_here", "_law_below"] [])
    (m_len : mg "len" = none) : FnOk P w K mg base CX0 (k + 1) f fd ["_law_box_here", "_law_some"] (spOf K) := by
  refine F.ok sc_w_of (fun vs H Q E h => ?_) (fun cdv A outer s0 H vs Q E hr h => ?_)
  · obtain ⟨b, a, bx, N, fb, xs, rfl, _⟩ := h
    rfl
  · obtain ⟨b, a, bx, N, fb, xs, rfl, hb, hB, hN, hs, l1, l2, q⟩ := h
    refine ⟨_, (pss_one (ps_ret (pe_ix ix_lt (pv 1) (pe_call G_w_take hr (by rfl) g_w_take F_w_take.kp b_w_take .nil pass0 (pa_cons (pv 0) (pa_cons (pe_callB call_len_seq (by rfl) m_len PySem.boot_len (pa_cons (pv 1) pa_nil)) pa_nil))) (fun _ _ => rfl)))), ?_⟩
    walk_at "ev"
    refine ⟨a, xs, rfl, (cutS_le.sqF hs).or, ?_⟩
    walk_at "ev"
    refine ⟨b, _, bx, N, rfl, hb, hB, hN, by omega, small8000 (by omega), fun r bx' r0 r1 hB' => ?_⟩
    obtain ⟨i, rfl⟩ : ∃ i : Nat, r = (i : Int) := ⟨r.toNat, by omega⟩
    have hi : i < xs.length := by omega
    have ec : Same (cutS [b] (upd H b (.lst bx'))) (upd H b (.lst bx')) := cutS_le
    have hs2 : SqF fb K (upd H b (.lst bx')) a xs := ec.sqF (by rw [cutS_upd List.mem_cons_self]; exact hs)
    exact rIxF_at hs2 (atI_nat (List.getElem?_eq_getElem hi)) (q _ _ (List.getElem_mem hi) hB')
end
end Jl

set_option Elab.async false
set_option linter.all false
set_option maxRecDepth 100000
set_option maxHeartbeats 1000000
set_option pp.maxSteps 300
namespace Jl
open PySem PySem.Spec PyProof.Rows L2
open Evl (sz_of sz_lt)
local macro_rules | `(tactic| walk_at "at") => `(tactic| first | exact box0 | exact box1 | exact box2)
local macro_rules | `(tactic| walk_at "sq") => `(tactic| first | (show SqL _ _ _ _; assumption) | (show SqT _ _ _ _; assumption) | (show _ = some _; assumption))
local macro_rules | `(tactic| walk_at "side") => `(tactic| first
  | (show (0 : Int) < _; decide)
  | (show (0 : Int) < _; omega)
  | exact ⟨by decide, by decide, by decide⟩
  | exact sz_of (Nat.le_of_ble_eq_true rfl)
  | exact rfl
  | exact Or.inl (by decide)
  | exact Or.inr (by decide)
  | exact Or.inr ⟨by omega, by omega⟩
  | exact Or.inl ⟨by omega, by omega⟩
  | exact ⟨by decide, by decide +kernel⟩)
local macro_rules | `(tactic| walk_at "ev1") => `(tactic| first
  | refine ⟨_, rfl, ?_⟩
  | refine ⟨_, _, rfl, rfl, ?_⟩
  | refine ⟨_, _, _, _, rfl, rfl, (by walk_at "sq"), (by walk_at "at"), ?_⟩
  | refine ⟨_, _, rfl, (by walk_at "sq"), ?_⟩
  | refine ⟨_, _, rfl, Or.inl (by walk_at "sq"), ?_⟩
  | refine ⟨_, _, rfl, Or.inr (by walk_at "sq"), ?_⟩
  | refine Or.inl ⟨_, rfl, ?_⟩
  | refine Or.inr ⟨_, rfl, ?_⟩
  | refine ⟨(by walk_at "side"), ?_⟩
  | refine ⟨.inl ⟨rfl, _, (by walk_at "sq")⟩, ?_⟩
  | refine ⟨_, _, rfl, ?_⟩)
local macro_rules | `(tactic| walk_at "nrm") => `(tactic| dsimp only [tNil, tCons, tC, tCB])
local macro_rules | `(tactic| walk_at "ev") => `(tactic| repeat (walk_at "ev1"))

abbrev sc_w_spoilt_N : List Str := ["_law_box_here", "_law_matter", "_law_pool", "_law_deep", "_law_k", "_law_way_so"]
abbrev s_w_spoilt : Stmt := topS 22
theorem sc_w_spoilt : FnScope ["_law_box_here", "_law_matter", "_law_pool", "_law_deep", "_law_k", "_law_way_so"] ["_law_box_here", "_law_matter", "_law_pool", "_law_deep"] (defScope s_w_spoilt) := ⟨rfl, rfl, rfl, by decide +kernel, rfl, by decide +kernel, by decide +kernel⟩
theorem decV2 {a b : Int} : decide (V.int a = V.int b) = decide (a = b) := decide_eq_decide.mpr ⟨V.int.inj, congrArg _⟩
theorem kTL {K : PySem.W.Frag} {d : PyData} (h : isT d = false) (h2 : ∀ ds, d ≠ .list ds) : PySem.W.kitAny K (.type (tyD d)) [.type "tuple", .type "list"] = some false := by
  have no : ∀ s : String, kitB s "list" = some false → kitB s "tuple" = some false → PySem.W.kitAny K (.type s) [.type "tuple", .type "list"] = some false := fun s h1 h2 =>
    kitAny_cons (kit_ty h2) (fun _ => kitAny_cons (kit_ty h1) (fun _ => kitAny_nil) (fun z => nomatch z)) (fun z => nomatch z)
  cases d with
  | none => exact no "NoneType" (by decide +kernel) (by decide +kernel)
  | bool b => exact no "bool" (by decide +kernel) (by decide +kernel)
  | int i => exact no "int" (by decide +kernel) (by decide +kernel)
  | str x => exact no "str" (by decide +kernel) (by decide +kernel)
  | list ds => exact absurd rfl (h2 ds)
  | tuple ds => cases h
  | dict _ => exact no "dict" (by decide +kernel) (by decide +kernel)
theorem kTT {K : PySem.W.Frag} {ds : List PyData} : PySem.W.kitAny K (.type (tyD (.tuple ds))) [.type "tuple", .type "list"] = some true :=
  kitAny_cons (b := true) (kit_ty (a := "tuple") (b := "tuple") (by decide +kernel)) (fun z => nomatch z) (fun _ => rfl)
/-- tuples alone, to a depth -/
def tupD : Nat → PyData → Prop
  | 0, _ => True
  | _ + 1, .list _ => False
  | n + 1, .tuple ds => ds.length ≤ 300 ∧ ∀ d ∈ ds, tupD n d
  | _ + 1, _ => True
section
variable {P : Program} {w : World} {K : PySem.W.Frag} {mg : Str → Option Value} {base : Heap}
/-- _law_spoilt(box, matter, pool, deep) -/
def spSpoilt (K : PySem.W.Frag) (j : Nat) : Sp := fun vs H Q _ => ∃ (b a : Addr) (v : V) (bx : List V) (N : Nat) (d : PyData) (ys : List V), vs = [.ref b, v, .ref a, .int (j : Int)] ∧ H b = some (.lst bx) ∧ BoxL bx N ∧ N + 100 * j < 2 ^ 59 ∧ Dp K (cutS [b] H) v d ∧ okT (j + 1) d ∧ tupD (j + 1) d ∧
  SqL K (cutS [b] H) a ys ∧ (∀ y ∈ ys, GoodV 2 K (cutS [b] H) y) ∧ 1 ≤ ys.length ∧ ys.length ≤ 900 ∧
  ∀ (H' : Hp) (v' : V) (d' : PyData) (bx' : List V), Dp K (cutS [b] H') v' d' → okT (j + 2) d' → H' b = some (.lst bx') → BoxL bx' (N + 10 * (j + 1)) → Same (cutS [b] H) (cutS [b] H') → Q v' H'
theorem ok_spoilt {f fT fO : Addr} {fd fdT fdO : FuncData} (F_w_spoilt : Fun K "_law_spoilt" "_law_spoilt" s_w_spoilt f fd) (g_w_spoilt : mg "_law_spoilt" = some (.ref f)) (b_w_spoilt : Binds K fd ["_law_box_here", "_law_matter", "_law_pool", "_law_deep"] [])
    (GT : FnOk P w K mg base CX0 2 fT fdT ["_law_box_here", "_law_below"] spTake2) (g_w_take : mg "_law_take" = some (.ref fT)) (F_w_take : Fun K "_law_take" "_law_take" s_w_take fT fdT) (b_w_take : Binds K fdT ["_law_box_here", "_law_below"] [])
    (GO : FnOk P w K mg base CX0 2 fO fdO ["_law_box_here", "_law_some"] (spOf K)) (g_w_of : mg "_law_of" = some (.ref fO)) (F_w_of : Fun K "_law_of" "_law_of" s_w_of fO fdO) (b_w_of : Binds K fdO ["_law_box_here", "_law_some"] [])
    (m_len : mg "len" = none) (m_list : mg "list" = none) (m_tuple : mg "tuple" = none) (m_isinstance : mg "isinstance" = none) : ∀ j : Nat, FnOk P w K mg base CX0 (j + 3) f fd ["_law_box_here", "_law_matter", "_law_pool", "_law_deep"] (spSpoilt K j)
  | 0 => by
    have G_w_spoilt : FnOk P w K mg base CX0 2 f fd ["_law_box_here", "_law_matter", "_law_pool", "_law_deep"] (fun _ _ _ _ => False) := fnok_no
    have G_w_take := GT
    have G_w_of := GO
    refine F_w_spoilt.ok sc_w_spoilt (fun vs H Q E h => ?_) (fun cdv A outer s0 H vs Q E hr h => ?_)
    · obtain ⟨b, a, v, bx, N, d, ys, rfl, _⟩ := h
      rfl
    · obtain ⟨b, a, v, bx, N, d, ys, rfl, hb, hB, hN, hD, hk, htd, hp, hpg, p1, p2, q⟩ := h
      refine ⟨_, (pss_cons (ps_if (PW.pt (pw_or (pt_cmpR op_eq (pv 3) pe_int (nomark _)) (pw_or (pt_not (pt_val (pe_callB call_isiT (by rfl) m_isinstance (by decide +kernel) (pa_cons (pv 1) (pa_cons (pe_tup (pa_cons (pe_bltn (v := .ty "tuple") (u := .type "tuple") (by rfl) m_tuple (by decide +kernel) rfl) (pa_cons (pe_bltn (v := .ty "list") (u := .type "list") (by rfl) m_list (by decide +kernel) rfl) pa_nil))) pa_nil))))) (pw_or (pt_cmpR op_eq (pe_callB call_len_seq (by rfl) m_len PySem.boot_len (pa_cons (pv 1) pa_nil)) pe_int (nomark _)) (pw_or1 (pt_cmpR op_eq (pe_call G_w_take hr (by rfl) g_w_take F_w_take.kp b_w_take .nil pass0 (pa_cons (pv 0) (pa_cons pe_int pa_nil))) pe_int (nomark _))))))) (pss_one (ps_ret (pe_call G_w_of hr (by rfl) g_w_of F_w_of.kp b_w_of .nil pass0 (pa_cons (pv 0) (pa_cons (pv 2) pa_nil))))) pss_nil) 
    (pss_cons (ps_set (i := 4) sc_w_spoilt.nd rfl (Or.inl rfl) (pe_call G_w_take hr (by rfl) g_w_take F_w_take.kp b_w_take .nil pass0 (pa_cons (pv 0) (pa_cons (pe_callB call_len_seq (by rfl) m_len PySem.boot_len (pa_cons (pv 1) pa_nil)) pa_nil)))) 
    (pss_cons (ps_set (i := 5) sc_w_spoilt.nd rfl (Or.inl rfl) (pe_call G_w_take hr (by rfl) g_w_take F_w_take.kp b_w_take .nil pass0 (pa_cons (pv 0) (pa_cons pe_int pa_nil)))) 
    (pss_cons (ps_if (pt_cmpR op_eq (pv 5) pe_int (nomark _)) (pss_one (ps_ret (pe_op op_catA (pe_slice sl_tupA (pv 1) po_none (po_some (pv 4))) (pe_slice sl_tupA (pv 1) (po_some (pe_op op_add (pv 4) pe_int)) po_none)))) pss_nil) 
    (pss_cons (ps_if (pt_cmpR op_eq (pv 5) pe_int (nomark _)) (pss_one (ps_ret (pe_op op_catA (pe_op op_catA (pe_slice sl_tupA (pv 1) po_none (po_some (pv 4))) (pe_tup (pa_cons (pe_ix ix_tup (pv 1) (pv 4) (fun _ _ => rfl)) pa_nil))) (pe_slice sl_tupA (pv 1) (po_some (pv 4)) po_none)))) pss_nil) 
    (pss_cons (ps_if (pt_cmpR op_eq (pv 5) pe_int (nomark _)) (pss_one (ps_ret (pe_revT (pv 1)))) pss_nil) 
    (pss_cons (ps_if (pt_cmpR op_eq (pv 5) pe_int (nomark _)) (pss_one (ps_ret (pe_callTy call_list_of (by rfl) m_list (by decide +kernel) (pa_cons (pv 1) pa_nil)))) pss_nil) 
    (pss_one (ps_ret (pe_op op_catA (pe_op op_catA (pe_slice sl_tupA (pv 1) po_none (po_some (pv 4))) (pe_tup (pa_cons (pe_call G_w_spoilt hr (by rfl) g_w_spoilt F_w_spoilt.kp b_w_spoilt .nil pass0 (pa_cons (pv 0) (pa_cons (pe_ix ix_tup (pv 1) (pv 4) (fun _ _ => rfl)) (pa_cons (pv 2) (pa_cons (pe_op op_sub (pv 3) pe_int) pa_nil))))) pa_nil))) (pe_slice sl_tupA (pv 1) (po_some (pe_op op_add (pv 4) pe_int)) po_none))))))))))), ?_⟩
      walk_at "ev"
      try dsimp only [tC, tNil]
      refine ⟨b, a, bx, N, false, ys, rfl, hb, hB, by omega, hp, p1, by omega, fun v' bx' hv hB' => ?_⟩
      obtain ⟨d', g1, g2⟩ := hpg v' hv
      have eC : cutS [b] (upd H b (.lst bx')) = cutS [b] H := cutS_upd List.mem_cons_self
      exact q _ v' d' bx' (by rw [eC]; exact g1) g2 upd_same (hB'.mono (by omega)) (by rw [eC]; exact fun _ _ e => e)
  | j + 1 => by
    have G_w_spoilt := ok_spoilt F_w_spoilt g_w_spoilt b_w_spoilt GT g_w_take F_w_take b_w_take GO g_w_of F_w_of b_w_of m_len m_list m_tuple m_isinstance j
    have G_w_take := GT.mono (by omega : 2 ≤ j + 3)
    have G_w_of := GO.mono (by omega : 2 ≤ j + 3)
    refine F_w_spoilt.ok sc_w_spoilt (fun vs H Q E h => ?_) (fun cdv A outer s0 H vs Q E hr h => ?_)
    · obtain ⟨b, a, v, bx, N, d, ys, rfl, _⟩ := h
      rfl
    · obtain ⟨b, a, v, bx, N, d, ys, rfl, hb, hB, hN, hD, hk, htd, hp, hpg, p1, p2, q⟩ := h
      refine ⟨_, (pss_cons (ps_if (PW.pt (pw_or (pt_cmpR op_eq (pv 3) pe_int (nomark _)) (pw_or (pt_not (pt_val (pe_callB call_isiT (by rfl) m_isinstance (by decide +kernel) (pa_cons (pv 1) (pa_cons (pe_tup (pa_cons (pe_bltn (v := .ty "tuple") (u := .type "tuple") (by rfl) m_tuple (by decide +kernel) rfl) (pa_cons (pe_bltn (v := .ty "list") (u := .type "list") (by rfl) m_list (by decide +kernel) rfl) pa_nil))) pa_nil))))) (pw_or (pt_cmpR op_eq (pe_callB call_len_seq (by rfl) m_len PySem.boot_len (pa_cons (pv 1) pa_nil)) pe_int (nomark _)) (pw_or1 (pt_cmpR op_eq (pe_call G_w_take hr (by rfl) g_w_take F_w_take.kp b_w_take .nil pass0 (pa_cons (pv 0) (pa_cons pe_int pa_nil))) pe_int (nomark _))))))) (pss_one (ps_ret (pe_call G_w_of hr (by rfl) g_w_of F_w_of.kp b_w_of .nil pass0 (pa_cons (pv 0) (pa_cons (pv 2) pa_nil))))) pss_nil) 
    (pss_cons (ps_set (i := 4) sc_w_spoilt.nd rfl (Or.inl rfl) (pe_call G_w_take hr (by rfl) g_w_take F_w_take.kp b_w_take .nil pass0 (pa_cons (pv 0) (pa_cons (pe_callB call_len_seq (by rfl) m_len PySem.boot_len (pa_cons (pv 1) pa_nil)) pa_nil)))) 
    (pss_cons (ps_set (i := 5) sc_w_spoilt.nd rfl (Or.inl rfl) (pe_call G_w_take hr (by rfl) g_w_take F_w_take.kp b_w_take .nil pass0 (pa_cons (pv 0) (pa_cons pe_int pa_nil)))) 
    (pss_cons (ps_if (pt_cmpR op_eq (pv 5) pe_int (nomark _)) (pss_one (ps_ret (pe_op op_catA (pe_slice sl_tupA (pv 1) po_none (po_some (pv 4))) (pe_slice sl_tupA (pv 1) (po_some (pe_op op_add (pv 4) pe_int)) po_none)))) pss_nil) 
    (pss_cons (ps_if (pt_cmpR op_eq (pv 5) pe_int (nomark _)) (pss_one (ps_ret (pe_op op_catA (pe_op op_catA (pe_slice sl_tupA (pv 1) po_none (po_some (pv 4))) (pe_tup (pa_cons (pe_ix ix_tup (pv 1) (pv 4) (fun _ _ => rfl)) pa_nil))) (pe_slice sl_tupA (pv 1) (po_some (pv 4)) po_none)))) pss_nil) 
    (pss_cons (ps_if (pt_cmpR op_eq (pv 5) pe_int (nomark _)) (pss_one (ps_ret (pe_revT (pv 1)))) pss_nil) 
    (pss_cons (ps_if (pt_cmpR op_eq (pv 5) pe_int (nomark _)) (pss_one (ps_ret (pe_callTy call_list_of (by rfl) m_list (by decide +kernel) (pa_cons (pv 1) pa_nil)))) pss_nil) 
    (pss_one (ps_ret (pe_op op_catA (pe_op op_catA (pe_slice sl_tupA (pv 1) po_none (po_some (pv 4))) (pe_tup (pa_cons (pe_call G_w_spoilt hr (by rfl) g_w_spoilt F_w_spoilt.kp b_w_spoilt .nil pass0 (pa_cons (pv 0) (pa_cons (pe_ix ix_tup (pv 1) (pv 4) (fun _ _ => rfl)) (pa_cons (pv 2) (pa_cons (pe_op op_sub (pv 3) pe_int) pa_nil))))) pa_nil))) (pe_slice sl_tupA (pv 1) (po_some (pe_op op_add (pv 4) pe_int)) po_none))))))))))), ?_⟩
      have done : ∀ (Hc : Hp) (bxc : List V) (M : Nat), Hc b = some (.lst bxc) → BoxL bxc M → M ≤ N + 5 → Same (cutS [b] H) (cutS [b] Hc) → spOf K [.ref b, .ref a] Hc Q E := fun Hc bxc M hbc hBc hM eS =>
        ⟨b, a, bxc, M, false, ys, rfl, hbc, hBc, by omega, eS.sqL hp, p1, by omega, fun v' bx' hv hB' => by
          obtain ⟨d', g1, g2⟩ := hpg v' hv
          have eC : cutS [b] (upd Hc b (.lst bx')) = cutS [b] Hc := cutS_upd List.mem_cons_self
          exact q _ v' d' bx' (by rw [eC]; exact eS.dp g1) (okT_mono (by omega) g2) upd_same (hB'.mono (by omega)) (by rw [eC]; exact eS)⟩
      walk_at "ev"
      intro p hp0
      have e1 : Same H (upd H p (.tup [.ty "tuple", .ty "list"])) := .upd hp0
      have hp1 : (upd H p (.tup [.ty "tuple", .ty "list"])) p = some (.tup [.ty "tuple", .ty "list"]) := upd_same
      walk_at "nrm"
      generalize upd H p (.tup [.ty "tuple", .ty "list"]) = H1 at e1 hp1 ⊢
      have hb1 := e1 _ _ hb
      have hD1 : Dp K H1 v d := e1.dp (cutS_le.dp hD)
      have eS1 : Same (cutS [b] H) (cutS [b] H1) := cutS_mono e1
      cases hT : isT d with
      | false =>
        have hnl : ∀ ds, d ≠ .list ds := fun ds e => by
          subst e
          exact htd
        refine isi2 hD1 hp1 (fun t e => by rw [e]; exact kTL hT hnl) ?_
        walk_at "ev"
        try dsimp only [tC, tNil]
        exact done _ _ N hb1 hB (by omega) eS1
      | true =>
        obtain ⟨ds, rfl⟩ : ∃ ds, d = .tuple ds := by
          cases d <;> first | exact ⟨_, rfl⟩ | cases hT
        refine isi2 hD1 hp1 (fun t e => by rw [e]; exact kTT) ?_
        obtain ⟨hl3, htds⟩ : ds.length ≤ 300 ∧ ∀ d ∈ ds, tupD (j + 1) d := htd
        obtain ⟨c, xs, rfl, hs, hxs⟩ := Dp.seq_of (f := true) (eS1.dp hD)
        have hs : SqT K (cutS [b] H1) c xs := hs
        have lx := dpa_len hxs
        replace hp := eS1.sqL hp
        have hkd := (okT_seq (n := j + 1) (f := true) (ds := ds)).mp hk
        have hg : ∀ x ∈ xs, GoodV (j + 1) K (cutS [b] H1) x := goodV_of hxs hkd.2
        have hs1 : SqT K H1 c xs := cutS_le.sqT hs
        refine ⟨_, rfl, iteF ?_⟩
        walk_at "ev"
        rw [decV2]
        refine ite2 (fun e => ?_) (fun e => ?_)
        · refine iteT ?_
          walk_at "ev"
          try dsimp only [tC, tNil]
          exact done _ _ N hb1 hB (by omega) eS1
        · have hx0 : ¬ ((xs.length : Int) = 0) := fun z => e (decide_eq_true z)
          walk_at "ev"
          refine ⟨b, 5, bx, N, rfl, hb1, hB, by omega, by decide, small8000 (by decide), fun r0 bx0 _ _ hB0 => ?_⟩
          have eC0 : cutS [b] (upd H1 b (.lst bx0)) = cutS [b] H1 := cutS_upd List.mem_cons_self
          have hb0 : (upd H1 b (.lst bx0)) b = some (.lst bx0) := upd_same
          walk_at "nrm"
          generalize upd H1 b (.lst bx0) = H0 at eC0 hb0 ⊢
          rw [← eC0] at hs hg hp eS1
          have t0 : Trk [b] H0 := Trk.cons Trk.nil hb0
          walk_at "ev"
          refine ite2 (fun e => ?_) (fun e => ?_)
          · walk_at "ev"
            try dsimp only [tC, tNil]
            exact done _ _ (N + 1) hb0 hB0 (by omega) eS1
          · clear hs1
            have hs0 : SqT K H0 c xs := cutS_le.sqT hs
            walk_at "ev"
            try dsimp only [tNil]
            refine ⟨b, _, bx0, N + 1, rfl, hb0, hB0, by omega, by omega, small8000 (by omega), fun r2 bx2 r20 r21 hB2 => ?_⟩
            obtain ⟨k2, rfl⟩ : ∃ i : Nat, r2 = (i : Int) := ⟨r2.toNat, by omega⟩
            try dsimp only [tSeq, tAsg, gName]
            walk_at "ev"
            try dsimp only [tC, tNil]
            refine ⟨b, 9, bx2, N + 2, rfl, upd_same, hB2, by omega, by decide, small8000 (by decide), fun r bx1 r0 r1 hB1 => ?_⟩
            have eC : cutS [b] (upd (upd H0 b (.lst bx2)) b (.lst bx1)) = cutS [b] H0 := by rw [cutS_upd List.mem_cons_self, cutS_upd List.mem_cons_self]
            have hb3 : (upd (upd H0 b (.lst bx2)) b (.lst bx1)) b = some (.lst bx1) := upd_same
            try dsimp only [tC, tNil]
            generalize upd (upd H0 b (.lst bx2)) b (.lst bx1) = H3 at eC hb3 ⊢
            rw [← eC] at hs hg hp eS1
            have t3 : Trk [b] H3 := Trk.cons Trk.nil hb3
            have fin : ∀ (H' : Hp) (v : V) (f : Bool) (c' : Addr) (zs : List V) (bx' : List V), v = .ref c' → SqF f K (cutS [b] H') c' zs → (∀ z ∈ zs, GoodV (j + 2) K (cutS [b] H') z) → zs.length ≤ 1000 → H' b = some (.lst bx') → BoxL bx' (N + 10 * (j + 1 + 1)) → Same (cutS [b] H3) (cutS [b] H') → Q v H' := fun H' v f c' zs bx' ev h1 h2 h3 h4 h5 h6 => by
              obtain ⟨es, g1, g2⟩ := goods_of h2
              subst ev
              exact q H' _ (seqD f es) bx' (Dp.seq h1 g1) ((okT_seq (n := j + 2)).mpr ⟨by rw [← dpa_len g1]; exact h3, g2⟩) h4 h5 (eS1.trans h6)
            replace hg : ∀ x ∈ xs, GoodV (j + 2) K (cutS [b] H3) x := fun x hx => (hg x hx).mono (by omega)
            have hk2 : k2 < xs.length := by omega
            have hat : atI xs (k2 : Int) = some xs[k2] := atI_nat (List.getElem?_eq_getElem hk2)
            clear hs0 hB hB0 hb0 t0 e hp1 e1 hb1 hD1 done
            walk_at "ev"
            refine ite2 (fun e => ?_) (fun e => ?_)
            · have S0 : Same (cutS [b] H3) (cutS [b] H3) := fun _ _ e => e
              have t := t3
              have hb := hb3
              walk_at "ev"
              try dsimp only [tC, tNil, tNoPart]
              refine slA_to hs t fun G1 c1 s1 h1 => ?_
              replace hs := (cutS_mono s1).sqT hs
              replace S0 := S0.trans (cutS_mono s1)
              replace t := t.mono s1
              replace hb := s1 _ _ hb
              walk_at "ev"
              try dsimp only [tC, tNil, tNoPart]
              refine slA_to hs t fun G2 c2 s2 h2 => ?_
              replace hs := (cutS_mono s2).sqT hs
              replace h1 := (cutS_mono s2).sqT h1
              replace S0 := S0.trans (cutS_mono s2)
              replace t := t.mono s2
              replace hb := s2 _ _ hb
              walk_at "ev"
              try dsimp only [tC, tNil, tNoPart]
              refine catA_to h1 h2 t (Nat.le_of_lt (sz_lt (by (try simp only [List.length_append]); have q1 := cutV_length xs none (some (k2 : Int)); have q2 := cutV_length xs (some ((k2 : Int) + 1)) none; have q4 := cutV_length xs (some (k2 : Int)) none; (try simp only [List.length_cons, List.length_nil]); omega))) fun G3 c3 s3 h3 => ?_
              replace hs := (cutS_mono s3).sqT hs
              replace S0 := S0.trans (cutS_mono s3)
              replace t := t.mono s3
              replace hb := s3 _ _ hb
              refine fin _ _ true _ _ bx1 rfl h3 (fun z hz => ?_) (by (try simp only [List.length_append]); have q1 := cutV_length xs none (some (k2 : Int)); have q2 := cutV_length xs (some ((k2 : Int) + 1)) none; have q4 := cutV_length xs (some (k2 : Int)) none; (try simp only [List.length_cons, List.length_nil]); omega) hb (hB1.mono (by omega)) S0
              rcases List.mem_append.mp hz with hz | hz
              · exact (hg z (cutV_mem hz)).same S0
              · exact (hg z (cutV_mem hz)).same S0
            · walk_at "ev"
              refine ite2 (fun e => ?_) (fun e => ?_)
              · have S0 : Same (cutS [b] H3) (cutS [b] H3) := fun _ _ e => e
                have t := t3
                have hb := hb3
                walk_at "ev"
                try dsimp only [tC, tNil, tNoPart]
                refine slA_to hs t fun G1 c1 s1 h1 => ?_
                replace hs := (cutS_mono s1).sqT hs
                replace S0 := S0.trans (cutS_mono s1)
                replace t := t.mono s1
                replace hb := s1 _ _ hb
                walk_at "ev"
                try dsimp only [tC, tNil, tNoPart]
                refine ⟨c, xs, _, xs[k2], rfl, rfl, cutS_le.sqT hs, hat, ?_⟩
                have hgv : GoodV (j + 2) K (cutS [b] G1) xs[k2] := (hg _ (List.getElem_mem hk2)).same S0
                generalize xs[k2] = v at hgv ⊢
                walk_at "ev"
                intro p hp0
                have s2 : Same G1 (upd G1 p (.tup [v])) := .upd hp0
                have h2 : SqT K (cutS [b] (upd G1 p (.tup [v]))) p [v] := sqt_of (cutS_new t hp0)
                try dsimp only
                generalize upd G1 p (.tup [v]) = G2 at s2 h2 ⊢
                replace hs := (cutS_mono s2).sqT hs
                replace h1 := (cutS_mono s2).sqT h1
                replace hgv := hgv.same (cutS_mono s2)
                replace S0 := S0.trans (cutS_mono s2)
                replace t := t.mono s2
                replace hb := s2 _ _ hb
                walk_at "ev"
                try dsimp only [tC, tNil, tNoPart]
                refine catA_to h1 h2 t (Nat.le_of_lt (sz_lt (by (try simp only [List.length_append]); have q1 := cutV_length xs none (some (k2 : Int)); have q2 := cutV_length xs (some ((k2 : Int) + 1)) none; have q4 := cutV_length xs (some (k2 : Int)) none; (try simp only [List.length_cons, List.length_nil]); omega))) fun G3 c3 s3 h3 => ?_
                replace hs := (cutS_mono s3).sqT hs
                replace hgv := hgv.same (cutS_mono s3)
                replace S0 := S0.trans (cutS_mono s3)
                replace t := t.mono s3
                replace hb := s3 _ _ hb
                walk_at "ev"
                try dsimp only [tC, tNil, tNoPart]
                refine slA_to hs t fun G4 c4 s4 h4 => ?_
                replace hs := (cutS_mono s4).sqT hs
                replace h3 := (cutS_mono s4).sqT h3
                replace hgv := hgv.same (cutS_mono s4)
                replace S0 := S0.trans (cutS_mono s4)
                replace t := t.mono s4
                replace hb := s4 _ _ hb
                walk_at "ev"
                try dsimp only [tC, tNil, tNoPart]
                refine catA_to h3 h4 t (Nat.le_of_lt (sz_lt (by (try simp only [List.length_append]); have q1 := cutV_length xs none (some (k2 : Int)); have q2 := cutV_length xs (some ((k2 : Int) + 1)) none; have q4 := cutV_length xs (some (k2 : Int)) none; (try simp only [List.length_cons, List.length_nil]); omega))) fun G5 c5 s5 h5 => ?_
                replace hs := (cutS_mono s5).sqT hs
                replace hgv := hgv.same (cutS_mono s5)
                replace S0 := S0.trans (cutS_mono s5)
                replace t := t.mono s5
                replace hb := s5 _ _ hb
                refine fin _ _ true _ _ bx1 rfl h5 (fun z hz => ?_) (by (try simp only [List.length_append]); have q1 := cutV_length xs none (some (k2 : Int)); have q2 := cutV_length xs (some ((k2 : Int) + 1)) none; have q4 := cutV_length xs (some (k2 : Int)) none; (try simp only [List.length_cons, List.length_nil]); omega) hb (hB1.mono (by omega)) S0
                rcases List.mem_append.mp hz with hz | hz
                · rcases List.mem_append.mp hz with hz | hz
                  · exact (hg z (cutV_mem hz)).same S0
                  · rw [List.mem_singleton.mp hz]
                    exact hgv
                · exact (hg z (cutV_mem hz)).same S0
              · walk_at "ev"
                refine ite2 (fun e => ?_) (fun e => ?_)
                · walk_at "ev"
                  refine ⟨c, xs, rfl, cutS_le.sqT hs, fun p hp0 => ?_⟩
                  refine fin _ _ true p _ bx1 rfl (sqt_of (cutS_new t3 hp0)) (fun z hz => (hg z (List.mem_reverse.mp hz)).same (cutS_mono (.upd hp0))) (by rw [List.length_reverse]; omega) ((Same.upd hp0) _ _ hb3) (hB1.mono (by omega)) (cutS_mono (.upd hp0))
                · walk_at "ev"
                  refine ite2 (fun e => ?_) (fun e => ?_)
                  · walk_at "ev"
                    refine ⟨c, xs, rfl, .inr (cutS_le.sqT hs), fun p hp0 => ?_⟩
                    refine fin _ _ false p _ bx1 rfl (sql_of (cutS_new t3 hp0)) (fun z hz => (hg z hz).same (cutS_mono (.upd hp0))) (by omega) ((Same.upd hp0) _ _ hb3) (hB1.mono (by omega)) (cutS_mono (.upd hp0))
                  · have S0 : Same (cutS [b] H3) (cutS [b] H3) := fun _ _ e => e
                    have t := t3
                    have hb := hb3
                    walk_at "ev"
                    try dsimp only [tC, tNil, tNoPart]
                    refine slA_to hs t fun G1 c1 s1 h1 => ?_
                    replace hs := (cutS_mono s1).sqT hs
                    replace S0 := S0.trans (cutS_mono s1)
                    replace t := t.mono s1
                    replace hb := s1 _ _ hb
                    walk_at "ev"
                    try dsimp only [tC, tNil, tNoPart]
                    refine ⟨c, xs, _, xs[k2], rfl, rfl, cutS_le.sqT hs, hat, ?_⟩
                    obtain ⟨dv, hdv, hdk⟩ := dpa_get hxs (List.getElem?_eq_getElem hk2)
                    walk_at "ev"
                    have ej : (((j + 1 : Nat) : Int) - 1) = (j : Int) := by omega
                    have hS3 : Same (cutS [b] H1) (cutS [b] G1) := fun x o hx => S0 _ _ (by rw [eC, eC0]; exact hx)
                    refine ⟨b, a, xs[k2], bx1, N + 3, dv, ys, (by show [V.ref b, xs[k2], V.ref a, V.int (((j + 1 : Nat) : Int) - 1)] = _; rw [ej]), hb, hB1, by omega, hS3.dp hdk, hkd.2 dv (List.mem_of_getElem? hdv), htds dv (List.mem_of_getElem? hdv), S0.sqL hp, fun y hy => (hpg y hy).same (eS1.trans S0), p1, p2, fun GR v dr bxr hdr hkr hbr hBr hSr => ?_⟩
                    replace hs := hSr.sqT hs
                    replace h1 := hSr.sqT h1
                    replace S0 := S0.trans hSr
                    have hgv : GoodV (j + 2) K (cutS [b] GR) v := ⟨dr, hdr, hkr⟩
                    replace hb := hbr
                    replace t : Trk [b] GR := Trk.cons Trk.nil hb
                    walk_at "ev"
                    intro p hp0
                    have s2 : Same GR (upd GR p (.tup [v])) := .upd hp0
                    have h2 : SqT K (cutS [b] (upd GR p (.tup [v]))) p [v] := sqt_of (cutS_new t hp0)
                    try dsimp only
                    generalize upd GR p (.tup [v]) = G2 at s2 h2 ⊢
                    replace hs := (cutS_mono s2).sqT hs
                    replace h1 := (cutS_mono s2).sqT h1
                    replace hgv := hgv.same (cutS_mono s2)
                    replace S0 := S0.trans (cutS_mono s2)
                    replace t := t.mono s2
                    replace hb := s2 _ _ hb
                    walk_at "ev"
                    try dsimp only [tC, tNil, tNoPart]
                    refine catA_to h1 h2 t (Nat.le_of_lt (sz_lt (by (try simp only [List.length_append]); have q1 := cutV_length xs none (some (k2 : Int)); have q2 := cutV_length xs (some ((k2 : Int) + 1)) none; have q4 := cutV_length xs (some (k2 : Int)) none; (try simp only [List.length_cons, List.length_nil]); omega))) fun G3 c3 s3 h3 => ?_
                    replace hs := (cutS_mono s3).sqT hs
                    replace hgv := hgv.same (cutS_mono s3)
                    replace S0 := S0.trans (cutS_mono s3)
                    replace t := t.mono s3
                    replace hb := s3 _ _ hb
                    walk_at "ev"
                    try dsimp only [tC, tNil, tNoPart]
                    refine slA_to hs t fun G4 c4 s4 h4 => ?_
                    replace hs := (cutS_mono s4).sqT hs
                    replace h3 := (cutS_mono s4).sqT h3
                    replace hgv := hgv.same (cutS_mono s4)
                    replace S0 := S0.trans (cutS_mono s4)
                    replace t := t.mono s4
                    replace hb := s4 _ _ hb
                    walk_at "ev"
                    try dsimp only [tC, tNil, tNoPart]
                    refine catA_to h3 h4 t (Nat.le_of_lt (sz_lt (by (try simp only [List.length_append]); have q1 := cutV_length xs none (some (k2 : Int)); have q2 := cutV_length xs (some ((k2 : Int) + 1)) none; have q4 := cutV_length xs (some (k2 : Int)) none; (try simp only [List.length_cons, List.length_nil]); omega))) fun G5 c5 s5 h5 => ?_
                    replace hs := (cutS_mono s5).sqT hs
                    replace hgv := hgv.same (cutS_mono s5)
                    replace S0 := S0.trans (cutS_mono s5)
                    replace t := t.mono s5
                    replace hb := s5 _ _ hb
                    refine fin _ _ true _ _ bxr rfl h5 (fun z hz => ?_) (by (try simp only [List.length_append]); have q1 := cutV_length xs none (some (k2 : Int)); have q2 := cutV_length xs (some ((k2 : Int) + 1)) none; have q4 := cutV_length xs (some (k2 : Int)) none; (try simp only [List.length_cons, List.length_nil]); omega) hb (hBr.mono (by omega)) S0
                    rcases List.mem_append.mp hz with hz | hz
                    · rcases List.mem_append.mp hz with hz | hz
                      · exact (hg z (cutV_mem hz)).same S0
                      · rw [List.mem_singleton.mp hz]
                        exact hgv
                    · exact (hg z (cutV_mem hz)).same S0

end
end Jl

set_option Elab.async false
set_option linter.all false
set_option maxRecDepth 100000
set_option maxHeartbeats 1000000
set_option pp.maxSteps 300
namespace Jl
open PySem PySem.Spec PyProof.Rows L2
open Evl (sz_of sz_lt)
local macro_rules | `(tactic| walk_at "at") => `(tactic| first | exact box0 | exact box1 | exact box2)
local macro_rules | `(tactic| walk_at "sq") => `(tactic| first | (show SqL _ _ _ _; assumption) | (show SqT _ _ _ _; assumption) | (show _ = some _; assumption))
local macro_rules | `(tactic| walk_at "side") => `(tactic| first
  | (show (0 : Int) < _; decide)
  | (show (0 : Int) < _; omega)
  | exact ⟨by decide, by decide, by decide⟩
  | exact sz_of (Nat.le_of_ble_eq_true rfl)
  | exact rfl
  | exact Or.inl (by decide)
  | exact Or.inr (by decide)
  | exact Or.inr ⟨by omega, by omega⟩
  | exact Or.inl ⟨by omega, by omega⟩
  | exact ⟨by decide, by decide +kernel⟩)
local macro_rules | `(tactic| walk_at "ev1") => `(tactic| first
  | refine ⟨_, rfl, ?_⟩
  | refine ⟨_, _, rfl, rfl, ?_⟩
  | refine ⟨_, _, _, _, rfl, rfl, (by walk_at "sq"), (by walk_at "at"), ?_⟩
  | refine ⟨_, _, rfl, (by walk_at "sq"), ?_⟩
  | refine ⟨_, _, rfl, Or.inl (by walk_at "sq"), ?_⟩
  | refine ⟨_, _, rfl, Or.inr (by walk_at "sq"), ?_⟩
  | refine Or.inl ⟨_, rfl, ?_⟩
  | refine Or.inr ⟨_, rfl, ?_⟩
  | refine ⟨(by walk_at "side"), ?_⟩
  | refine ⟨.inl ⟨rfl, _, (by walk_at "sq")⟩, ?_⟩
  | refine ⟨_, _, rfl, ?_⟩)
local macro_rules | `(tactic| walk_at "nrm") => `(tactic| dsimp only [tNil, tCons, tC, tCB])
local macro_rules | `(tactic| walk_at "ev") => `(tactic| repeat (walk_at "ev1"))
theorem dpa_bools {K : PySem.W.Frag} {H : Hp} {g : PyData → Bool} : ∀ {ds : List PyData} {ys : List V}, DpAll K H ys (ds.map fun d => .bool (g d)) → ys = (ds.map g).map V.bl
  | [], _, h => by
    cases h
    rfl
  | d :: ds, _, h => by
    cases h with
    | cons h1 h2 =>
      cases h1
      rw [dpa_bools h2]
      rfl
/-- a comprehension of bools over data -/
theorem lc_bools {K : PySem.W.Frag} {tl te : TE} {j : Nat} {vs : List Nat} {σ : L2.St} {H H0 : Hp} {Q : VK} {a : Addr} {fb : Bool} {xs : List V} {ds : List PyData} (g : PyData → Bool)
    (ht : ∀ R' : VK, R' (.ref a) H0 → tl σ H R') (hs : SqF fb K H0 a xs) (ha : DpAll K H0 xs ds) (hl : ds.length ≤ 1000)
    (hw : ∀ x, wipe ((wipe σ vs).set j (some x)) vs = wipe σ vs)
    (he : ∀ (x : V) (d : PyData) (H1 : Hp), d ∈ ds → Dp K H1 x d → ∀ Q' : VK, (∀ H2, Same H1 H2 → Q' (.bl (g d)) H2) → te ((wipe σ vs).set j (some x)) H1 Q')
    (q : ∀ D H', Same H0 H' → H' D = some (.lst ((ds.map g).map V.bl)) → Q (.ref D) H') : tLcX (iSeq K tl) (gName j) tYes te vs σ H Q :=
  lc_data (S := []) (fun d => .bool (g d)) ht hs (by rw [cutS_nil]; exact ha) Trk.nil hl hw (fun x d H1 T hd t1 hx Q' q' => he x d H1 hd (cutS_le.dp hx) Q' fun H2 s2 => q' H2 _ s2 (.bl _)) fun D ys H' s hD h2 h3 => q D H' s (by rw [h2, dpa_bools h3])
/-- a comprehension that keeps some of data -/
theorem lc_filtS {K : PySem.W.Frag} {tl : TE} {tt : TT} {j : Nat} {vs : List Nat} {σ : L2.St} {H H0 : Hp} {Q : VK} {a : Addr} {fb : Bool} {xs : List V} {ds : List PyData} (g : PyData → Bool)
    (ht : ∀ R' : VK, R' (.ref a) H0 → tl σ H R') (hs : SqF fb K H0 a xs) (ha : DpAll K H0 xs ds) (hl : ds.length ≤ 1000)
    (hw : ∀ x, wipe ((wipe σ vs).set j (some x)) vs = wipe σ vs) (hj : ∀ x, ((wipe σ vs).set j (some x))[j]? = some (some x))
    (he : ∀ (x : V) (d : PyData) (H1 : Hp), d ∈ ds → Same H0 H1 → Dp K H1 x d → ∀ Q' : Bool → Hp → Prop, (∀ H2, Same H1 H2 → Q' (g d) H2) → tt ((wipe σ vs).set j (some x)) H1 Q')
    (q : ∀ D ys H', Same H0 H' → H0 D = none → H' D = some (.lst ys) → DpAll K H' ys (ds.filter g) → Q (.ref D) H') : tLcX (iSeq K tl) (gName j) tt (tVar j) vs σ H Q := by
  have ll := dpa_len ha
  refine lc_of ?_
  refine iSeq_at ht hs fun J w D hD => ?_
  refine lc_it w (fun i H1 => ∃ ys, Same H0 H1 ∧ H1 D = some (.lst ys) ∧ DpAll K H0 ys ((ds.take i).filter g)) ⟨[], .upd hD, upd_same, .nil⟩ (fun i H1 _ p => ?_) (fun i x H1 H1' hi p y => ?_) (fun H1 p => ?_)
  · obtain ⟨ys, e1, _⟩ := p
    exact e1.sqF hs
  · obtain ⟨ys, e1, e2, e3⟩ := p
    obtain ⟨rfl, hx⟩ := y
    obtain ⟨d, hd, hxd⟩ := dpa_get ha hx
    refine ⟨hw x, ?_⟩
    refine he x d H1' (List.mem_of_getElem? hd) e1 (e1.dp hxd) _ fun H2 s2 => ?_
    have ht2 : ds.take (i + 1) = ds.take i ++ [d] := by rw [List.take_add_one, hd]; rfl
    have yl : ys.length ≤ i := by
      rw [dpa_len e3]
      exact Nat.le_trans (List.length_filter_le _ _) (by rw [List.length_take]; omega)
    by_cases hg : g d = true
    · rw [if_pos hg]
      refine ⟨x, hj x, ys, s2 _ _ e2, sz_lt (by omega), ys ++ [x], (e1.trans s2).mut hD, upd_same, ?_⟩
      rw [ht2, List.filter_append, List.filter_cons_of_pos hg]
      exact dpa_app e3 (dpa_one hxd)
    · rw [if_neg hg]
      refine ⟨ys, e1.trans s2, s2 _ _ e2, ?_⟩
      rw [ht2, List.filter_append, List.filter_cons_of_neg hg]
      rw [List.filter_nil, List.append_nil]
      exact e3
  · obtain ⟨ys, e1, e2, e3⟩ := p
    rw [ll, List.take_length] at e3
    exact q D ys H1 e1 hD e2 (e1.dpa e3)
theorem filt_empty {ds : List PyData} {g : PyData → Bool} : (ds.filter fun d => !g d).isEmpty = ds.all g := by
  induction ds with
  | nil => rfl
  | cons d ds ih =>
    cases hg : g d with
    | true =>
      rw [List.filter_cons_of_neg (by rw [hg]; exact Bool.false_ne_true), ih, List.all_cons, hg]
      rfl
    | false =>
      rw [List.filter_cons_of_pos (by rw [hg]; rfl), List.all_cons, hg]
      rfl
/-- {key: True for x in a row} -/
theorem dc_keys {K : PySem.W.Frag} {tl tk tv : TE} {j : Nat} {vs : List Nat} {σ : L2.St} {H H0 : Hp} {Q : VK} {a : Addr} {fb : Bool} {xs : List V} {ks : List Str} (hn : ks.Nodup) (hlen : xs.length = ks.length)
    (ht : ∀ R' : VK, R' (.ref a) H0 → tl σ H R') (hs : SqF fb K H0 a xs) (hl : xs.length ≤ 1000) (hw : ∀ x, wipe ((wipe σ vs).set j (some x)) vs = wipe σ vs)
    (hk : ∀ (i : Nat) (x : V) (z : Str) (H1 : Hp) (Q' : VK), xs[i]? = some x → ks[i]? = some z → Same H0 H1 → Q' (.str z) H1 → tk ((wipe σ vs).set j (some x)) H1 Q') (hv : ∀ (x : V) (H1 : Hp) (Q' : VK), Q' (.bl true) H1 → tv ((wipe σ vs).set j (some x)) H1 Q')
    (q : ∀ D, H0 D = none → Q (.ref D) (upd H0 D (.dK (ks.map fun x => (.inr x, .bl true))))) : tDcX (iSeq K tl) (gName j) tYes tk tv vs σ H Q := by
  refine dc_of ?_
  refine iSeq_at ht hs fun J w D hD => ?_
  refine ⟨fun i m H1 => m = xs.length - i ∧ i ≤ xs.length ∧ H1 = upd H0 D (.dK ((ks.take i).map fun x => (.inr x, .bl true))), ⟨_, rfl, Nat.zero_le _, rfl⟩, fun i m H1 hW => ?_⟩
  obtain ⟨rfl, hi, rfl⟩ := hW
  have hG : SqF fb K (upd H0 D (.dK ((ks.take i).map fun x => (.inr x, .bl true)))) a xs := (Same.upd hD).sqF hs
  by_cases hlt : i < xs.length
  · refine .inr ⟨w.goes i _ (by omega) hG, fun H2 => H2 = upd H0 D (.dK ((ks.take (i + 1)).map fun x => (.inr x, .bl true))), fun H2 e => ⟨xs.length - (i + 1), by omega, rfl, hlt, e⟩, fun x H2 y => ?_⟩
    obtain ⟨rfl, hx⟩ := w.yields i _ x H2 (by omega) hG y
    have hlt2 : i < ks.length := by omega
    refine ⟨hw _, ?_⟩
    dsimp only [tYes]
    rw [if_pos rfl]
    refine hk i x ks[i] _ _ hx (List.getElem?_eq_getElem hlt2) (Same.upd hD) (hv _ _ _ ⟨_, .inr ks[i], rfl, upd_same, ?_, ?_⟩)
    · rw [List.length_map, List.length_take]
      exact sz_lt (by omega)
    · rw [upd_upd, List.take_add_one, List.getElem?_eq_getElem hlt2, List.map_append, putK_new]
      · rfl
      · have hno : ∀ ys : List Str, ks[i] ∉ ys → valV (ys.map fun x => ((.inr x : Key), V.bl true)) (.inr ks[i]) = none := by
          intro ys
          induction ys with
          | nil => exact fun _ => rfl
          | cons y ys ih =>
            intro hy
            rw [List.map_cons, valV_neg (fun e => hy (by rw [← Sum.inr.inj e]; exact List.mem_cons_self))]
            exact ih fun h => hy (List.mem_cons_of_mem _ h)
        refine hno _ fun hm => ?_
        obtain ⟨k, hk1, hk2⟩ := List.mem_take_iff_getElem.mp hm
        have := nd_ix hn (List.getElem?_eq_getElem hlt2) (by rw [List.getElem?_eq_getElem (show k < ks.length by omega)]; exact congrArg some hk2)
        omega
  · have e : i = xs.length := by omega
    subst e
    refine .inl ⟨w.stops _ hG, ?_⟩
    rw [hlen, List.take_length]
    exact q D hD
theorem pair_of {K : PySem.W.Frag} {H : Hp} {v : V} {d : PyData} (h : Dp K H v d) (hr : rowB 2 d = true) : ∃ (c : Addr) (u1 u2 : V) (d1 d2 : PyData), v = .ref c ∧ d = .tuple [d1, d2] ∧ SqT K H c [u1, u2] ∧ Dp K H u1 d1 ∧ Dp K H u2 d2 := by
  cases h with
  | tup hs ha =>
    rename_i a xs ds
    have hl : ds.length = 2 := by
      have : ((ds.length : Nat) : Int) = 2 := of_decide_eq_true hr
      omega
    cases ha with
    | nil => cases hl
    | cons g1 ha =>
      cases ha with
      | nil => cases hl
      | cons g2 ha =>
        cases ha with
        | nil => exact ⟨a, _, _, _, _, rfl, rfl, hs, g1, g2⟩
        | cons _ _ =>
          rw [List.length_cons, List.length_cons, List.length_cons] at hl
          omega
  | _ => cases hr
/-- a comprehension of bools over data, the heap ahead of it kept -/
theorem lc_boolsS {K : PySem.W.Frag} {tl te : TE} {j : Nat} {vs : List Nat} {σ : L2.St} {H H0 : Hp} {Q : VK} {a : Addr} {fb : Bool} {xs : List V} {ds : List PyData} (g : PyData → Bool)
    (ht : ∀ R' : VK, R' (.ref a) H0 → tl σ H R') (hs : SqF fb K H0 a xs) (ha : DpAll K H0 xs ds) (hl : ds.length ≤ 1000)
    (hw : ∀ x, wipe ((wipe σ vs).set j (some x)) vs = wipe σ vs)
    (he : ∀ (x : V) (d : PyData) (H1 : Hp), d ∈ ds → Same H0 H1 → Dp K H1 x d → ∀ Q' : VK, (∀ H2, Same H1 H2 → Q' (.bl (g d)) H2) → te ((wipe σ vs).set j (some x)) H1 Q')
    (q : ∀ D H', Same H0 H' → H' D = some (.lst ((ds.map g).map V.bl)) → Q (.ref D) H') : tLcX (iSeq K tl) (gName j) tYes te vs σ H Q := by
  have ll := dpa_len ha
  refine lc_of ?_
  refine iSeq_at ht hs fun J w D hD => ?_
  refine lc_it w (fun i H1 => Same H0 H1 ∧ H1 D = some (.lst (((ds.take i).map g).map V.bl))) ⟨.upd hD, upd_same⟩ (fun i H1 _ p => p.1.sqF hs) (fun i x H1 H1' hi p y => ?_) (fun H1 p => ?_)
  · obtain ⟨e1, e2⟩ := p
    obtain ⟨rfl, hx⟩ := y
    obtain ⟨d, hd, hxd⟩ := dpa_get ha hx
    refine ⟨hw x, ?_⟩
    dsimp only [tYes]
    rw [if_pos rfl]
    refine he x d H1' (List.mem_of_getElem? hd) e1 (e1.dp hxd) _ fun H2 s2 => ?_
    refine ⟨_, s2 _ _ e2, by rw [List.length_map, List.length_map, List.length_take]; exact sz_lt (by omega), (e1.trans s2).mut hD, ?_⟩
    rw [upd_same, List.take_add_one, hd, List.map_append, List.map_append]
    rfl
  · obtain ⟨e1, e2⟩ := p
    rw [ll, List.take_length] at e2
    exact q D H1 e1 e2

theorem str_ext {a b : Str} (h : a.cps.toList = b.cps.toList) : a = b := by
  cases a with
  | mk x =>
    cases b with
    | mk y =>
      have : x = y := Array.toList_inj.mp h
      rw [this]
theorem asc_at {ks : List Str} (h : ascD (ks.map PyData.str) = true) (i : Nat) (hi : i + 1 < ks.length) : ks[i].cps.toList < ks[i + 1].cps.toList := by
  unfold ascD at h
  rw [List.all_eq_true] at h
  have h2 := h i (List.mem_range.mpr (by rw [List.length_map]; omega))
  have g1 : (ks.map PyData.str).getD i .none = .str ks[i] := by rw [List.getD_eq_getElem?_getD, List.getElem?_map, List.getElem?_eq_getElem (by omega)]; rfl
  have g2 : (ks.map PyData.str).getD (i + 1) .none = .str ks[i + 1] := by rw [List.getD_eq_getElem?_getD, List.getElem?_map, List.getElem?_eq_getElem (by omega)]; rfl
  rw [g1, g2, PySem.W.dataLt_str] at h2
  exact of_decide_eq_true h2
theorem asc_lt {ks : List Str} (h : ascD (ks.map PyData.str) = true) (i : Nat) : ∀ (m : Nat) (hi : i + m + 1 < ks.length), (ks[i]'(by omega)).cps.toList < ks[i + m + 1].cps.toList
  | 0, hi => asc_at h i hi
  | m + 1, hi => List.lt_trans (asc_lt h i m (by omega)) (asc_at h (i + m + 1) hi)
theorem asc_nodup {ks : List Str} (h : ascD (ks.map PyData.str) = true) : ks.Nodup := by
  unfold List.Nodup
  refine List.pairwise_iff_getElem.mpr fun i j hi hj hij e => ?_
  have h2 := asc_lt h i (j - i - 1) (by omega)
  have e2 : i + (j - i - 1) + 1 = j := by omega
  simp only [e2] at h2
  rw [e] at h2
  exact List.lt_irrefl _ h2
theorem alike_strs {ks : List Str} : ∀ i d e, (ks.map PyData.str)[i]? = some d → (ks.map PyData.str)[i + 1]? = some e → PySem.W.alike d e = true ∧ d ≠ .none ∧ d.depth ≤ 60 := fun i d e hd he => by
  rw [List.getElem?_map] at hd he
  cases h1 : ks[i]? with
  | none => rw [h1] at hd; cases hd
  | some x =>
    cases h2 : ks[i + 1]? with
    | none => rw [h2] at he; cases he
    | some y =>
      rw [h1] at hd
      rw [h2] at he
      cases hd
      cases he
      exact ⟨by simp [PySem.W.alike], by simp, by simp [PyData.depth]⟩
theorem names_strs : ∀ {wd : List PyData}, wd.all nameD = true → ∃ ks : List Str, wd = ks.map PyData.str ∧ ∀ x ∈ ks, nameB x = true
  | [], _ => ⟨[], rfl, fun _ h => absurd h List.not_mem_nil⟩
  | d :: wd, h => by
    rw [List.all_cons, Bool.and_eq_true] at h
    obtain ⟨ks, e, hks⟩ := names_strs h.2
    cases d with
    | str x =>
      refine ⟨x :: ks, by rw [e]; rfl, fun y hy => ?_⟩
      rcases List.mem_cons.mp hy with e2 | hy
      · rw [e2]
        exact h.1
      · exact hks y hy
    | _ => exact absurd h.1 Bool.false_ne_true
def strsOf (wd : List PyData) : List Str := wd.filterMap fun | .str x => some x | _ => none
theorem strsOf_map {ks : List Str} : strsOf (ks.map PyData.str) = ks := by
  unfold strsOf
  rw [List.filterMap_map]
  exact List.filterMap_some
def headD : PyData → PyData
  | .tuple (d :: _) => d
  | _ => .none
def netE (wd qd : List PyData) : Bool := !wd.isEmpty && (wd.all nameD && (ascD wd && (qd.all (queueD (strsOf wd)) && ascD (qd.map headD))))
def netC : PyData → PyData → Bool
  | .tuple wd, .tuple qd => netE wd qd
  | _, _ => false
/-- what a net is -/
def netB : PyData → Bool
  | .tuple [a, b] => netC a b
  | _ => false
theorem queueD_of {ks : List Str} {d : PyData} (h : queueD ks d = true) : ∃ x y z u t, d = .tuple [.str x, .str y, .str z, u, t] ∧ nameB x = true := by
  unfold queueD at h
  split at h
  · rename_i d1 d2 d3 d4 d5
    unfold queueC at h
    rw [Bool.and_eq_true] at h
    cases d1 with
    | str x =>
      cases d2 with
      | str y =>
        cases d3 with
        | str z => exact ⟨x, y, z, d4, d5, rfl, h.1⟩
        | _ => exact absurd h.2 (by simp [queueE])
      | _ => exact absurd h.2 (by simp [queueE])
    | _ => exact absurd h.1 Bool.false_ne_true
  · cases h
theorem heads_strs {ks : List Str} : ∀ {qd : List PyData}, qd.all (queueD ks) = true → ∃ hs : List Str, qd.map headD = hs.map PyData.str
  | [], _ => ⟨[], rfl⟩
  | d :: qd, h => by
    rw [List.all_cons, Bool.and_eq_true] at h
    obtain ⟨hs, e⟩ := heads_strs h.2
    obtain ⟨x, y, z, u, t, rfl, _⟩ := queueD_of h.1
    exact ⟨x :: hs, by rw [List.map_cons, e]; rfl⟩
end Jl

set_option Elab.async false
set_option linter.all false
set_option maxRecDepth 100000
set_option maxHeartbeats 1000000
set_option pp.maxSteps 300
namespace Jl
open PySem PySem.Spec PyProof.Rows L2
open Evl (sz_of sz_lt)
local macro_rules | `(tactic| walk_at "at") => `(tactic| first | exact box0 | exact box1 | exact box2)
local macro_rules | `(tactic| walk_at "sq") => `(tactic| first | (show SqL _ _ _ _; assumption) | (show SqT _ _ _ _; assumption) | (show _ = some _; assumption))
local macro_rules | `(tactic| walk_at "side") => `(tactic| first
  | (show (0 : Int) < _; decide)
  | (show (0 : Int) < _; omega)
  | exact ⟨by decide, by decide, by decide⟩
  | exact sz_of (Nat.le_of_ble_eq_true rfl)
  | exact rfl
  | exact Or.inl (by decide)
  | exact Or.inr (by decide)
  | exact Or.inr ⟨by omega, by omega⟩
  | exact Or.inl ⟨by omega, by omega⟩
  | exact ⟨by decide, by decide +kernel⟩)
local macro_rules | `(tactic| walk_at "ev1") => `(tactic| first
  | refine ⟨_, rfl, ?_⟩
  | refine ⟨_, _, rfl, rfl, ?_⟩
  | refine ⟨_, _, _, _, rfl, rfl, (by walk_at "sq"), (by walk_at "at"), ?_⟩
  | refine ⟨_, _, rfl, (by walk_at "sq"), ?_⟩
  | refine ⟨_, _, rfl, Or.inl (by walk_at "sq"), ?_⟩
  | refine ⟨_, _, rfl, Or.inr (by walk_at "sq"), ?_⟩
  | refine Or.inl ⟨_, rfl, ?_⟩
  | refine Or.inr ⟨_, rfl, ?_⟩
  | refine ⟨(by walk_at "side"), ?_⟩
  | refine ⟨.inl ⟨rfl, _, (by walk_at "sq")⟩, ?_⟩
  | refine ⟨_, _, rfl, ?_⟩)
local macro_rules | `(tactic| walk_at "nrm") => `(tactic| dsimp only [tNil, tCons, tC, tCB])
local macro_rules | `(tactic| walk_at "ev") => `(tactic| repeat (walk_at "ev1"))

abbrev sc_is_net_N : List Str := ["thing", "workers", "queues", "known", "worker", "queue"]
abbrev s_is_net : Stmt := topS 9
theorem sc_is_net : FnScope ["thing", "workers", "queues", "known", "worker", "queue"] ["thing"] (defScope s_is_net) := ⟨rfl, rfl, rfl, by decide +kernel, rfl, by decide +kernel, by decide +kernel⟩
theorem netB_no {d : PyData} (h : rowB 2 d = false) : netB d = false := by
  unfold netB
  split
  · cases h
  · rfl
section
variable {P : Program} {w : World} {K : PySem.W.Frag} {mg : Str → Option Value} {base : Heap}
def spNet (K : PySem.W.Frag) : Sp := fun vs H Q _ => ∃ (v : V) (d : PyData), vs = [v] ∧ Dp K H v d ∧ okT 30 d ∧ ∀ H', Same H H' → Q (.bl (netB d)) H'
theorem ok_is_net {f fR fN fA fQ : Addr} {fd fdR fdN fdA fdQ : FuncData} {k : Nat} (F : Fun K "is_net" "is_net" s_is_net f fd)
    (G_is_row : FnOk P w K mg base CX0 k fR fdR ["thing", "many"] (spRow K)) (g_is_row : mg "is_row" = some (.ref fR)) (F_is_row : Fun K "is_row" "is_row" s_is_row fR fdR) (b_is_row : Binds K fdR ["thing", "many"] [])
    (G_is_name : FnOk P w K mg base CX0 k fN fdN ["thing"] (spName K)) (g_is_name : mg "is_name" = some (.ref fN)) (F_is_name : Fun K "is_name" "is_name" s_is_name fN fdN) (b_is_name : Binds K fdN ["thing"] [])
    (G_ascends : FnOk P w K mg base CX0 k fA fdA ["row"] (spAsc K)) (g_ascends : mg "ascends" = some (.ref fA)) (F_ascends : Fun K "ascends" "ascends" s_ascends fA fdA) (b_ascends : Binds K fdA ["row"] [])
    (G_is_queue : FnOk P w K mg base CX0 k fQ fdQ ["thing", "workers"] (spQueue K)) (g_is_queue : mg "is_queue" = some (.ref fQ)) (F_is_queue : Fun K "is_queue" "is_queue" s_is_queue fQ fdQ) (b_is_queue : Binds K fdQ ["thing", "workers"] [])
    (m_isinstance : mg "isinstance" = none) (m_tuple : mg "tuple" = none) (m_all : mg "all" = none) (m_len : mg "len" = none) : FnOk P w K mg base CX0 (k + 1) f fd ["thing"] (spNet K) := by
  refine F.ok sc_is_net (fun vs H Q E h => ?_) (fun cdv A outer s0 H vs Q E hr h => ?_)
  · obtain ⟨v, d, rfl, _⟩ := h
    rfl
  · obtain ⟨v, d, rfl, hD, hk, q⟩ := h
    have hu := hu_of hr
    refine ⟨_, (pss_cons (ps_if (pt_not (pt_val (pe_call G_is_row hr (by rfl) g_is_row F_is_row.kp b_is_row .nil pass0 (pa_cons (pv 0) (pa_cons pe_int pa_nil))))) (pss_one (ps_ret pe_bl)) pss_nil) 
    (pss_cons (ps_asg (pv 0) (pg_tup rfl (pgs_cons (pg_name (i := 1) sc_is_net.nd rfl (Or.inl rfl)) (pgs_cons (pg_name (i := 2) sc_is_net.nd rfl (Or.inl rfl)) pgs_nil)))) 
    (pss_cons (ps_if (PW.pt (pw_or (pt_not (pt_val (pe_callB call_isi (by rfl) m_isinstance (by decide +kernel) (pa_cons (pv 1) (pa_cons (pe_bltn (v := .ty "tuple") (u := .type "tuple") (by rfl) m_tuple (by decide +kernel) rfl) pa_nil))))) (pw_or (pt_not (pt_val (pe_callB call_isi (by rfl) m_isinstance (by decide +kernel) (pa_cons (pv 2) (pa_cons (pe_bltn (v := .ty "tuple") (u := .type "tuple") (by rfl) m_tuple (by decide +kernel) rfl) pa_nil))))) (pw_or1 (pt_cmpR op_eq (pe_callB call_len_seq (by rfl) m_len PySem.boot_len (pa_cons (pv 1) pa_nil)) pe_int (nomark _)))))) (pss_one (ps_ret pe_bl)) pss_nil) 
    (pss_cons (ps_if (PW.pt (pw_or (pt_not (pt_val (pe_callB (cr_all rfl) (by rfl) m_all (by decide +kernel) (pa_cons (pe_lcX (pe_lc (own := [("worker", 4)]) (g := gName 4) (tt := tYes) (te := tCall (spName K) [] E0 (tCons (tVar 4) tNil)) (by rfl) sc_is_net.nd (pi_seq (pv 1)) (blkOk_by (own := [("worker", 4)]) (N := sc_is_net_N) (sc := defScope s_is_net) (by decide +kernel)) (fun _ _ _ _ _ => pg_name (i := 4) sc_is_net.nd rfl (Or.inl rfl)) (fun _ _ _ _ _ => pts_nil) (fun _ _ _ _ _ => (pe_call G_is_name hr (by rfl) g_is_name F_is_name.kp b_is_name .nil pass0 (pa_cons (pv 4) pa_nil))))) pa_nil)))) (pw_or1 (pt_not (pt_val (pe_call G_ascends hr (by rfl) g_ascends F_ascends.kp b_ascends .nil pass0 (pa_cons (pv 1) pa_nil))))))) (pss_one (ps_ret pe_bl)) pss_nil) 
    (pss_cons (ps_set (i := 3) sc_is_net.nd rfl (Or.inr rfl) (pe_dcX (pe_dc (own := [("worker", 4)]) (g := gName 4) (tt := tYes) (tk := tVar 4) (by rfl) sc_is_net.nd (pi_seq (pv 1)) (blkOk_by (own := [("worker", 4)]) (N := sc_is_net_N) (sc := defScope s_is_net) (by decide +kernel)) (fun _ _ _ _ _ => pg_name (i := 4) sc_is_net.nd rfl (Or.inl rfl)) (fun _ _ _ _ _ => pts_nil) (fun _ _ _ _ _ => (pv 4)) (fun _ _ _ _ _ => pe_bl)))) 
    (pss_cons (ps_if (pt_not (pt_val (pe_callB (cr_all rfl) (by rfl) m_all (by decide +kernel) (pa_cons (pe_lcX (pe_lc (own := [("queue", 5)]) (g := gName 5) (tt := tYes) (te := tCall (spQueue K) [] E0 (tCons (tVar 5) (tCons (tVar 3) tNil))) (by rfl) sc_is_net.nd (pi_seq (pv 2)) (blkOk_by (own := [("queue", 5)]) (N := sc_is_net_N) (sc := defScope s_is_net) (by decide +kernel)) (fun _ _ _ _ _ => pg_name (i := 5) sc_is_net.nd rfl (Or.inl rfl)) (fun _ _ _ _ _ => pts_nil) (fun _ _ _ _ _ => (pe_call G_is_queue hr (by rfl) g_is_queue F_is_queue.kp b_is_queue .nil pass0 (pa_cons (pv 5) (pa_cons (pv 3) pa_nil)))))) pa_nil)))) (pss_one (ps_ret pe_bl)) pss_nil) 
    (pss_one (ps_ret (pe_call G_ascends hr (by rfl) g_ascends F_ascends.kp b_ascends .nil pass0 (pa_cons (pe_lcX (pe_lc (own := [("queue", 5)]) (g := gName 5) (tt := tYes) (te := tOp (rIxF K) (tVar 5) (tC (.int 0))) (by rfl) sc_is_net.nd (pi_seq (pv 2)) (blkOk_by (own := [("queue", 5)]) (N := sc_is_net_N) (sc := defScope s_is_net) (by decide +kernel)) (fun _ _ _ _ _ => pg_name (i := 5) sc_is_net.nd rfl (Or.inl rfl)) (fun _ _ _ _ _ => pts_nil) (fun _ _ _ _ _ => (pe_ix ix_lt (pv 5) pe_int (fun _ _ => rfl))))) pa_nil)))))))))), ?_⟩
    walk_at "ev"
    refine ⟨v, 2, d, rfl, hD, ?_⟩
    cases hb : rowB 2 d with
    | false =>
      refine ⟨_, rfl, iteT ?_⟩
      rw [netB_no hb] at q
      exact q H fun _ _ e => e
    | true =>
      refine ⟨_, rfl, iteF ?_⟩
      obtain ⟨c, u1, u2, d1, d2, rfl, rfl, hs, g1, g2⟩ := pair_of hD hb
      obtain ⟨_, hk2⟩ := (okT_seq (n := 29) (f := true)).mp hk
      have ok1 := hk2 d1 (by simp)
      have ok2 := hk2 d2 (by simp)
      try dsimp only [tNext, tSeq, tAsg]
      refine ⟨_, rfl, c, [u1, u2], rfl, hs, rfl, u1, [u2], rfl, u2, [], rfl, rfl, ?_⟩
      walk_at "ev"
      walk_at "nrm"
      refine isi1 g1 (fun t e => by rw [e]; exact kT d1) ?_
      have hqE : netB (.tuple [d1, d2]) = netC d1 d2 := rfl
      rw [hqE] at q
      cases d1 with
      | tuple wd =>
        refine ⟨_, rfl, iteF ?_⟩
        walk_at "ev"
        walk_at "nrm"
        refine isi1 g2 (fun t e => by rw [e]; exact kT d2) ?_
        cases d2 with
        | tuple qd =>
          refine ⟨_, rfl, iteF ?_⟩
          have hqF : netC (.tuple wd) (.tuple qd) = netE wd qd := rfl
          rw [hqF] at q
          obtain ⟨aw, xw, rfl, hw, haw⟩ := Dp.seq_of (f := true) g1
          obtain ⟨aq, xq, rfl, hq, haq⟩ := Dp.seq_of (f := true) g2
          have hw' : SqT K H aw xw := hw
          have lw := dpa_len haw
          have lq := dpa_len haq
          obtain ⟨kw1, kw2⟩ := (okT_seq (n := 28) (f := true)).mp ok1
          obtain ⟨kq1, kq2⟩ := (okT_seq (n := 28) (f := true)).mp ok2
          walk_at "ev"
          rw [decV2, lw]
          unfold netE at q
          have hem : decide (((wd.length : Nat) : Int) = 0) = wd.isEmpty := by
            cases wd with
            | nil => rfl
            | cons d ds =>
              refine decide_eq_false ?_
              rw [List.length_cons]
              omega
          rw [hem]
          cases he : wd.isEmpty with
          | true =>
            rw [he] at q
            exact iteT (q H fun _ _ e => e)
          | false =>
            rw [he] at q
            refine iteF ?_
            walk_at "ev"
            refine lc_boolsS (fb := true) nameD (fun R' r => ⟨_, rfl, r⟩) hw haw kw1 (fun x => rfl) (fun x d H1 hd e1 hx Q' q' => ?_) (fun D H1 s1 h1 => ?_)
            · refine ⟨_, rfl, x, d, rfl, hx, fun y ey => ?_, q'⟩
              have := kw2 d hd
              rw [ey] at this
              exact this.1
            · refine ⟨D, _, rfl, sql_of h1, ?_⟩
              have ea : (wd.map nameD).all id = wd.all nameD := by
                rw [List.all_map]
                rfl
              rw [ea]
              cases hn : wd.all nameD with
              | false =>
                rw [hn] at q
                exact ⟨_, rfl, iteT (iteT (q H1 s1))⟩
              | true =>
                rw [hn] at q
                refine ⟨_, rfl, iteF ?_⟩
                obtain ⟨ks, rfl, hks⟩ := names_strs hn
                rw [strsOf_map] at q
                walk_at "ev"
                refine ⟨.ref aw, true, ks.map PyData.str, rfl, s1.dp g1, kw1, alike_strs, fun H2 s2 => ?_⟩
                cases hA : ascD (ks.map PyData.str) with
                | false =>
                  rw [hA] at q
                  exact ⟨_, rfl, iteT (q H2 (s1.trans s2))⟩
                | true =>
                  rw [hA] at q
                  refine ⟨_, rfl, iteF ?_⟩
                  have s12 := s1.trans s2
                  have exw := dpa_strs_of haw
                  subst exw
                  rw [List.length_map] at kw1
                  refine dc_keys (fb := true) (ks := ks) (asc_nodup hA) (by rw [List.length_map]) (fun R' r => ⟨_, rfl, r⟩) (s12.sqF hw) (by rw [List.length_map]; omega) (fun x => rfl) (fun i x z H3 Q' hx hz s3 q' => ?_) (fun x H3 Q' q' => q') (fun M hM => ?_)
                  · rw [List.getElem?_map, hz] at hx
                    cases hx
                    exact ⟨_, rfl, q'⟩
                  · have s3 : Same H (upd H2 M (.dK (ks.map fun x => (.inr x, .bl true)))) := s12.trans (.upd hM)
                    have hM3 : (upd H2 M (.dK (ks.map fun x => (.inr x, .bl true)))) M = some (.dK (ks.map fun x => (.inr x, .bl true))) := upd_same
                    show gName 3 (.ref M) _ (upd H2 M (.dK (ks.map fun x => (.inr x, .bl true)))) _
                    generalize upd H2 M (.dK (ks.map fun x => (.inr x, .bl true))) = H3 at s3 hM3 ⊢
                    walk_at "ev"
                    refine lc_boolsS (fb := true) (queueD ks) (fun R' r => ⟨_, rfl, r⟩) (s3.sqF hq) (s3.dpa haq) kq1 (fun x => rfl) (fun x d H4 hd e4 hx Q' q' => ?_) (fun D4 H4 s4 h4 => ?_)
                    · refine ⟨_, rfl, _, rfl, x, M, ks, d, rfl, hx, e4 _ _ hM3, fun x1 y1 z1 u1 t1 ed => ?_, q'⟩
                      have h1 := kq2 d hd
                      rw [ed] at h1
                      exact (h1.2 (.str x1) (by simp)).1
                    · refine ⟨D4, _, rfl, sql_of h4, ?_⟩
                      have ea : (qd.map (queueD ks)).all id = qd.all (queueD ks) := by
                        rw [List.all_map]
                        rfl
                      rw [ea]
                      cases hQ : qd.all (queueD ks) with
                      | false =>
                        rw [hQ] at q
                        exact ⟨_, rfl, iteT (q H4 (s3.trans s4))⟩
                      | true =>
                        rw [hQ] at q
                        refine ⟨_, rfl, iteF ?_⟩
                        have s34 := s3.trans s4
                        obtain ⟨hs2, eh⟩ := heads_strs hQ
                        walk_at "ev"
                        refine lc_data (fb := true) (S := []) (ds := qd) headD (fun R' r => ⟨_, rfl, r⟩) (s34.sqF hq) (by rw [cutS_nil]; exact s34.dpa haq) Trk.nil kq1 (fun x => rfl) (fun x d H5 T hd t1 hx Q' q' => ?_) (fun D5 ys H5 s5 hD5 h5 h6 => ?_)
                        · obtain ⟨x1, y1, z1, u1, t1', rfl, _⟩ := queueD_of (List.all_eq_true.mp hQ d hd)
                          obtain ⟨ar, xr, rfl, hr1, hr2⟩ := Dp.seq_of (f := true) hx
                          cases hr2 with
                          | cons k1 k2 =>
                            exact ⟨_, rfl, rIxF_at (cutS_le.sqF hr1) (atI_nat (j := 0) rfl) (q' H5 _ (fun _ _ e => e) k1)⟩
                        · rw [cutS_nil, eh] at h6
                          rw [eh] at q
                          walk_at "ev"
                          refine ⟨.ref D5, false, hs2.map PyData.str, rfl, .lst (sql_of h5) h6, ?_, alike_strs, fun H6 s6 => ?_⟩
                          · rw [← eh, List.length_map]
                            exact kq1
                          · exact q H6 (s34.trans (s5.trans s6))
        | _ =>
          refine ⟨_, rfl, iteT (iteT ?_)⟩
          exact q H fun _ _ e => e
      | _ =>
        refine ⟨_, rfl, iteT (iteT ?_)⟩
        cases d2 <;> exact q H fun _ _ e => e
end
end Jl

set_option Elab.async false
set_option linter.all false
set_option maxRecDepth 100000
set_option maxHeartbeats 1000000
set_option pp.maxSteps 300
namespace Jl
open PySem PySem.Spec PyProof.Rows L2
open Evl (sz_of sz_lt)
local macro_rules | `(tactic| walk_at "at") => `(tactic| first | exact box0 | exact box1 | exact box2)
local macro_rules | `(tactic| walk_at "sq") => `(tactic| first | (show SqL _ _ _ _; assumption) | (show SqT _ _ _ _; assumption) | (show _ = some _; assumption))
local macro_rules | `(tactic| walk_at "side") => `(tactic| first
  | (show (0 : Int) < _; decide)
  | (show (0 : Int) < _; omega)
  | exact ⟨by decide, by decide, by decide⟩
  | exact sz_of (Nat.le_of_ble_eq_true rfl)
  | exact rfl
  | exact Or.inl (by decide)
  | exact Or.inr (by decide)
  | exact Or.inr ⟨by omega, by omega⟩
  | exact Or.inl ⟨by omega, by omega⟩
  | exact ⟨by decide, by decide +kernel⟩)
local macro_rules | `(tactic| walk_at "ev1") => `(tactic| first
  | refine ⟨_, rfl, ?_⟩
  | refine ⟨_, _, rfl, rfl, ?_⟩
  | refine ⟨_, _, _, _, rfl, rfl, (by walk_at "sq"), (by walk_at "at"), ?_⟩
  | refine ⟨_, _, rfl, (by walk_at "sq"), ?_⟩
  | refine ⟨_, _, rfl, Or.inl (by walk_at "sq"), ?_⟩
  | refine ⟨_, _, rfl, Or.inr (by walk_at "sq"), ?_⟩
  | refine Or.inl ⟨_, rfl, ?_⟩
  | refine Or.inr ⟨_, rfl, ?_⟩
  | refine ⟨(by walk_at "side"), ?_⟩
  | refine ⟨.inl ⟨rfl, _, (by walk_at "sq")⟩, ?_⟩
  | refine ⟨_, _, rfl, ?_⟩)
local macro_rules | `(tactic| walk_at "nrm") => `(tactic| dsimp only [tNil, tCons, tC, tCB])
local macro_rules | `(tactic| walk_at "ev") => `(tactic| repeat (walk_at "ev1"))

abbrev sc_w_is_row_N : List Str := ["_law_matter", "_law_tags", "_law_bit"]
abbrev s_w_is_row : Stmt := topS 19
theorem sc_w_is_row : FnScope ["_law_matter", "_law_tags", "_law_bit"] ["_law_matter", "_law_tags"] (defScope s_w_is_row) := ⟨rfl, rfl, rfl, by decide +kernel, rfl, by decide +kernel, by decide +kernel⟩
theorem queueD_len {ks : List Str} {d : PyData} (h : rowB 5 d = false) : queueD ks d = false := by
  unfold queueD
  split
  · cases h
  · rfl
theorem queueE_n2 {ks : List Str} {d2 d3 d4 d5 : PyData} (hks : ∀ x ∈ ks, nameB x = true) (h : nameD d2 = false) : queueE ks d2 d3 d4 d5 = false := by
  cases d2 with
  | str s =>
    cases d3 with
    | str e =>
      have : decide (s ∈ ks) = false := decide_eq_false fun z => by
        have h2 : nameB s = false := h
        rw [hks s z] at h2
        cases h2
      show (decide (s ∈ ks) && (decide (e ∈ ks) && (!decide (s = e) && (numD 1 d4 && (numD 1 d5 && leD d5 d4))))) = false
      rw [this]
      rfl
    | _ => rfl
  | _ => exact queueE_no (by intro s z; cases z)
theorem queueE_n3 {ks : List Str} {d2 d3 d4 d5 : PyData} (hks : ∀ x ∈ ks, nameB x = true) (h : nameD d3 = false) : queueE ks d2 d3 d4 d5 = false := by
  cases d2 with
  | str s =>
    cases d3 with
    | str e =>
      have : decide (e ∈ ks) = false := decide_eq_false fun z => by
        have h2 : nameB e = false := h
        rw [hks e z] at h2
        cases h2
      show (decide (s ∈ ks) && (decide (e ∈ ks) && (!decide (s = e) && (numD 1 d4 && (numD 1 d5 && leD d5 d4))))) = false
      rw [this]
      cases decide (s ∈ ks) <;> rfl
    | _ => rfl
  | _ => exact queueE_no (by intro s z; cases z)
theorem name_str {d : PyData} (h : nameD d = true) : ∃ x, d = .str x := by
  cases d with
  | str x => exact ⟨x, rfl⟩
  | _ => cases h
def isN : PyData → Bool
  | .int _ => true
  | _ => false
theorem in_strs {x : Str} {ks : List Str} : inV (.str x) (ks.map V.str) = decide (x ∈ ks) := by
  unfold inV
  rw [List.any_map, Bool.eq_iff_iff, List.any_eq_true, decide_eq_true_eq]
  refine ⟨fun ⟨r, hr, e⟩ => ?_, fun h => ⟨x, h, ?_⟩⟩
  · have e : (r == x) = true := e
    rw [← eq_of_beq e]
    exact hr
  · show (x == x) = true
    exact beq_self_eq_true _
section
variable {P : Program} {w : World} {K : PySem.W.Frag} {mg : Str → Option Value} {base : Heap}
def spRowL (K : PySem.W.Frag) : Sp := fun vs H Q _ => ∃ (v : V) (d : PyData) (ta : Addr) (ks : List Str), vs = [v, .ref ta] ∧ Dp K H v d ∧ SqT K H ta (ks.map V.str) ∧ (∀ x ∈ ks, nameB x = true) ∧ okT 28 d ∧ ks.length ≤ 1000 ∧ ∀ H', Same H H' → Q (.bl (queueD ks d)) H'
theorem ok_w_is_row {f fM : Addr} {fd fdM : FuncData} {k : Nat} (F : Fun K "_law_is_row" "_law_is_row" s_w_is_row f fd)
    (G_w_is_mark : FnOk P w K mg base CX0 k fM fdM ["_law_matter"] (spMark K)) (g_w_is_mark : mg "_law_is_mark" = some (.ref fM)) (F_w_is_mark : Fun K "_law_is_mark" "_law_is_mark" s_w_is_mark fM fdM) (b_w_is_mark : Binds K fdM ["_law_matter"] [])
    (m_isinstance : mg "isinstance" = none) (m_tuple : mg "tuple" = none) (m_int : mg "int" = none) (m_bool : mg "bool" = none) (m_len : mg "len" = none) : FnOk P w K mg base CX0 (k + 1) f fd ["_law_matter", "_law_tags"] (spRowL K) := by
  refine F.ok sc_w_is_row (fun vs H Q E h => ?_) (fun cdv A outer s0 H vs Q E hr h => ?_)
  · obtain ⟨v, d, ta, ks, rfl, _⟩ := h
    rfl
  · obtain ⟨v, d, ta, ks, rfl, hD, hT, hks, hk, hkl, q⟩ := h
    refine ⟨_, (pss_cons (ps_if (PW.pt (pw_or (pt_not (pt_val (pe_callB call_isi (by rfl) m_isinstance (by decide +kernel) (pa_cons (pv 0) (pa_cons (pe_bltn (v := .ty "tuple") (u := .type "tuple") (by rfl) m_tuple (by decide +kernel) rfl) pa_nil))))) (pw_or1 (pt_cmpR op_ne (pe_callB call_len_seq (by rfl) m_len PySem.boot_len (pa_cons (pv 0) pa_nil)) pe_int (nomark _))))) (pss_one (ps_ret pe_bl)) pss_nil) 
    (pss_cons (ps_if (PW.pt (pw_or (pt_not (pt_val (pe_call G_w_is_mark hr (by rfl) g_w_is_mark F_w_is_mark.kp b_w_is_mark .nil pass0 (pa_cons (pe_ix ix_tup (pv 0) pe_int (fun _ _ => rfl)) pa_nil)))) (pw_or (pt_not (pt_val (pe_call G_w_is_mark hr (by rfl) g_w_is_mark F_w_is_mark.kp b_w_is_mark .nil pass0 (pa_cons (pe_ix ix_tup (pv 0) pe_int (fun _ _ => rfl)) pa_nil)))) (pw_or1 (pt_not (pt_val (pe_call G_w_is_mark hr (by rfl) g_w_is_mark F_w_is_mark.kp b_w_is_mark .nil pass0 (pa_cons (pe_ix ix_tup (pv 0) pe_int (fun _ _ => rfl)) pa_nil)))))))) (pss_one (ps_ret pe_bl)) pss_nil) 
    (pss_cons (ps_if (PW.pt (pw_or (pt_cmpR op_eq (pe_ix ix_tup (pv 0) pe_int (fun _ _ => rfl)) (pe_ix ix_tup (pv 0) pe_int (fun _ _ => rfl)) (nomark _)) (pw_or (pt_cmpR op_notIn_seq (pe_ix ix_tup (pv 0) pe_int (fun _ _ => rfl)) (pv 1) (by with_unfolding_all rfl)) (pw_or1 (pt_cmpR op_notIn_seq (pe_ix ix_tup (pv 0) pe_int (fun _ _ => rfl)) (pv 1) (by with_unfolding_all rfl)))))) (pss_one (ps_ret pe_bl)) pss_nil) 
    (pss_cons (ps_forX (ps_for PassesOwn.never rfl (pi_seq (pe_slice sl_tupA (pv 0) (po_some pe_int) po_none)) (pg_name (i := 2) sc_w_is_row.nd rfl (Or.inl rfl)) (pss_one (ps_if (PW.pt (pw_or (pt_not (pt_val (pe_callB call_isi (by rfl) m_isinstance (by decide +kernel) (pa_cons (pv 2) (pa_cons (pe_bltn (v := .ty "int") (u := .type "int") (by rfl) m_int (by decide +kernel) rfl) pa_nil))))) (pw_or1 (pt_val (pe_callB call_isi (by rfl) m_isinstance (by decide +kernel) (pa_cons (pv 2) (pa_cons (pe_bltn (v := .ty "bool") (u := .type "bool") (by rfl) m_bool (by decide +kernel) rfl) pa_nil))))))) (pss_one (ps_ret pe_bl)) pss_nil)))) 
    (pss_one (ps_ret (pe_and (pe_cmpR op_le pe_int (pe_ix ix_tup (pv 0) pe_int (fun _ _ => rfl)) (nomark _)) (pe_one (pe_cmpR op_le (pe_ix ix_tup (pv 0) pe_int (fun _ _ => rfl)) (pe_ix ix_tup (pv 0) pe_int (fun _ _ => rfl)) (nomark _)))))))))), ?_⟩
    walk_at "ev"
    walk_at "nrm"
    refine isi1 hD (fun t e => by rw [e]; exact kT d) ?_
    cases hb : rowB 5 d with
    | false =>
      rw [queueD_len hb] at q
      cases d with
      | tuple ds =>
        obtain ⟨a, xs, rfl, hs, ha⟩ := Dp.seq_of (f := true) hD
        have hs : SqT K H a xs := hs
        refine ⟨_, rfl, iteF ?_⟩
        walk_at "ev"
        rw [decV2, dpa_len ha]
        have hb2 : decide ((ds.length : Int) = 5) = false := hb
        rw [hb2]
        exact iteT (q H fun _ _ e => e)
      | _ => exact ⟨_, rfl, iteT (iteT (q H fun _ _ e => e))⟩
    | true =>
      obtain ⟨c, u1, u2, u3, u4, u5, d1, d2, d3, d4, d5, rfl, rfl, hs, g1, g2, g3, g4, g5⟩ := five_of hD hb
      obtain ⟨_, hk2⟩ := (okT_seq (n := 27) (f := true)).mp hk
      have o1 := hk2 d1 (by simp)
      have o2 := hk2 d2 (by simp)
      have o3 := hk2 d3 (by simp)
      have mk : ∀ (d : PyData), okT 27 d → ∀ x, d = .str x → x.cps.size ≤ 1000 ∧ PyData.strOk x = true := fun d h x e => by
        subst e
        exact h
      have hq : queueD ks (.tuple [d1, d2, d3, d4, d5]) = queueC ks d1 d2 d3 d4 d5 := rfl
      rw [hq] at q
      refine ⟨_, rfl, iteF ?_⟩
      walk_at "ev"
      refine ⟨c, [u1, u2, u3, u4, u5], 0, u1, rfl, rfl, hs, atI_nat (j := 0) rfl, ?_⟩
      refine ⟨u1, d1, rfl, g1, mk d1 o1, fun H1 s1 => ?_⟩
      unfold queueC at q
      cases n1 : nameD d1 with
      | false =>
        rw [n1] at q
        exact ⟨_, rfl, iteT (iteT (q H1 s1))⟩
      | true =>
        rw [n1, Bool.true_and] at q
        refine ⟨_, rfl, iteF ?_⟩
        walk_at "ev"
        refine ⟨c, [u1, u2, u3, u4, u5], 1, u2, rfl, rfl, s1.sqT hs, atI_nat (j := 1) rfl, ?_⟩
        refine ⟨u2, d2, rfl, s1.dp g2, mk d2 o2, fun H2 s2 => ?_⟩
        have s12 := s1.trans s2
        cases n2 : nameD d2 with
        | false =>
          rw [queueE_n2 hks n2] at q
          exact ⟨_, rfl, iteT (iteT (q H2 s12))⟩
        | true =>
          refine ⟨_, rfl, iteF ?_⟩
          walk_at "ev"
          refine ⟨c, [u1, u2, u3, u4, u5], 2, u3, rfl, rfl, s12.sqT hs, atI_nat (j := 2) rfl, ?_⟩
          refine ⟨u3, d3, rfl, s12.dp g3, mk d3 o3, fun H3 s3 => ?_⟩
          have s13 := s12.trans s3
          cases n3 : nameD d3 with
          | false =>
            rw [queueE_n3 hks n3] at q
            exact ⟨_, rfl, iteT (q H3 s13)⟩
          | true =>
            obtain ⟨s, rfl⟩ := name_str n2
            obtain ⟨e, rfl⟩ := name_str n3
            refine ⟨_, rfl, iteF ?_⟩
            cases g2
            cases g3
            have hs3 := s13.sqT hs
            have hT3 := s13.sqT hT
            have qe : queueE ks (.str s) (.str e) d4 d5 = (decide (s ∈ ks) && (decide (e ∈ ks) && (!decide (s = e) && (numD 1 d4 && (numD 1 d5 && leD d5 d4))))) := rfl
            rw [qe] at q
            walk_at "ev"
            refine ⟨c, _, 1, .str s, rfl, rfl, hs3, atI_nat (j := 1) rfl, ?_⟩
            refine ⟨_, rfl, ?_⟩
            refine ⟨c, _, 2, .str e, rfl, rfl, hs3, atI_nat (j := 2) rfl, ?_⟩
            have ed : decide (V.str s = V.str e) = decide (s = e) := decide_eq_decide.mpr ⟨V.str.inj, congrArg _⟩
            walk_at "ev"
            rw [ed]
            cases h3 : decide (s = e) with
            | true =>
              rw [h3] at q
              refine iteT (iteT ?_)
              have : (decide (s ∈ ks) && (decide (e ∈ ks) && (!true && (numD 1 d4 && (numD 1 d5 && leD d5 d4))))) = false := by
                cases decide (s ∈ ks) <;> cases decide (e ∈ ks) <;> rfl
              rw [this] at q
              exact q H3 s13
            | false =>
              rw [h3] at q
              refine iteF ?_
              walk_at "ev"
              refine ⟨c, _, 1, .str s, rfl, rfl, hs3, atI_nat (j := 1) rfl, ?_⟩
              refine ⟨_, rfl, ?_⟩
              refine ⟨ta, _, rfl, .inr hT3, rfl, ?_, ?_⟩
              · rw [List.all_map, List.all_eq_true]
                exact fun _ _ => rfl
              · refine ⟨_, rfl, ?_⟩
                rw [in_strs]
                cases h1 : decide (s ∈ ks) with
                | false =>
                  rw [h1] at q
                  exact iteT (iteT (q H3 s13))
                | true =>
                  rw [h1, Bool.true_and] at q
                  refine iteF ?_
                  refine ⟨_, rfl, ?_⟩
                  refine ⟨c, _, 2, .str e, rfl, rfl, hs3, atI_nat (j := 2) rfl, ?_⟩
                  refine ⟨_, rfl, ?_⟩
                  refine ⟨ta, _, rfl, .inr hT3, rfl, ?_, ?_⟩
                  · rw [List.all_map, List.all_eq_true]
                    exact fun _ _ => rfl
                  · refine ⟨_, rfl, ?_⟩
                    rw [in_strs]
                    cases h2 : decide (e ∈ ks) with
                    | false =>
                      rw [h2] at q
                      exact iteT (q H3 s13)
                    | true =>
                      rw [h2, Bool.true_and] at q
                      have q2 : ∀ H', Same H H' → Q (.bl (numD 1 d4 && (numD 1 d5 && leD d5 d4))) H' := q
                      refine iteF ?_
                      walk_at "ev"
                      refine for_of ?_
                      refine .inr ?_
                      walk_at "ev"
                      try dsimp only [tC, tNil, tNoPart]
                      refine ⟨fun ⟨z, _⟩ => absurd z (show ¬ HT.sIx 5 0 (some 3) = 0 by decide), fun _ p hp => ⟨p, rfl, ⟨[u4, u5], sqt_of upd_same⟩, ?_⟩⟩
                      have s4 : Same H (upd H3 p (.tup (cutV [u1, .str s, .str e, u4, u5] (some 3) none))) := s13.trans (.upd hp)
                      have hp4 : (upd H3 p (.tup (cutV [u1, .str s, .str e, u4, u5] (some 3) none))) p = some (.tup [u4, u5]) := upd_same
                      generalize upd H3 p (.tup (cutV [u1, .str s, .str e, u4, u5] (some 3) none)) = H4 at s4 hp4 ⊢
                      have bad : isN d4 = false ∨ isN d5 = false → ∀ H', Same H H' → Q (.bl false) H' := fun hx H' e => by
                        have : (numD 1 d4 && (numD 1 d5 && leD d5 d4)) = false := by
                          rcases hx with hx | hx
                          · cases d4 <;> first | rfl | cases hx
                          · cases d5 <;> first | (cases numD 1 d4 <;> rfl) | cases hx
                        rw [this] at q2
                        exact q2 H' e
                      refine forR_it (walk_tup (K := K) (a := p) (xs := [u4, u5])) (fun i σ Hc => ∃ x2, σ = [some (.ref c), some (.ref ta), x2] ∧ Same H4 Hc ∧ ∀ d ∈ [d4, d5].take i, isN d = true) ⟨_, rfl, fun _ _ e => e, fun d hd => absurd hd List.not_mem_nil⟩ (fun i σ Hc _ hh => ?_) (fun i w σ Hc Hc' hi hh y => ?_) (fun σ Hc hh => ?_)
                      · obtain ⟨x2, rfl, e, _⟩ := hh
                        exact e.sqT (sqt_of hp4)
                      · obtain ⟨x2, rfl, e, hall⟩ := hh
                        obtain ⟨rfl, hv⟩ := y
                        obtain ⟨dd, hd, hvd⟩ := dpa_get (K := K) (H := H4) (.cons (s4.dp g4) (.cons (s4.dp g5) .nil)) hv
                        have hvd' := e.dp hvd
                        have s5 := s4.trans e
                        have hm := List.mem_of_getElem? hd
                        have bad2 : isN dd = false → ∀ H', Same H H' → Q (.bl false) H' := fun hx => bad (by
                          rcases mem2 hm with e | e
                          · exact .inl (by rw [← e]; exact hx)
                          · exact .inr (by rw [← e]; exact hx))
                        walk_at "ev"
                        walk_at "nrm"
                        refine isi1 hvd' (fun t e => by rw [e]; exact kI dd) ?_
                        cases dd with
                        | int i2 =>
                          refine ⟨_, rfl, iteF ?_⟩
                          walk_at "ev"
                          walk_at "nrm"
                          refine isi1 hvd' (fun t e => by rw [e]; exact kB (.int i2)) ?_
                          refine ⟨_, rfl, iteF ?_⟩
                          refine ⟨_, rfl, e, fun d3 hd3 => ?_⟩
                          rw [List.take_add_one, hd] at hd3
                          rcases List.mem_append.mp hd3 with hd3 | hd3
                          · exact hall d3 hd3
                          · rw [List.mem_singleton.mp hd3]
                            rfl
                        | bool b2 =>
                          refine ⟨_, rfl, iteF ?_⟩
                          walk_at "ev"
                          walk_at "nrm"
                          refine isi1 hvd' (fun t e => by rw [e]; exact kB (.bool b2)) ?_
                          refine ⟨_, rfl, iteT ?_⟩
                          exact bad2 rfl _ s5
                        | _ =>
                          refine ⟨_, rfl, iteT (iteT ?_)⟩
                          exact bad2 rfl _ s5
                      · obtain ⟨x2, rfl, e, hall⟩ := hh
                        have i4 := hall d4 (by simp)
                        have i5 := hall d5 (by simp)
                        obtain ⟨r, rfl⟩ : ∃ r, d4 = .int r := by
                          cases d4 <;> first | exact ⟨_, rfl⟩ | cases i4
                        obtain ⟨t, rfl⟩ : ∃ r, d5 = .int r := by
                          cases d5 <;> first | exact ⟨_, rfl⟩ | cases i5
                        cases g4
                        cases g5
                        have s5 := s4.trans e
                        have hs5 := s5.sqT hs
                        have e2 : (numD 1 (.int r) && (numD 1 (.int t) && leD (.int t) (.int r))) = (decide (1 ≤ t) && decide (t ≤ r)) := by
                          show (decide (1 ≤ r) && (decide (1 ≤ t) && decide (t ≤ r))) = _
                          by_cases h1 : 1 ≤ t
                          · by_cases h2 : t ≤ r
                            · rw [decide_eq_true h1, decide_eq_true h2, decide_eq_true (show 1 ≤ r by omega)]
                              rfl
                            · rw [decide_eq_false h2]
                              cases decide (1 ≤ r) <;> cases decide (1 ≤ t) <;> rfl
                          · rw [decide_eq_false h1]
                            cases decide (1 ≤ r) <;> rfl
                        rw [e2] at q2
                        walk_at "ev"
                        refine ⟨c, _, 4, .int t, rfl, rfl, hs5, atI_nat (j := 4) rfl, ?_⟩
                        walk_at "ev"
                        cases h1 : decide (1 ≤ t) with
                        | false =>
                          rw [h1] at q2
                          exact q2 _ s5
                        | true =>
                          rw [h1, Bool.true_and] at q2
                          walk_at "ev"
                          refine ⟨c, _, 4, .int t, rfl, rfl, hs5, atI_nat (j := 4) rfl, ?_⟩
                          refine ⟨_, rfl, ?_⟩
                          refine ⟨c, _, 3, .int r, rfl, rfl, hs5, atI_nat (j := 3) rfl, ?_⟩
                          walk_at "ev"
                          exact q2 _ s5
end
end Jl

set_option Elab.async false
set_option linter.all false
set_option maxRecDepth 100000
set_option maxHeartbeats 1000000
set_option pp.maxSteps 300
namespace Jl
open PySem PySem.Spec PyProof.Rows L2
open Evl (sz_of sz_lt)
local macro_rules | `(tactic| walk_at "at") => `(tactic| first | exact box0 | exact box1 | exact box2)
local macro_rules | `(tactic| walk_at "sq") => `(tactic| first | (show SqL _ _ _ _; assumption) | (show SqT _ _ _ _; assumption) | (show _ = some _; assumption))
local macro_rules | `(tactic| walk_at "side") => `(tactic| first
  | (show (0 : Int) < _; decide)
  | (show (0 : Int) < _; omega)
  | exact ⟨by decide, by decide, by decide⟩
  | exact sz_of (Nat.le_of_ble_eq_true rfl)
  | exact rfl
  | exact Or.inl (by decide)
  | exact Or.inr (by decide)
  | exact Or.inr ⟨by omega, by omega⟩
  | exact Or.inl ⟨by omega, by omega⟩
  | exact ⟨by decide, by decide +kernel⟩)
local macro_rules | `(tactic| walk_at "ev1") => `(tactic| first
  | refine ⟨_, rfl, ?_⟩
  | refine ⟨_, _, rfl, rfl, ?_⟩
  | refine ⟨_, _, _, _, rfl, rfl, (by walk_at "sq"), (by walk_at "at"), ?_⟩
  | refine ⟨_, _, rfl, (by walk_at "sq"), ?_⟩
  | refine ⟨_, _, rfl, Or.inl (by walk_at "sq"), ?_⟩
  | refine ⟨_, _, rfl, Or.inr (by walk_at "sq"), ?_⟩
  | refine Or.inl ⟨_, rfl, ?_⟩
  | refine Or.inr ⟨_, rfl, ?_⟩
  | refine ⟨(by walk_at "side"), ?_⟩
  | refine ⟨.inl ⟨rfl, _, (by walk_at "sq")⟩, ?_⟩
  | refine ⟨_, _, rfl, ?_⟩)
local macro_rules | `(tactic| walk_at "nrm") => `(tactic| dsimp only [tNil, tCons, tC, tCB])
local macro_rules | `(tactic| walk_at "ev") => `(tactic| repeat (walk_at "ev1"))

abbrev sc_w_is_web_N : List Str := ["_law_matter", "_law_row", "_law_tag"]
abbrev s_w_is_web : Stmt := topS 21
theorem sc_w_is_web : FnScope ["_law_matter", "_law_row", "_law_tag"] ["_law_matter"] (defScope s_w_is_web) := ⟨rfl, rfl, rfl, by decide +kernel, rfl, by decide +kernel, by decide +kernel⟩
theorem eqv_tnil {ds : List PyData} : PyData.eqv (.tuple ds) (.tuple []) = ds.isEmpty := by
  cases ds with
  | nil => simp [PyData.eqv, PyData.eqvAll]
  | cons d ds => simp [PyData.eqv, PyData.eqvAll]
theorem shaped_tnil : SeqAt.shaped (.tuple []) = true := by
  unfold SeqAt.shaped
  simp [PyData.canLay0, PyData.canLayAll0, PyData.depth, PyData.depthAll]
theorem shaped_filt {n : Nat} {ds : List PyData} {g : PyData → Bool} (h1 : ds.length ≤ 1000) (h2 : ∀ d ∈ ds, okT n d) (hn : n ≤ 50) : SeqAt.shaped (.list (ds.filter g)) = true :=
  okT_shaped (n := n + 1) (d := .list (ds.filter g)) ⟨Nat.le_trans (List.length_filter_le _ _) h1, fun d hd => h2 d (List.mem_filter.mp hd).1⟩ (by omega)
section
variable {P : Program} {w : World} {K : PySem.W.Frag} {mg : Str → Option Value} {base : Heap}
theorem ok_w_is_web {f fM fG fR : Addr} {fd fdM fdG fdR : FuncData} {k : Nat} (F : Fun K "_law_is_web" "_law_is_web" s_w_is_web f fd)
    (G_w_is_mark : FnOk P w K mg base CX0 k fM fdM ["_law_matter"] (spMark K)) (g_w_is_mark : mg "_law_is_mark" = some (.ref fM)) (F_w_is_mark : Fun K "_law_is_mark" "_law_is_mark" s_w_is_mark fM fdM) (b_w_is_mark : Binds K fdM ["_law_matter"] [])
    (G_w_goes_up : FnOk P w K mg base CX0 k fG fdG ["_law_some"] (spAsc K)) (g_w_goes_up : mg "_law_goes_up" = some (.ref fG)) (F_w_goes_up : Fun K "_law_goes_up" "_law_goes_up" s_w_goes_up fG fdG) (b_w_goes_up : Binds K fdG ["_law_some"] [])
    (G_w_is_row : FnOk P w K mg base CX0 k fR fdR ["_law_matter", "_law_tags"] (spRowL K)) (g_w_is_row : mg "_law_is_row" = some (.ref fR)) (F_w_is_row : Fun K "_law_is_row" "_law_is_row" s_w_is_row fR fdR) (b_w_is_row : Binds K fdR ["_law_matter", "_law_tags"] [])
    (m_isinstance : mg "isinstance" = none) (m_tuple : mg "tuple" = none) (m_len : mg "len" = none) : FnOk P w K mg base CX0 (k + 1) f fd ["_law_matter"] (spNet K) := by
  refine F.ok sc_w_is_web (fun vs H Q E h => ?_) (fun cdv A outer s0 H vs Q E hr h => ?_)
  · obtain ⟨v, d, rfl, _⟩ := h
    rfl
  · obtain ⟨v, d, rfl, hD, hk, q⟩ := h
    refine ⟨_, (pss_cons (ps_if (PW.pt (pw_or (pt_not (pt_val (pe_callB call_isi (by rfl) m_isinstance (by decide +kernel) (pa_cons (pv 0) (pa_cons (pe_bltn (v := .ty "tuple") (u := .type "tuple") (by rfl) m_tuple (by decide +kernel) rfl) pa_nil))))) (pw_or1 (pt_cmpR op_ne (pe_callB call_len_seq (by rfl) m_len PySem.boot_len (pa_cons (pv 0) pa_nil)) pe_int (nomark _))))) (pss_one (ps_ret pe_bl)) pss_nil) 
    (pss_cons (ps_if (PW.pt (pw_or (pt_not (pt_val (pe_callB call_isi (by rfl) m_isinstance (by decide +kernel) (pa_cons (pe_ix ix_lt (pv 0) pe_int (fun _ _ => rfl)) (pa_cons (pe_bltn (v := .ty "tuple") (u := .type "tuple") (by rfl) m_tuple (by decide +kernel) rfl) pa_nil))))) (pw_or (pt_not (pt_val (pe_callB call_isi (by rfl) m_isinstance (by decide +kernel) (pa_cons (pe_ix ix_lt (pv 0) pe_int (fun _ _ => rfl)) (pa_cons (pe_bltn (v := .ty "tuple") (u := .type "tuple") (by rfl) m_tuple (by decide +kernel) rfl) pa_nil))))) (pw_or1 (pt_cmpR (op_eqD hr.units) (pe_ix ix_lt (pv 0) pe_int (fun _ _ => rfl)) (pe_tup pa_nil) (nomark _)))))) (pss_one (ps_ret pe_bl)) pss_nil) 
    (pss_cons (ps_if (PW.pt (pw_or (pt_cmpR (op_neD hr.units) (pe_lcX (pe_lc (own := [("_law_tag", 2)]) (g := gName 2) (tt := tNot (tB (tCall (spMark K) [] E0 (tCons (tVar 2) tNil)))) (te := tVar 2) (by rfl) sc_w_is_web.nd (pi_seq (pe_ix ix_lt (pv 0) pe_int (fun _ _ => rfl))) (blkOk_by (own := [("_law_tag", 2)]) (N := sc_w_is_web_N) (sc := defScope s_w_is_web) (by decide +kernel)) (fun _ _ _ _ _ => pg_name (i := 2) sc_w_is_web.nd rfl (Or.inl rfl)) (fun _ _ _ _ _ => (pts_one (pt_not (pt_val (pe_call G_w_is_mark hr (by rfl) g_w_is_mark F_w_is_mark.kp b_w_is_mark .nil pass0 (pa_cons (pv 2) pa_nil)))))) (fun _ _ _ _ _ => (pv 2)))) (pe_lst pa_nil) (nomark _)) (pw_or1 (pt_not (pt_val (pe_call G_w_goes_up hr (by rfl) g_w_goes_up F_w_goes_up.kp b_w_goes_up .nil pass0 (pa_cons (pe_ix ix_lt (pv 0) pe_int (fun _ _ => rfl)) pa_nil))))))) (pss_one (ps_ret pe_bl)) pss_nil) 
    (pss_cons (ps_if (pt_cmpR (op_neD hr.units) (pe_lcX (pe_lc (own := [("_law_row", 1)]) (g := gName 1) (tt := tNot (tB (tCall (spRowL K) [] E0 (tCons (tVar 1) (tCons (tOp (rIxF K) (tVar 0) (tC (.int 0))) tNil))))) (te := tVar 1) (by rfl) sc_w_is_web.nd (pi_seq (pe_ix ix_lt (pv 0) pe_int (fun _ _ => rfl))) (blkOk_by (own := [("_law_row", 1)]) (N := sc_w_is_web_N) (sc := defScope s_w_is_web) (by decide +kernel)) (fun _ _ _ _ _ => pg_name (i := 1) sc_w_is_web.nd rfl (Or.inl rfl)) (fun _ _ _ _ _ => (pts_one (pt_not (pt_val (pe_call G_w_is_row hr (by rfl) g_w_is_row F_w_is_row.kp b_w_is_row .nil pass0 (pa_cons (pv 1) (pa_cons (pe_ix ix_lt (pv 0) pe_int (fun _ _ => rfl)) pa_nil))))))) (fun _ _ _ _ _ => (pv 1)))) (pe_lst pa_nil) (nomark _)) (pss_one (ps_ret pe_bl)) pss_nil) 
    (pss_one (ps_ret (pe_call G_w_goes_up hr (by rfl) g_w_goes_up F_w_goes_up.kp b_w_goes_up .nil pass0 (pa_cons (pe_lcX (pe_lc (own := [("_law_row", 1)]) (g := gName 1) (tt := tYes) (te := tOp (rIxF K) (tVar 1) (tC (.int 0))) (by rfl) sc_w_is_web.nd (pi_seq (pe_ix ix_lt (pv 0) pe_int (fun _ _ => rfl))) (blkOk_by (own := [("_law_row", 1)]) (N := sc_w_is_web_N) (sc := defScope s_w_is_web) (by decide +kernel)) (fun _ _ _ _ _ => pg_name (i := 1) sc_w_is_web.nd rfl (Or.inl rfl)) (fun _ _ _ _ _ => pts_nil) (fun _ _ _ _ _ => (pe_ix ix_lt (pv 1) pe_int (fun _ _ => rfl))))) pa_nil)))))))), ?_⟩
    walk_at "ev"
    walk_at "nrm"
    refine isi1 hD (fun t e => by rw [e]; exact kT d) ?_
    cases hb : rowB 2 d with
    | false =>
      rw [netB_no hb] at q
      cases d with
      | tuple ds =>
        obtain ⟨a, xs, rfl, hs, ha⟩ := Dp.seq_of (f := true) hD
        have hs : SqT K H a xs := hs
        refine ⟨_, rfl, iteF ?_⟩
        walk_at "ev"
        rw [decV2, dpa_len ha]
        have hb2 : decide ((ds.length : Int) = 2) = false := hb
        rw [hb2]
        exact iteT (q H fun _ _ e => e)
      | _ => exact ⟨_, rfl, iteT (iteT (q H fun _ _ e => e))⟩
    | true =>
      obtain ⟨c, u1, u2, d1, d2, rfl, rfl, hs, g1, g2⟩ := pair_of hD hb
      have hs : SqT K H c [u1, u2] := hs
      obtain ⟨_, hk2⟩ := (okT_seq (n := 29) (f := true)).mp hk
      have ok1 := hk2 d1 (by simp)
      have ok2 := hk2 d2 (by simp)
      have hqE : netB (.tuple [d1, d2]) = netC d1 d2 := rfl
      rw [hqE] at q
      have i0 : atI [u1, u2] 0 = some u1 := atI_nat (j := 0) rfl
      have i1 : atI [u1, u2] 1 = some u2 := atI_nat (j := 1) rfl
      refine ⟨_, rfl, iteF ?_⟩
      walk_at "ev"
      refine rIxF_at (f := true) hs i0 ?_
      walk_at "ev"
      walk_at "nrm"
      refine isi1 g1 (fun t e => by rw [e]; exact kT d1) ?_
      cases d1 with
      | tuple wd =>
        refine ⟨_, rfl, iteF ?_⟩
        walk_at "ev"
        refine rIxF_at (f := true) hs i1 ?_
        walk_at "ev"
        walk_at "nrm"
        refine isi1 g2 (fun t e => by rw [e]; exact kT d2) ?_
        cases d2 with
        | tuple qd =>
          refine ⟨_, rfl, iteF ?_⟩
          have hqF : netC (.tuple wd) (.tuple qd) = netE wd qd := rfl
          rw [hqF] at q
          obtain ⟨kw1, kw2⟩ := (okT_seq (n := 28) (f := true)).mp ok1
          obtain ⟨kq1, kq2⟩ := (okT_seq (n := 28) (f := true)).mp ok2
          walk_at "ev"
          refine rIxF_at (f := true) hs i0 ?_
          refine ⟨by decide, fun Z hZ => ?_⟩
          have sZ : Same H (upd H Z (.tup [])) := .upd hZ
          have dZ : Dp K (upd H Z (.tup [])) (.ref Z) (.tuple []) := dpn_tup hZ .nil
          try dsimp only [tNil]
          generalize upd H Z (.tup []) = H1 at sZ dZ ⊢
          refine ⟨.tuple wd, .tuple [], sZ.dp g1, dZ, okT_shaped ok1 (by decide), shaped_tnil, ?_⟩
          rw [eqv_tnil]
          unfold netE at q
          cases he : wd.isEmpty with
          | true =>
            rw [he] at q
            exact ⟨_, rfl, iteT (q H1 sZ)⟩
          | false =>
            rw [he] at q
            refine ⟨_, rfl, iteF ?_⟩
            obtain ⟨aw, xw, rfl, hw, haw⟩ := Dp.seq_of (f := true) g1
            obtain ⟨aq, xq, rfl, hq, haq⟩ := Dp.seq_of (f := true) g2
            walk_at "ev"
            refine lc_filtS (fb := true) (fun d => !nameD d) (fun R' r => ⟨_, rfl, rIxF_at (f := true) (sZ.sqT hs) i0 r⟩) (sZ.sqF hw) (sZ.dpa haw) kw1 (fun x => rfl) (fun x => rfl) (fun x d H2 hd e1 hx Q' q' => ?_) (fun D ys H2 s2 hD0 h1 h2 => ?_)
            · exact ⟨_, rfl, x, d, rfl, hx, fun y ey => by
                have := kw2 d hd
                rw [ey] at this
                exact this, fun H3 s3 => ⟨_, rfl, q' H3 s3⟩⟩
            · walk_at "ev"
              intro N hN
              have s3 := Same.upd (o := .lst []) hN
              have s03 := (sZ.trans s2).trans s3
              refine ⟨.list (wd.filter fun d => !nameD d), .list [], .lst (sql_of (s3 _ _ h1)) (s3.dpa h2), .lst (sql_of upd_same) .nil, shaped_filt kw1 kw2 (by decide), shaped_nil2, ?_⟩
              rw [eqv_nil2, filt_empty]
              generalize upd H2 N (.lst []) = H3 at s03 ⊢
              cases hn : wd.all nameD with
              | false =>
                rw [hn] at q
                exact ⟨_, rfl, iteT (iteT (q H3 s03))⟩
              | true =>
                rw [hn] at q
                refine ⟨_, rfl, iteF ?_⟩
                obtain ⟨ks, rfl, hks⟩ := names_strs hn
                rw [strsOf_map] at q
                walk_at "ev"
                refine rIxF_at (f := true) (s03.sqT hs) i0 ?_
                refine ⟨.ref aw, true, ks.map PyData.str, rfl, s03.dp g1, kw1, alike_strs, fun H4 s4 => ?_⟩
                have s04 := s03.trans s4
                cases hA : ascD (ks.map PyData.str) with
                | false =>
                  rw [hA] at q
                  exact ⟨_, rfl, iteT (q H4 s04)⟩
                | true =>
                  rw [hA] at q
                  refine ⟨_, rfl, iteF ?_⟩
                  have exw := dpa_strs_of haw
                  subst exw
                  rw [List.length_map] at kw1
                  walk_at "ev"
                  refine lc_filtS (fb := true) (fun d => !queueD ks d) (fun R' r => ⟨_, rfl, rIxF_at (f := true) (s04.sqT hs) i1 r⟩) (s04.sqF hq) (s04.dpa haq) kq1 (fun x => rfl) (fun x => rfl) (fun x d H5 hd e1 hx Q' q' => ?_) (fun D5 ys H5 s5 hD5 h5 h6 => ?_)
                  · exact ⟨_, rfl, _, rfl, rIxF_at (f := true) (e1.sqT (s04.sqT hs)) i0 ⟨x, d, aw, ks, rfl, hx, e1.sqT (s04.sqT hw), hks, kq2 d hd, kw1, fun H6 s6 => ⟨_, rfl, q' H6 s6⟩⟩⟩
                  · walk_at "ev"
                    intro N2 hN2
                    have s6 := Same.upd (o := .lst []) hN2
                    have s06 := (s04.trans s5).trans s6
                    refine ⟨.list (qd.filter fun d => !queueD ks d), .list [], .lst (sql_of (s6 _ _ h5)) (s6.dpa h6), .lst (sql_of upd_same) .nil, shaped_filt kq1 kq2 (by decide), shaped_nil2, ?_⟩
                    rw [eqv_nil2, filt_empty]
                    generalize upd H5 N2 (.lst []) = H6 at s06 ⊢
                    cases hQ : qd.all (queueD ks) with
                    | false =>
                      rw [hQ] at q
                      exact ⟨_, rfl, iteT (q H6 s06)⟩
                    | true =>
                      rw [hQ] at q
                      refine ⟨_, rfl, iteF ?_⟩
                      obtain ⟨hs2, eh⟩ := heads_strs hQ
                      walk_at "ev"
                      refine lc_data (fb := true) (S := []) (ds := qd) headD (fun R' r => ⟨_, rfl, rIxF_at (f := true) (s06.sqT hs) i1 r⟩) (s06.sqF hq) (by rw [cutS_nil]; exact s06.dpa haq) Trk.nil kq1 (fun x => rfl) (fun x d H7 T hd t1 hx Q' q' => ?_) (fun D7 ys7 H7 s7 hD7 h7 h8 => ?_)
                      · obtain ⟨x1, y1, z1, u1, t1', rfl, _⟩ := queueD_of (List.all_eq_true.mp hQ d hd)
                        obtain ⟨ar, xr, rfl, hr1, hr2⟩ := Dp.seq_of (f := true) hx
                        cases hr2 with
                        | cons k1 k2 =>
                          exact ⟨_, rfl, rIxF_at (cutS_le.sqF hr1) (atI_nat (j := 0) rfl) (q' H7 _ (fun _ _ e => e) k1)⟩
                      · rw [cutS_nil, eh] at h8
                        rw [eh] at q
                        walk_at "ev"
                        refine ⟨.ref D7, false, hs2.map PyData.str, rfl, .lst (sql_of h7) h8, ?_, alike_strs, fun H8 s8 => ?_⟩
                        · rw [← eh, List.length_map]
                          exact kq1
                        · exact q H8 (s06.trans (s7.trans s8))
        | _ =>
          refine ⟨_, rfl, iteT (iteT ?_)⟩
          exact q H fun _ _ e => e
      | _ =>
        refine ⟨_, rfl, iteT (iteT ?_)⟩
        cases d2 <;> exact q H fun _ _ e => e
end
end Jl

set_option Elab.async false
set_option linter.all false
set_option maxRecDepth 100000
set_option maxHeartbeats 1000000
set_option pp.maxSteps 300
namespace Jl
open PySem PySem.Spec PyProof.Rows L2
open Evl (sz_of sz_lt)
local macro_rules | `(tactic| walk_at "at") => `(tactic| first | exact box0 | exact box1 | exact box2)
local macro_rules | `(tactic| walk_at "sq") => `(tactic| first | (show SqL _ _ _ _; assumption) | (show SqT _ _ _ _; assumption) | (show _ = some _; assumption))
local macro_rules | `(tactic| walk_at "side") => `(tactic| first
  | (show (0 : Int) < _; decide)
  | (show (0 : Int) < _; omega)
  | exact ⟨by decide, by decide, by decide⟩
  | exact sz_of (Nat.le_of_ble_eq_true rfl)
  | exact rfl
  | exact Or.inl (by decide)
  | exact Or.inr (by decide)
  | exact Or.inr ⟨by omega, by omega⟩
  | exact Or.inl ⟨by omega, by omega⟩
  | exact ⟨by decide, by decide +kernel⟩)
local macro_rules | `(tactic| walk_at "ev1") => `(tactic| first
  | refine ⟨_, rfl, ?_⟩
  | refine ⟨_, _, rfl, rfl, ?_⟩
  | refine ⟨_, _, _, _, rfl, rfl, (by walk_at "sq"), (by walk_at "at"), ?_⟩
  | refine ⟨_, _, rfl, (by walk_at "sq"), ?_⟩
  | refine ⟨_, _, rfl, Or.inl (by walk_at "sq"), ?_⟩
  | refine ⟨_, _, rfl, Or.inr (by walk_at "sq"), ?_⟩
  | refine Or.inl ⟨_, rfl, ?_⟩
  | refine Or.inr ⟨_, rfl, ?_⟩
  | refine ⟨(by walk_at "side"), ?_⟩
  | refine ⟨.inl ⟨rfl, _, (by walk_at "sq")⟩, ?_⟩
  | refine ⟨_, _, rfl, ?_⟩)
local macro_rules | `(tactic| walk_at "nrm") => `(tactic| dsimp only [tNil, tCons, tC, tCB])
local macro_rules | `(tactic| walk_at "ev") => `(tactic| repeat (walk_at "ev1"))

abbrev sc_w_hand_right_N : List Str := ["_law_good", "_law_some", "_law_deep", "_law_turn", "_law_due", "_law_told", "_law_own"]
abbrev s_w_hand_right : Stmt := topS 23
theorem sc_w_hand_right : FnScope ["_law_good", "_law_some", "_law_deep", "_law_turn", "_law_due", "_law_told", "_law_own"] [] (defScope s_w_hand_right) := ⟨rfl, rfl, rfl, by decide +kernel, rfl, by decide +kernel, by decide +kernel⟩
/-! ### data written out: what an expression makes, by its data alone -/
def Is (K : PySem.W.Frag) (H0 : Hp) (te : TE) (d : PyData) (σ : L2.St) : Prop := ∀ (H : Hp) (Q : VK), Same H0 H → (∀ H' v, Same H H' → Dp K H' v d → Q v H') → te σ H Q
def Are (K : PySem.W.Frag) (H0 : Hp) (t : TA) (ds : List PyData) (σ : L2.St) : Prop := ∀ (H : Hp) (Q : List V → Hp → Prop), Same H0 H → (∀ H' vs, Same H H' → DpAll K H' vs ds → Q vs H') → t σ H Q
section
variable {K : PySem.W.Frag} {H0 : Hp} {σ : L2.St}
theorem is_int {i : Int} : Is K H0 (tC (.int i)) (.int i) σ := fun H Q _ q => q H _ (fun _ _ e => e) (.int i)
theorem is_str {x : Str} : Is K H0 (tC (.str x)) (.str x) σ := fun H Q _ q => q H _ (fun _ _ e => e) (.str x)
theorem is_bl {b : Bool} : Is K H0 (tC (.bl b)) (.bool b) σ := fun H Q _ q => q H _ (fun _ _ e => e) (.bl b)
theorem is_non : Is K H0 (tC .non) .none σ := fun H Q _ q => q H _ (fun _ _ e => e) .non
theorem is_neg {i : Int} : Is K H0 (tUn (rU fun i => .int (-i)) (tC (.int i))) (.int (-i)) σ := fun H Q _ q => ⟨i, rfl, q H _ (fun _ _ e => e) (.int (-i))⟩
theorem is_pow {i j : Int} (h : CPow i j) : Is K H0 (tOp (rI CPow fun i j => .int (i ^ j.toNat)) (tC (.int i)) (tC (.int j))) (.int (i ^ j.toNat)) σ := fun H Q _ q => ⟨i, j, rfl, rfl, h, q H _ (fun _ _ e => e) (.int _)⟩
theorem are_nil : Are K H0 tNil [] σ := fun H Q _ q => q H _ (fun _ _ e => e) .nil
theorem are_cons {te : TE} {t : TA} {d : PyData} {ds : List PyData} (h1 : Is K H0 te d σ) (h2 : Are K H0 t ds σ) : Are K H0 (tCons te t) (d :: ds) σ := fun H Q e q =>
  h1 H _ e fun H1 v s1 d1 => h2 H1 _ (e.trans s1) fun H2 vs s2 d2 => q H2 (v :: vs) (s1.trans s2) (.cons (s2.dp d1) d2)
theorem is_tup {t : TA} {ds : List PyData} (h : Are K H0 t ds σ) (hl : ds.length ≤ 1000) : Is K H0 (tTup t) (.tuple ds) σ := fun H Q e q =>
  h H _ e fun H1 vs s1 d1 => ⟨Nat.le_of_lt (sz_lt (by rw [dpa_len d1]; omega)), fun p hp => q _ _ (s1.trans (.upd hp)) (dpn_tup hp d1)⟩
theorem is_lst {t : TA} {ds : List PyData} (h : Are K H0 t ds σ) (hl : ds.length ≤ 1000) : Is K H0 (tLst t) (.list ds) σ := fun H Q e q =>
  h H _ e fun H1 vs s1 d1 => ⟨Nat.le_of_lt (sz_lt (by rw [dpa_len d1]; omega)), fun p hp => q _ _ (s1.trans (.upd hp)) (dpn_lst hp d1)⟩
/-- a new list, tracked -/
theorem new_lst {t : TA} {ds : List PyData} {H : Hp} {Q : VK} (h : Are K H t ds σ) (hl : ds.length ≤ 1000) (q : ∀ H' p vs, Same H H' → H p = none → H' p = some (.lst vs) → DpAll K H' vs ds → Q (.ref p) H') : tLst t σ H Q :=
  h H _ (fun _ _ e => e) fun H1 vs s1 d1 => ⟨Nat.le_of_lt (sz_lt (by rw [dpa_len d1]; omega)), fun p hp => q _ p vs (s1.trans (.upd hp)) (s1.free hp) upd_same ((Same.upd hp).dpa d1)⟩
theorem new_is {te : TE} {d : PyData} {H : Hp} {Q : VK} (h : Is K H te d σ) (q : ∀ H' v, Same H H' → Dp K H' v d → Q v H') : te σ H Q := h H Q (fun _ _ e => e) q
theorem is_var {i : Nat} {v : V} {d : PyData} (hi : σ[i]? = some (some v)) (hd : Dp K H0 v d) : Is K H0 (tVar i) d σ := fun H Q e q => ⟨v, hi, q H v (fun _ _ e => e) (e.dp hd)⟩
end
local macro_rules | `(tactic| walk_at "d") => `(tactic| repeat (first
  | exact is_int
  | exact is_str
  | exact is_bl
  | exact is_non
  | exact is_neg
  | exact is_pow ⟨by decide, by decide, by decide⟩
  | exact is_var rfl (by assumption)
  | exact are_nil
  | refine is_tup ?_ ?_
  | refine is_lst ?_ ?_
  | refine are_cons ?_ ?_
  | (show List.length _ ≤ 1000; decide)))
def gD : PyData := .tuple [.tuple [.str (Str.ofString "a"), .str (Str.ofString "b.1")], .tuple [.tuple [.str (Str.ofString "p"), .str (Str.ofString "a"), .str (Str.ofString "b.1"), .int (10 ^ (Int.toNat 40)), .int (10 ^ (Int.toNat 40))], .tuple [.str (Str.ofString "q"), .str (Str.ofString "b.1"), .str (Str.ofString "a"), .int 1, .int 1], .tuple [.str (Str.ofString "r"), .str (Str.ofString "a"), .str (Str.ofString "b.1"), .int 2, .int 1]]]
def deepN : Nat → PyData
  | 0 => .int 7
  | n + 1 => if n < 5 then .tuple [deepN n] else .list [deepN n]
def hs0 : List PyData := [gD, .tuple [.tuple [.str (Str.ofString "a")], .tuple []], .tuple [.tuple [], .tuple []], .tuple [.tuple [.str (Str.ofString "a"), .str (Str.ofString "a")], .tuple []], .tuple [.tuple [.str (Str.ofString "b"), .str (Str.ofString "a")], .tuple []], .tuple [.tuple [.str (Str.ofString "a"), .str (Str.ofString "1b")], .tuple []], .tuple [.tuple [.str (Str.ofString "a.")], .tuple []]]
def hs1 : List PyData := [.tuple [.tuple [.str (Str.ofString "a..1")], .tuple []], .tuple [.tuple [.str (Str.ofString ".a")], .tuple []], .tuple [.tuple [.str (Str.ofString "aB")], .tuple []], .tuple [.tuple [.str (Str.ofString "a-b")], .tuple []], .tuple [.str (Str.ofString "a"), .tuple []], .tuple [.tuple [.str (Str.ofString "a")], .str (Str.ofString "")]]
def hs2 : List PyData := [.tuple [.list [.str (Str.ofString "a")], .tuple []], .list [.tuple [.str (Str.ofString "a")], .tuple []], .tuple [.tuple [.str (Str.ofString "a"), .str (Str.ofString "b")], .tuple [.tuple [.str (Str.ofString "p"), .str (Str.ofString "a"), .str (Str.ofString "b"), .int 1, .int 2]]]]
def hs3 : List PyData := [.tuple [.tuple [.str (Str.ofString "a"), .str (Str.ofString "b")], .tuple [.tuple [.str (Str.ofString "p"), .str (Str.ofString "a"), .str (Str.ofString "b"), .int 1, .int 0]]]]
def hs4 : List PyData := [.tuple [.tuple [.str (Str.ofString "a"), .str (Str.ofString "b")], .tuple [.tuple [.str (Str.ofString "p"), .str (Str.ofString "a"), .str (Str.ofString "b"), .bool true, .int 1]]], .tuple [.tuple [.str (Str.ofString "a"), .str (Str.ofString "b")], .tuple [.tuple [.str (Str.ofString "p"), .str (Str.ofString "a"), .str (Str.ofString "b"), .int 1, .bool true]]]]
def hs5 : List PyData := [.tuple [.tuple [.str (Str.ofString "a"), .str (Str.ofString "b")], .tuple [.tuple [.str (Str.ofString "p"), .str (Str.ofString "a"), .str (Str.ofString "a"), .int 1, .int 1]]], .tuple [.tuple [.str (Str.ofString "a"), .str (Str.ofString "b")], .tuple [.tuple [.str (Str.ofString "p"), .str (Str.ofString "a"), .str (Str.ofString "c"), .int 1, .int 1]]]]
def hs6 : List PyData := [.tuple [.tuple [.str (Str.ofString "a"), .str (Str.ofString "b")], .tuple [.tuple [.str (Str.ofString "a"), .str (Str.ofString "a"), .str (Str.ofString "b"), .int 2, .int 1]]], .tuple [.tuple [.str (Str.ofString "a"), .str (Str.ofString "b")], .list [.tuple [.str (Str.ofString "p"), .str (Str.ofString "a"), .str (Str.ofString "b"), .int 1, .int 1]]]]
def hs7 : List PyData := [.tuple [.tuple [.str (Str.ofString "a"), .str (Str.ofString "b")], .tuple [.tuple [.str (Str.ofString "p"), .str (Str.ofString "a"), .str (Str.ofString "b"), .int 1, .int 1], .tuple [.str (Str.ofString "p"), .str (Str.ofString "b"), .str (Str.ofString "a"), .int 1, .int 1]]], .tuple [.tuple [.str (Str.ofString "a"), .str (Str.ofString "b")], .tuple [.tuple [.str (Str.ofString "P"), .str (Str.ofString "a"), .str (Str.ofString "b"), .int 1, .int 1]]]]
def hs8 : List PyData := [.tuple [.tuple [.str (Str.ofString "a"), .str (Str.ofString "b")], .tuple [.tuple [.str (Str.ofString "q"), .str (Str.ofString "a"), .str (Str.ofString "b"), .int 1, .int 1], .tuple [.str (Str.ofString "p"), .str (Str.ofString "b"), .str (Str.ofString "a"), .int 1, .int 1]]], .none, .int 0, .bool true, .str (Str.ofString ""), .str (Str.ofString "a"), .tuple [], .tuple [.tuple []], .list []]
def hs9 : List PyData := [deepN 10, .tuple [.tuple [.str (Str.ofString "a")], deepN 10], .tuple [deepN 10, .tuple []], .tuple [.tuple [.str (Str.ofString "ab-")], .tuple []], .tuple [.tuple [.str (Str.ofString "abc.dE")], .tuple []]]
/-- keywords only -/
def gOnly {α : Type} (us ws : List α) : List α := match us with
  | [] => ws
  | _ :: _ => []
theorem vals_only {vs : List V} {us : List Value} {zs : List V} {ws : List Value} (h : Vals vs us) (h2 : Vals zs ws) : Vals (gOnly vs zs) (gOnly us ws) := by
  cases h with
  | nil => exact h2
  | cons _ _ => exact .nil
theorem dpa_bls {K : PySem.W.Frag} {H : Hp} : ∀ {bs : List Bool}, DpAll K H (bs.map V.bl) (bs.map PyData.bool)
  | [] => .nil
  | b :: bs => .cons (.bl b) dpa_bls
/-! ### new lists out of lists -/
def MkL (K : PySem.W.Frag) (H0 : Hp) (te : TE) (ds : List PyData) (σ : L2.St) : Prop := ∀ (H : Hp) (Q : VK), Same H0 H → (∀ H' p vs, Same H H' → H' p = some (.lst vs) → DpAll K H' vs ds → Q (.ref p) H') → te σ H Q
theorem mk_lst {K : PySem.W.Frag} {H0 : Hp} {σ : L2.St} {t : TA} {ds : List PyData} (h : Are K H0 t ds σ) (hl : ds.length ≤ 1000) : MkL K H0 (tLst t) ds σ := fun H Q e q =>
  h H _ e fun H1 vs s1 d1 => ⟨Nat.le_of_lt (sz_lt (by rw [dpa_len d1]; omega)), fun p hp => q _ p vs (s1.trans (.upd hp)) upd_same ((Same.upd hp).dpa d1)⟩
theorem mk_var {K : PySem.W.Frag} {H0 : Hp} {σ : L2.St} {i : Nat} {p : Addr} {vs : List V} {ds : List PyData} (hi : σ[i]? = some (some (.ref p))) (hp : H0 p = some (.lst vs)) (hd : DpAll K H0 vs ds) : MkL K H0 (tVar i) ds σ := fun H Q e q =>
  ⟨_, hi, q H p vs (fun _ _ e => e) (e _ _ hp) (e.dpa hd)⟩
theorem mk_cat {K : PySem.W.Frag} {H0 : Hp} {σ : L2.St} {ta tb : TE} {ds es : List PyData} (h1 : MkL K H0 ta ds σ) (h2 : MkL K H0 tb es σ) (hl : ds.length + es.length ≤ 1000) : MkL K H0 (tOp rCat ta tb) (ds ++ es) σ := fun H Q e q =>
  h1 H _ e fun H1 p1 v1 s1 g1 d1 => h2 H1 _ (e.trans s1) fun H2 p2 v2 s2 g2 d2 => ⟨p1, p2, v1, v2, rfl, rfl, s2 _ _ g1, g2, Nat.le_of_lt (sz_lt (by rw [dpa_len d1, dpa_len d2]; omega)), fun p hp =>
    q _ p _ ((s1.trans s2).trans (.upd hp)) upd_same ((Same.upd hp).dpa (dpa_app (s2.dpa d1) d2))⟩
theorem dpa_rep {K : PySem.W.Frag} {H : Hp} {vs : List V} {ds : List PyData} (h : DpAll K H vs ds) : ∀ n : Nat, DpAll K H (List.replicate n vs).flatten (List.replicate n ds).flatten
  | 0 => .nil
  | n + 1 => by
    rw [List.replicate_succ, List.replicate_succ, List.flatten_cons, List.flatten_cons]
    exact dpa_app h (dpa_rep h n)
theorem mk_rep {K : PySem.W.Frag} {H0 : Hp} {σ : L2.St} {ta : TE} {ds : List PyData} {k : Int} (h1 : MkL K H0 ta ds σ) (hk : 0 ≤ k ∧ k ≤ 1000) (hl : ds.length * k.toNat ≤ 1000) : MkL K H0 (tOp rRep ta (tC (.int k))) (List.replicate k.toNat ds).flatten σ := fun H Q e q =>
  h1 H _ e fun H1 p1 v1 s1 g1 d1 => ⟨p1, k, v1, rfl, rfl, g1, by omega, by omega, Nat.le_of_lt (sz_lt (by rw [dpa_len d1]; omega)), fun p hp =>
    q _ p _ (s1.trans (.upd hp)) upd_same ((Same.upd hp).dpa (dpa_rep d1 _))⟩
def hAll : List PyData := (((((((((hs0 ++ hs1) ++ hs2) ++ hs3) ++ hs4) ++ hs5) ++ hs6) ++ hs7) ++ hs8) ++ hs9)
def bsN : List Bool := [true, true, false, false, false, false, true, true, false, false, false, false, false, false, false, false, false, false, false, false, false, true, false, false, false, false, false, false, false, false, false, false, false, false, false, false, false, false, false]
theorem hand_net : hAll.map netB = bsN := by decide +kernel
theorem hand_ok : ∀ d ∈ hAll, okTB 30 d = true := by decide +kernel
theorem good_net : netB gD = true := by decide +kernel
theorem good_okT : okTB 30 gD = true := by decide +kernel
section
variable {P : Program} {w : World} {K : PySem.W.Frag} {mg : Str → Option Value} {base : Heap}
def spHand : Sp := fun vs H Q _ => vs = [] ∧ ∀ H', Same H H' → Q (.bl true) H'
theorem ok_hand {f fC fD fS : Addr} {fd fdC fdD fdS : FuncData} {k : Nat} (F : Fun K "_law_hand_right" "_law_hand_right" s_w_hand_right f fd)
    (G_is_net : FnOk P w K mg base CX0 k fC fdC ["thing"] (spNet K)) (g_is_net : mg "is_net" = some (.ref fC)) (F_is_net : Fun K "is_net" "is_net" s_is_net fC fdC) (b_is_net : Binds K fdC ["thing"] []) (kb_is_net : KBinds K fdC ["thing"] ["thing"] gOnly gOnly)
    (G_w_is_web : FnOk P w K mg base CX0 k fD fdD ["_law_matter"] (spNet K)) (g_w_is_web : mg "_law_is_web" = some (.ref fD)) (F_w_is_web : Fun K "_law_is_web" "_law_is_web" s_w_is_web fD fdD) (b_w_is_web : Binds K fdD ["_law_matter"] [])
    (G_w_same : FnOk P w K mg base CX0 k fS fdS ["_law_got", "_law_due"] (spSame K 4)) (g_w_same : mg "_law_same" = some (.ref fS)) (F_w_same : Fun K "_law_same" "_law_same" s_w_same fS fdS) (b_w_same : Binds K fdS ["_law_got", "_law_due"] []) (m_range : mg "range" = none) : FnOk P w K mg base CX0 (k + 1) f fd [] spHand := by
  refine F.ok sc_w_hand_right (fun vs H Q E h => ?_) (fun cdv A outer s0 H vs Q E hr h => ?_)
  · obtain ⟨rfl, _⟩ := h
    rfl
  · obtain ⟨rfl, q⟩ := h
    refine ⟨_, (pss_cons (ps_set (i := 0) sc_w_hand_right.nd rfl (Or.inl rfl) (pe_tup (pa_cons (pe_tup (pa_cons pe_str (pa_cons pe_str pa_nil))) (pa_cons (pe_tup (pa_cons (pe_tup (pa_cons pe_str (pa_cons pe_str (pa_cons pe_str (pa_cons (pe_op op_pow pe_int pe_int) (pa_cons (pe_op op_pow pe_int pe_int) pa_nil)))))) (pa_cons (pe_tup (pa_cons pe_str (pa_cons pe_str (pa_cons pe_str (pa_cons pe_int (pa_cons pe_int pa_nil)))))) (pa_cons (pe_tup (pa_cons pe_str (pa_cons pe_str (pa_cons pe_str (pa_cons pe_int (pa_cons pe_int pa_nil)))))) pa_nil)))) pa_nil)))) 
    (pss_cons (ps_set (i := 1) sc_w_hand_right.nd rfl (Or.inl rfl) (pe_lst (pa_cons (pv 0) (pa_cons (pe_tup (pa_cons (pe_tup (pa_cons pe_str pa_nil)) (pa_cons (pe_tup pa_nil) pa_nil))) (pa_cons (pe_tup (pa_cons (pe_tup pa_nil) (pa_cons (pe_tup pa_nil) pa_nil))) (pa_cons (pe_tup (pa_cons (pe_tup (pa_cons pe_str (pa_cons pe_str pa_nil))) (pa_cons (pe_tup pa_nil) pa_nil))) (pa_cons (pe_tup (pa_cons (pe_tup (pa_cons pe_str (pa_cons pe_str pa_nil))) (pa_cons (pe_tup pa_nil) pa_nil))) (pa_cons (pe_tup (pa_cons (pe_tup (pa_cons pe_str (pa_cons pe_str pa_nil))) (pa_cons (pe_tup pa_nil) pa_nil))) (pa_cons (pe_tup (pa_cons (pe_tup (pa_cons pe_str pa_nil)) (pa_cons (pe_tup pa_nil) pa_nil))) pa_nil))))))))) 
    (pss_cons (ps_set (i := 1) sc_w_hand_right.nd rfl (Or.inl rfl) (pe_op op_cat (pv 1) (pe_lst (pa_cons (pe_tup (pa_cons (pe_tup (pa_cons pe_str pa_nil)) (pa_cons (pe_tup pa_nil) pa_nil))) (pa_cons (pe_tup (pa_cons (pe_tup (pa_cons pe_str pa_nil)) (pa_cons (pe_tup pa_nil) pa_nil))) (pa_cons (pe_tup (pa_cons (pe_tup (pa_cons pe_str pa_nil)) (pa_cons (pe_tup pa_nil) pa_nil))) (pa_cons (pe_tup (pa_cons (pe_tup (pa_cons pe_str pa_nil)) (pa_cons (pe_tup pa_nil) pa_nil))) (pa_cons (pe_tup (pa_cons pe_str (pa_cons (pe_tup pa_nil) pa_nil))) (pa_cons (pe_tup (pa_cons (pe_tup (pa_cons pe_str pa_nil)) (pa_cons pe_str pa_nil))) pa_nil))))))))) 
    (pss_cons (ps_set (i := 1) sc_w_hand_right.nd rfl (Or.inl rfl) (pe_op op_cat (pv 1) (pe_lst (pa_cons (pe_tup (pa_cons (pe_lst (pa_cons pe_str pa_nil)) (pa_cons (pe_tup pa_nil) pa_nil))) (pa_cons (pe_lst (pa_cons (pe_tup (pa_cons pe_str pa_nil)) (pa_cons (pe_tup pa_nil) pa_nil))) (pa_cons (pe_tup (pa_cons (pe_tup (pa_cons pe_str (pa_cons pe_str pa_nil))) (pa_cons (pe_tup (pa_cons (pe_tup (pa_cons pe_str (pa_cons pe_str (pa_cons pe_str (pa_cons pe_int (pa_cons pe_int pa_nil)))))) pa_nil)) pa_nil))) pa_nil)))))) 
    (pss_cons (ps_set (i := 1) sc_w_hand_right.nd rfl (Or.inl rfl) (pe_op op_cat (pv 1) (pe_lst (pa_cons (pe_tup (pa_cons (pe_tup (pa_cons pe_str (pa_cons pe_str pa_nil))) (pa_cons (pe_tup (pa_cons (pe_tup (pa_cons pe_str (pa_cons pe_str (pa_cons pe_str (pa_cons pe_int (pa_cons pe_int pa_nil)))))) pa_nil)) pa_nil))) pa_nil)))) 
    (pss_cons (ps_set (i := 1) sc_w_hand_right.nd rfl (Or.inl rfl) (pe_op op_cat (pv 1) (pe_lst (pa_cons (pe_tup (pa_cons (pe_tup (pa_cons pe_str (pa_cons pe_str pa_nil))) (pa_cons (pe_tup (pa_cons (pe_tup (pa_cons pe_str (pa_cons pe_str (pa_cons pe_str (pa_cons pe_bl (pa_cons pe_int pa_nil)))))) pa_nil)) pa_nil))) (pa_cons (pe_tup (pa_cons (pe_tup (pa_cons pe_str (pa_cons pe_str pa_nil))) (pa_cons (pe_tup (pa_cons (pe_tup (pa_cons pe_str (pa_cons pe_str (pa_cons pe_str (pa_cons pe_int (pa_cons pe_bl pa_nil)))))) pa_nil)) pa_nil))) pa_nil))))) 
    (pss_cons (ps_set (i := 1) sc_w_hand_right.nd rfl (Or.inl rfl) (pe_op op_cat (pv 1) (pe_lst (pa_cons (pe_tup (pa_cons (pe_tup (pa_cons pe_str (pa_cons pe_str pa_nil))) (pa_cons (pe_tup (pa_cons (pe_tup (pa_cons pe_str (pa_cons pe_str (pa_cons pe_str (pa_cons pe_int (pa_cons pe_int pa_nil)))))) pa_nil)) pa_nil))) (pa_cons (pe_tup (pa_cons (pe_tup (pa_cons pe_str (pa_cons pe_str pa_nil))) (pa_cons (pe_tup (pa_cons (pe_tup (pa_cons pe_str (pa_cons pe_str (pa_cons pe_str (pa_cons pe_int (pa_cons pe_int pa_nil)))))) pa_nil)) pa_nil))) pa_nil))))) 
    (pss_cons (ps_set (i := 1) sc_w_hand_right.nd rfl (Or.inl rfl) (pe_op op_cat (pv 1) (pe_lst (pa_cons (pe_tup (pa_cons (pe_tup (pa_cons pe_str (pa_cons pe_str pa_nil))) (pa_cons (pe_tup (pa_cons (pe_tup (pa_cons pe_str (pa_cons pe_str (pa_cons pe_str (pa_cons pe_int (pa_cons pe_int pa_nil)))))) pa_nil)) pa_nil))) (pa_cons (pe_tup (pa_cons (pe_tup (pa_cons pe_str (pa_cons pe_str pa_nil))) (pa_cons (pe_lst (pa_cons (pe_tup (pa_cons pe_str (pa_cons pe_str (pa_cons pe_str (pa_cons pe_int (pa_cons pe_int pa_nil)))))) pa_nil)) pa_nil))) pa_nil))))) 
    (pss_cons (ps_set (i := 1) sc_w_hand_right.nd rfl (Or.inl rfl) (pe_op op_cat (pv 1) (pe_lst (pa_cons (pe_tup (pa_cons (pe_tup (pa_cons pe_str (pa_cons pe_str pa_nil))) (pa_cons (pe_tup (pa_cons (pe_tup (pa_cons pe_str (pa_cons pe_str (pa_cons pe_str (pa_cons pe_int (pa_cons pe_int pa_nil)))))) (pa_cons (pe_tup (pa_cons pe_str (pa_cons pe_str (pa_cons pe_str (pa_cons pe_int (pa_cons pe_int pa_nil)))))) pa_nil))) pa_nil))) (pa_cons (pe_tup (pa_cons (pe_tup (pa_cons pe_str (pa_cons pe_str pa_nil))) (pa_cons (pe_tup (pa_cons (pe_tup (pa_cons pe_str (pa_cons pe_str (pa_cons pe_str (pa_cons pe_int (pa_cons pe_int pa_nil)))))) pa_nil)) pa_nil))) pa_nil))))) 
    (pss_cons (ps_set (i := 1) sc_w_hand_right.nd rfl (Or.inl rfl) (pe_op op_cat (pv 1) (pe_lst (pa_cons (pe_tup (pa_cons (pe_tup (pa_cons pe_str (pa_cons pe_str pa_nil))) (pa_cons (pe_tup (pa_cons (pe_tup (pa_cons pe_str (pa_cons pe_str (pa_cons pe_str (pa_cons pe_int (pa_cons pe_int pa_nil)))))) (pa_cons (pe_tup (pa_cons pe_str (pa_cons pe_str (pa_cons pe_str (pa_cons pe_int (pa_cons pe_int pa_nil)))))) pa_nil))) pa_nil))) (pa_cons pe_non (pa_cons pe_int (pa_cons pe_bl (pa_cons pe_str (pa_cons pe_str (pa_cons (pe_tup pa_nil) (pa_cons (pe_tup (pa_cons (pe_tup pa_nil) pa_nil)) (pa_cons (pe_lst pa_nil) pa_nil)))))))))))) 
    (pss_cons (ps_set (i := 2) sc_w_hand_right.nd rfl (Or.inl rfl) pe_int) 
    (pss_cons (ps_forX (ps_for PassesOwn.never rfl (pi_range1 (by rfl) m_range (pa_cons pe_int pa_nil)) (pg_name (i := 3) sc_w_hand_right.nd rfl (Or.inl rfl)) (pss_one (ps_set (i := 2) sc_w_hand_right.nd rfl (Or.inl rfl) (pe_ifExp (pt_cmpR op_lt (pv 3) pe_int (nomark _)) (pe_tup (pa_cons (pv 2) pa_nil)) (pe_lst (pa_cons (pv 2) pa_nil))))))) 
    (pss_cons (ps_set (i := 1) sc_w_hand_right.nd rfl (Or.inl rfl) (pe_op op_cat (pv 1) (pe_lst (pa_cons (pv 2) (pa_cons (pe_tup (pa_cons (pe_tup (pa_cons pe_str pa_nil)) (pa_cons (pv 2) pa_nil))) (pa_cons (pe_tup (pa_cons (pv 2) (pa_cons (pe_tup pa_nil) pa_nil))) (pa_cons (pe_tup (pa_cons (pe_tup (pa_cons pe_str pa_nil)) (pa_cons (pe_tup pa_nil) pa_nil))) (pa_cons (pe_tup (pa_cons (pe_tup (pa_cons pe_str pa_nil)) (pa_cons (pe_tup pa_nil) pa_nil))) pa_nil)))))))) 
    (pss_cons (ps_set (i := 4) sc_w_hand_right.nd rfl (Or.inl rfl) (pe_op op_cat (pe_op op_cat (pe_op op_cat (pe_op op_cat (pe_op op_cat (pe_lst (pa_cons pe_bl (pa_cons pe_bl pa_nil))) (pe_op op_rep (pe_lst (pa_cons pe_bl pa_nil)) pe_int)) (pe_lst (pa_cons pe_bl (pa_cons pe_bl pa_nil)))) (pe_op op_rep (pe_lst (pa_cons pe_bl pa_nil)) pe_int)) (pe_lst (pa_cons pe_bl pa_nil))) (pe_op op_rep (pe_lst (pa_cons pe_bl pa_nil)) pe_int))) 
    (pss_cons (ps_setLcX (ps_setLc (i := 5) (own := [("_law_own", 6)]) (g := gName 6) (tt := tYes) (te := tCall (spNet K) [] E0 (tCons (tVar 6) tNil)) rfl sc_w_hand_right.nd rfl rfl (sw_true rfl rfl rfl (by decide +kernel)) (pi_seq (pv 1)) (blkOk_by (own := [("_law_own", 6)]) (N := sc_w_hand_right_N) (sc := defScope s_w_hand_right) (by decide +kernel)) (fun _ _ _ _ _ => pg_name (i := 6) sc_w_hand_right.nd rfl (Or.inl rfl)) (fun _ _ _ _ _ => pts_nil) (fun _ _ _ _ _ => (pe_call G_is_net hr (by rfl) g_is_net F_is_net.kp b_is_net .nil pass0 (pa_cons (pv 6) pa_nil))))) 
    (pss_one (ps_ret (pe_and (pe_call G_w_same hr (by rfl) g_w_same F_w_same.kp b_w_same .nil pass0 (pa_cons (pv 5) (pa_cons (pv 4) pa_nil))) (pe_and (pe_call G_w_same hr (by rfl) g_w_same F_w_same.kp b_w_same .nil pass0 (pa_cons (pe_lcX (pe_lc (own := [("_law_own", 6)]) (g := gName 6) (tt := tYes) (te := tCall (spNet K) [] E0 (tCons (tVar 6) tNil)) (by rfl) sc_w_hand_right.nd (pi_seq (pv 1)) (blkOk_by (own := [("_law_own", 6)]) (N := sc_w_hand_right_N) (sc := defScope s_w_hand_right) (by decide +kernel)) (fun _ _ _ _ _ => pg_name (i := 6) sc_w_hand_right.nd rfl (Or.inl rfl)) (fun _ _ _ _ _ => pts_nil) (fun _ _ _ _ _ => (pe_call G_w_is_web hr (by rfl) g_w_is_web F_w_is_web.kp b_w_is_web .nil pass0 (pa_cons (pv 6) pa_nil))))) (pa_cons (pv 4) pa_nil))) (pe_one (pe_cmpR op_isBl (pe_callK0 G_is_net hr (by rfl) g_is_net F_is_net.kp kb_is_net pass0 (pk_cons (pv 0) pk_nil)) pe_bl (nomark _)))))))))))))))))))))), ?_⟩
    refine new_is (K := K) (d := gD) (by unfold gD; walk_at "d") fun H1 v1 s1 d1 => ?_
    try dsimp only [gName, tSeq, tAsg]
    refine new_lst (K := K) (ds := hs0) (by walk_at "d") (by decide) fun H2 p2 vs2 s2 f2 h2 dl => ?_
    try dsimp only [gName, tSeq, tAsg]
    replace d1 := s2.dp d1
    have S0 := s1.trans s2
    clear s1 s2 f2
    refine (mk_cat (K := K) (H0 := H2) (ds := hs0) (es := hs1) (mk_var rfl h2 dl) (mk_lst (by walk_at "d") (by decide)) (by decide)) H2 _ (fun _ _ e => e) fun H3 p3 vs3 s h3 dn => ?_
    try dsimp only [gName, tSeq, tAsg]
    replace d1 := s.dp d1
    replace S0 := S0.trans s
    replace dl := dn
    clear s dn h2
    refine (mk_cat (K := K) (H0 := H3) (ds := (hs0 ++ hs1)) (es := hs2) (mk_var rfl h3 dl) (mk_lst (by walk_at "d") (by decide)) (by decide)) H3 _ (fun _ _ e => e) fun H4 p4 vs4 s h4 dn => ?_
    try dsimp only [gName, tSeq, tAsg]
    replace d1 := s.dp d1
    replace S0 := S0.trans s
    replace dl := dn
    clear s dn h3
    refine (mk_cat (K := K) (H0 := H4) (ds := ((hs0 ++ hs1) ++ hs2)) (es := hs3) (mk_var rfl h4 dl) (mk_lst (by walk_at "d") (by decide)) (by decide)) H4 _ (fun _ _ e => e) fun H5 p5 vs5 s h5 dn => ?_
    try dsimp only [gName, tSeq, tAsg]
    replace d1 := s.dp d1
    replace S0 := S0.trans s
    replace dl := dn
    clear s dn h4
    refine (mk_cat (K := K) (H0 := H5) (ds := (((hs0 ++ hs1) ++ hs2) ++ hs3)) (es := hs4) (mk_var rfl h5 dl) (mk_lst (by walk_at "d") (by decide)) (by decide)) H5 _ (fun _ _ e => e) fun H6 p6 vs6 s h6 dn => ?_
    try dsimp only [gName, tSeq, tAsg]
    replace d1 := s.dp d1
    replace S0 := S0.trans s
    replace dl := dn
    clear s dn h5
    refine (mk_cat (K := K) (H0 := H6) (ds := ((((hs0 ++ hs1) ++ hs2) ++ hs3) ++ hs4)) (es := hs5) (mk_var rfl h6 dl) (mk_lst (by walk_at "d") (by decide)) (by decide)) H6 _ (fun _ _ e => e) fun H7 p7 vs7 s h7 dn => ?_
    try dsimp only [gName, tSeq, tAsg]
    replace d1 := s.dp d1
    replace S0 := S0.trans s
    replace dl := dn
    clear s dn h6
    refine (mk_cat (K := K) (H0 := H7) (ds := (((((hs0 ++ hs1) ++ hs2) ++ hs3) ++ hs4) ++ hs5)) (es := hs6) (mk_var rfl h7 dl) (mk_lst (by walk_at "d") (by decide)) (by decide)) H7 _ (fun _ _ e => e) fun H8 p8 vs8 s h8 dn => ?_
    try dsimp only [gName, tSeq, tAsg]
    replace d1 := s.dp d1
    replace S0 := S0.trans s
    replace dl := dn
    clear s dn h7
    refine (mk_cat (K := K) (H0 := H8) (ds := ((((((hs0 ++ hs1) ++ hs2) ++ hs3) ++ hs4) ++ hs5) ++ hs6)) (es := hs7) (mk_var rfl h8 dl) (mk_lst (by walk_at "d") (by decide)) (by decide)) H8 _ (fun _ _ e => e) fun H9 p9 vs9 s h9 dn => ?_
    try dsimp only [gName, tSeq, tAsg]
    replace d1 := s.dp d1
    replace S0 := S0.trans s
    replace dl := dn
    clear s dn h8
    refine (mk_cat (K := K) (H0 := H9) (ds := (((((((hs0 ++ hs1) ++ hs2) ++ hs3) ++ hs4) ++ hs5) ++ hs6) ++ hs7)) (es := hs8) (mk_var rfl h9 dl) (mk_lst (by walk_at "d") (by decide)) (by decide)) H9 _ (fun _ _ e => e) fun H10 p10 vs10 s h10 dn => ?_
    try dsimp only [gName, tSeq, tAsg]
    replace d1 := s.dp d1
    replace S0 := S0.trans s
    replace dl := dn
    clear s dn h9
    generalize hcur : ((((((((hs0 ++ hs1) ++ hs2) ++ hs3) ++ hs4) ++ hs5) ++ hs6) ++ hs7) ++ hs8) = cur at dl
    walk_at "ev"
    refine for_of ?_
    walk_at "ev"
    refine ⟨by decide, by decide, ?_⟩
    refine forR_it (walk_range (lo := 0) (n := 10)) (fun i σ Hc => ∃ x3 v, σ = [some v1, some (.ref p10), some v, x3, none, none, none] ∧ Same H10 Hc ∧ Dp K Hc v (deepN i)) ⟨_, _, rfl, fun _ _ e => e, .int 7⟩ (fun _ _ _ _ _ => trivial) (fun i w σ Hc Hc' hi hh y => ?_) (fun σ Hc hh => ?_)
    · obtain ⟨x3, v, rfl, e, dv⟩ := hh
      obtain ⟨rfl, hw⟩ := y
      have hw : w = .int (0 + (i : Int)) := hw
      rw [Int.zero_add] at hw
      subst hw
      walk_at "ev"
      refine ite2 (fun e5 => ?_) (fun e5 => ?_)
      · have e5 : (i : Int) < 5 := of_decide_eq_true e5
        walk_at "ev"
        intro t ht
        refine ⟨_, _, rfl, e.trans (.upd ht), ?_⟩
        have : deepN (i + 1) = .tuple [deepN i] := if_pos (show i < 5 by omega)
        rw [this]
        exact dpn_tup ht (.cons dv .nil)
      · have e5 : ¬ (i : Int) < 5 := fun z => e5 (decide_eq_true z)
        walk_at "ev"
        intro t ht
        refine ⟨_, _, rfl, e.trans (.upd ht), ?_⟩
        have : deepN (i + 1) = .list [deepN i] := if_neg (show ¬ i < 5 by omega)
        rw [this]
        exact dpn_lst ht (.cons dv .nil)
    · obtain ⟨x3, v, rfl, e, dv⟩ := hh
      replace d1 := e.dp d1
      replace S0 := S0.trans e
      replace dl := e.dpa dl
      have hp := e _ _ h10
      clear e h10
      try dsimp only [gName, tSeq, tAsg]
      refine (mk_cat (K := K) (H0 := Hc) (ds := cur) (es := hs9) (mk_var rfl hp dl) (mk_lst (by walk_at "d") (by decide)) (by subst hcur; decide)) Hc _ (fun _ _ e => e) fun HA pA vsA s hA dn => ?_
      try dsimp only [gName, tSeq, tAsg]
      replace d1 := s.dp d1
      replace S0 := S0.trans s
      have ecur : cur ++ hs9 = hAll := by subst hcur; rfl
      rw [ecur] at dn
      clear s dl hp ecur hcur dv
      refine (mk_cat (K := K) (H0 := HA) (ds := ((([.bool true, .bool true] ++ (List.replicate (Int.toNat 4) [.bool false]).flatten) ++ [.bool true, .bool true]) ++ (List.replicate (Int.toNat 13) [.bool false]).flatten) ++ [.bool true]) (es := (List.replicate (Int.toNat 17) [.bool false]).flatten)
        (mk_cat (mk_cat (mk_cat (mk_cat (mk_lst (ds := [.bool true, .bool true]) (by walk_at "d") (by decide)) (mk_rep (k := 4) (ds := [.bool false]) (mk_lst (ds := [.bool false]) (by walk_at "d") (by decide)) (by decide) (by decide)) (by decide)) (mk_lst (ds := [.bool true, .bool true]) (by walk_at "d") (by decide)) (by decide)) (mk_rep (k := 13) (ds := [.bool false]) (mk_lst (ds := [.bool false]) (by walk_at "d") (by decide)) (by decide) (by decide)) (by decide)) (mk_lst (ds := [.bool true]) (by walk_at "d") (by decide)) (by decide)) (mk_rep (k := 17) (ds := [.bool false]) (mk_lst (ds := [.bool false]) (by walk_at "d") (by decide)) (by decide) (by decide)) (by decide)) HA _ (fun _ _ e => e) fun HB pB vsB sB hB dB => ?_
      replace d1 := sB.dp d1
      replace S0 := S0.trans sB
      replace dn := sB.dpa dn
      replace hA := sB _ _ hA
      clear sB
      replace dB : DpAll K HB vsB (bsN.map PyData.bool) := dB
      try dsimp only [gName, tSeq, tAsg]
      walk_at "ev"
      refine lc_boolsS (fb := false) netB (fun R' r => ⟨_, rfl, r⟩) (sql_of hA) dn (by decide) (fun x => rfl) (fun x d H4 hd e4 hx Q' q' => ?_) (fun D H4 s4 h4 => ?_)
      · exact ⟨_, rfl, x, d, rfl, hx, okTB_ok (hand_ok d hd), q'⟩
      · rw [hand_net] at h4
        replace d1 := s4.dp d1
        replace S0 := S0.trans s4
        replace dn := s4.dpa dn
        replace hA := s4 _ _ hA
        replace dB := s4.dpa dB
        replace hB := s4 _ _ hB
        clear s4
        walk_at "ev"
        try dsimp only [tNil]
        refine ⟨.ref D, .ref pB, .list (bsN.map PyData.bool), rfl, .lst (sql_of h4) dpa_bls, .lst (sql_of hB) dB, (okD_seq (n := 3) (f := false) (ds := bsN.map PyData.bool)).mpr ⟨by decide, fun d hd => ?_⟩, fun H5 s5 => ?_⟩
        · obtain ⟨b0, _, rfl⟩ := List.mem_map.mp hd
          trivial
        · replace d1 := s5.dp d1
          replace S0 := S0.trans s5
          replace dn := s5.dpa dn
          replace hA := s5 _ _ hA
          replace dB := s5.dpa dB
          replace hB := s5 _ _ hB
          clear s5 h4
          walk_at "ev"
          refine lc_boolsS (fb := false) netB (fun R' r => ⟨_, rfl, r⟩) (sql_of hA) dn (by decide) (fun x => rfl) (fun x d H4 hd e4 hx Q' q' => ?_) (fun D2 H6 s6 h6 => ?_)
          · exact ⟨_, rfl, x, d, rfl, hx, okTB_ok (hand_ok d hd), q'⟩
          · rw [hand_net] at h6
            replace d1 := s6.dp d1
            replace S0 := S0.trans s6
            replace dB := s6.dpa dB
            replace hB := s6 _ _ hB
            clear s6 dn hA
            walk_at "ev"
            try dsimp only [tNil]
            refine ⟨.ref D2, .ref pB, .list (bsN.map PyData.bool), rfl, .lst (sql_of h6) dpa_bls, .lst (sql_of hB) dB, (okD_seq (n := 3) (f := false) (ds := bsN.map PyData.bool)).mpr ⟨by decide, fun d hd => ?_⟩, fun H7 s7 => ?_⟩
            · obtain ⟨b0, _, rfl⟩ := List.mem_map.mp hd
              trivial
            · replace d1 := s7.dp d1
              replace S0 := S0.trans s7
              walk_at "ev"
              refine ⟨v1, gD, rfl, d1, okTB_ok good_okT, fun H8 s8 => ?_⟩
              rw [good_net]
              walk_at "ev"
              exact q _ (S0.trans s8)
end
end Jl

set_option Elab.async false
set_option linter.all false
set_option maxRecDepth 100000
set_option maxHeartbeats 1000000
set_option pp.maxSteps 900
namespace Jl
open PySem PySem.Spec PyProof.Rows L2
open Evl (sz_of sz_lt)
local macro_rules | `(tactic| walk_at "at") => `(tactic| first | exact box0 | exact box1 | exact box2)
local macro_rules | `(tactic| walk_at "sq") => `(tactic| first | (show SqL _ _ _ _; assumption) | (show SqT _ _ _ _; assumption) | (show _ = some _; assumption))
local macro_rules | `(tactic| walk_at "side") => `(tactic| first
  | (show (0 : Int) < _; decide)
  | (show (0 : Int) < _; omega)
  | exact ⟨by decide, by decide, by decide⟩
  | exact sz_of (Nat.le_of_ble_eq_true rfl)
  | exact rfl
  | exact Or.inl (by decide)
  | exact Or.inr (by decide)
  | exact Or.inr ⟨by omega, by omega⟩
  | exact Or.inl ⟨by omega, by omega⟩
  | exact ⟨by decide, by decide +kernel⟩)
local macro_rules | `(tactic| walk_at "ev1") => `(tactic| first
  | refine ⟨_, rfl, ?_⟩
  | refine ⟨_, _, rfl, rfl, ?_⟩
  | refine ⟨_, _, _, _, rfl, rfl, (by walk_at "sq"), (by walk_at "at"), ?_⟩
  | refine ⟨_, _, rfl, (by walk_at "sq"), ?_⟩
  | refine ⟨_, _, rfl, Or.inl (by walk_at "sq"), ?_⟩
  | refine ⟨_, _, rfl, Or.inr (by walk_at "sq"), ?_⟩
  | refine Or.inl ⟨_, rfl, ?_⟩
  | refine Or.inr ⟨_, rfl, ?_⟩
  | refine ⟨(by walk_at "side"), ?_⟩
  | refine ⟨.inl ⟨rfl, _, (by walk_at "sq")⟩, ?_⟩
  | refine ⟨_, _, rfl, ?_⟩)
local macro_rules | `(tactic| walk_at "nrm") => `(tactic| dsimp only [tNil, tCons, tC, tCB])
local macro_rules | `(tactic| walk_at "ev") => `(tactic| repeat (walk_at "ev1"))

abbrev sc_w_right_N : List Str := ["_law_box_here", "_law_turn", "_law_web_here", "_law_pool", "_law_part"]
abbrev s_w_right : Stmt := topS 24
theorem sc_w_right : FnScope ["_law_box_here", "_law_turn", "_law_web_here", "_law_pool", "_law_part"] ["_law_box_here"] (defScope s_w_right) := ⟨rfl, rfl, rfl, by decide +kernel, rfl, by decide +kernel, by decide +kernel⟩
/-! ### data written out, beside a cut -/
def IsC (K : PySem.W.Frag) (S : List Addr) (H0 : Hp) (te : TE) (d : PyData) (σ : L2.St) : Prop := ∀ (H : Hp) (Q : VK), Same H0 H → Trk S H → (∀ H' v, Same H H' → Dp K (cutS S H') v d → Q v H') → te σ H Q
def AreC (K : PySem.W.Frag) (S : List Addr) (H0 : Hp) (t : TA) (ds : List PyData) (σ : L2.St) : Prop := ∀ (H : Hp) (Q : List V → Hp → Prop), Same H0 H → Trk S H → (∀ H' vs, Same H H' → DpAll K (cutS S H') vs ds → Q vs H') → t σ H Q
def RdL (K : PySem.W.Frag) (S : List Addr) (H0 : Hp) (te : TE) (ds : List PyData) (σ : L2.St) : Prop := ∀ (H : Hp) (Q : VK), Same H0 H → Trk S H → (∀ H' p vs, Same H H' → H' p = some (.lst vs) → DpAll K (cutS S H') vs ds → Q (.ref p) H') → te σ H Q
def NwL (K : PySem.W.Frag) (S : List Addr) (H0 : Hp) (te : TE) (ds : List PyData) (σ : L2.St) : Prop := ∀ (H : Hp) (Q : VK), Same H0 H → Trk S H → (∀ H' p vs, Same H H' → H p = none → H' p = some (.lst vs) → DpAll K (cutS (p :: S) H') vs ds → Q (.ref p) H') → te σ H Q
section
variable {K : PySem.W.Frag} {S : List Addr} {H0 : Hp} {σ : L2.St}
theorem ic_int {i : Int} : IsC K S H0 (tC (.int i)) (.int i) σ := fun H Q _ _ q => q H _ (fun _ _ e => e) (.int i)
theorem ic_str {x : Str} : IsC K S H0 (tC (.str x)) (.str x) σ := fun H Q _ _ q => q H _ (fun _ _ e => e) (.str x)
theorem ic_bl {b : Bool} : IsC K S H0 (tC (.bl b)) (.bool b) σ := fun H Q _ _ q => q H _ (fun _ _ e => e) (.bl b)
theorem ic_non : IsC K S H0 (tC .non) .none σ := fun H Q _ _ q => q H _ (fun _ _ e => e) .non
theorem ic_neg {i : Int} : IsC K S H0 (tUn (rU fun i => .int (-i)) (tC (.int i))) (.int (-i)) σ := fun H Q _ _ q => ⟨i, rfl, q H _ (fun _ _ e => e) (.int (-i))⟩
theorem ic_pow {i j : Int} (h : CPow i j) : IsC K S H0 (tOp (rI CPow fun i j => .int (i ^ j.toNat)) (tC (.int i)) (tC (.int j))) (.int (i ^ j.toNat)) σ := fun H Q _ _ q => ⟨i, j, rfl, rfl, h, q H _ (fun _ _ e => e) (.int _)⟩
theorem ac_nil : AreC K S H0 tNil [] σ := fun H Q _ _ q => q H _ (fun _ _ e => e) .nil
theorem ac_cons {te : TE} {t : TA} {d : PyData} {ds : List PyData} (h1 : IsC K S H0 te d σ) (h2 : AreC K S H0 t ds σ) : AreC K S H0 (tCons te t) (d :: ds) σ := fun H Q e tr q =>
  h1 H _ e tr fun H1 v s1 d1 => h2 H1 _ (e.trans s1) (tr.mono s1) fun H2 vs s2 d2 => q H2 (v :: vs) (s1.trans s2) (.cons ((cutS_mono s2).dp d1) d2)
theorem ic_tup {t : TA} {ds : List PyData} (h : AreC K S H0 t ds σ) (hl : ds.length ≤ 1000) : IsC K S H0 (tTup t) (.tuple ds) σ := fun H Q e tr q =>
  h H _ e tr fun H1 vs s1 d1 => ⟨Nat.le_of_lt (sz_lt (by rw [dpa_len d1]; omega)), fun p hp => q _ _ (s1.trans (.upd hp)) (dp_tup (tr.mono s1) hp d1)⟩
theorem ic_lst {t : TA} {ds : List PyData} (h : AreC K S H0 t ds σ) (hl : ds.length ≤ 1000) : IsC K S H0 (tLst t) (.list ds) σ := fun H Q e tr q =>
  h H _ e tr fun H1 vs s1 d1 => ⟨Nat.le_of_lt (sz_lt (by rw [dpa_len d1]; omega)), fun p hp => q _ _ (s1.trans (.upd hp)) (dp_lst (tr.mono s1) hp d1)⟩
theorem nw_lst {t : TA} {ds : List PyData} (h : AreC K S H0 t ds σ) (hl : ds.length ≤ 1000) : NwL K S H0 (tLst t) ds σ := fun H Q e tr q =>
  h H _ e tr fun H1 vs s1 d1 => ⟨Nat.le_of_lt (sz_lt (by rw [dpa_len d1]; omega)), fun p hp => q _ p vs (s1.trans (.upd hp)) (s1.free hp) upd_same ((cutS_into (.upd hp) hp).dpa d1)⟩
theorem rd_nw {te : TE} {ds : List PyData} (h : NwL K S H0 te ds σ) : RdL K S H0 te ds σ := fun H Q e tr q => h H Q e tr fun H' p vs s1 _ h1 d1 => q H' p vs s1 h1 (cutS_tail.dpa d1)
theorem rd_var {i : Nat} {p : Addr} {vs : List V} {ds : List PyData} (hi : σ[i]? = some (some (.ref p))) (hp : H0 p = some (.lst vs)) (hd : DpAll K (cutS S H0) vs ds) : RdL K S H0 (tVar i) ds σ := fun H Q e _ q =>
  ⟨_, hi, q H p vs (fun _ _ e => e) (e _ _ hp) ((cutS_mono e).dpa hd)⟩
theorem nw_cat {ta tb : TE} {ds es : List PyData} (h1 : RdL K S H0 ta ds σ) (h2 : RdL K S H0 tb es σ) (hl : ds.length + es.length ≤ 1000) : NwL K S H0 (tOp rCat ta tb) (ds ++ es) σ := fun H Q e tr q =>
  h1 H _ e tr fun H1 p1 v1 s1 g1 d1 => h2 H1 _ (e.trans s1) (tr.mono s1) fun H2 p2 v2 s2 g2 d2 => ⟨p1, p2, v1, v2, rfl, rfl, s2 _ _ g1, g2, Nat.le_of_lt (sz_lt (by rw [dpa_len d1, dpa_len d2]; omega)), fun p hp =>
    q _ p _ ((s1.trans s2).trans (.upd hp)) ((s1.trans s2).free hp) upd_same ((cutS_into (.upd hp) hp).dpa (dpa_app ((cutS_mono s2).dpa d1) d2))⟩
/-- a name of a queue: web[1][j][0] -/
theorem ic_nm {a0 a1 a2 aq : Addr} {ws : List Str} {qs : List QD} {xq : List V} {i : Nat} {j : Int} {q : QD} (N : NetAt K H0 true a0 a1 a2 ws qs xq) (hi : σ[i]? = some (some (.ref a0))) (hj : atI xq j = some (.ref aq)) (hq : SqF true K H0 aq [.str q.nm, .str q.st, .str q.en, .int q.room, .int q.gap]) :
    IsC K S H0 (tOp (rIxF K) (tOp (rIxF K) (tOp (rIxF K) (tVar i) (tC (.int 1))) (tC (.int j))) (tC (.int 0))) (.str q.nm) σ := fun H Q e _ k =>
  ⟨_, hi, rIxF_at (N.same e).h0 (atI_nat (j := 1) rfl) (rIxF_at (N.same e).h2 hj (rIxF_at (e.sqF hq) (atI_nat (j := 0) rfl) (k H _ (fun _ _ e => e) (.str _))))⟩
/-- a worker: web[0][0] -/
theorem ic_ws {a0 a1 a2 : Addr} {ws : List Str} {qs : List QD} {xq : List V} {i : Nat} {z : Str} (N : NetAt K H0 true a0 a1 a2 ws qs xq) (hi : σ[i]? = some (some (.ref a0))) (hz : ws[0]? = some z) :
    IsC K S H0 (tOp (rIxF K) (tOp (rIxF K) (tVar i) (tC (.int 0))) (tC (.int 0))) (.str z) σ := fun H Q e _ k =>
  ⟨_, hi, rIxF_at (N.same e).h0 (atI_nat (j := 0) rfl) (rIxF_at (N.same e).h1 (atI_nat (j := 0) (by rw [List.getElem?_map, hz]; rfl)) (k H _ (fun _ _ e => e) (.str _)))⟩
end
end Jl

set_option Elab.async false
set_option linter.all false
set_option maxRecDepth 100000
set_option maxHeartbeats 1000000
set_option pp.maxSteps 300
namespace Jl
open PySem PySem.Spec PyProof.Rows L2
open Evl (sz_of sz_lt)
local macro_rules | `(tactic| walk_at "at") => `(tactic| first | exact box0 | exact box1 | exact box2)
local macro_rules | `(tactic| walk_at "sq") => `(tactic| first | (show SqL _ _ _ _; assumption) | (show SqT _ _ _ _; assumption) | (show _ = some _; assumption))
local macro_rules | `(tactic| walk_at "side") => `(tactic| first
  | (show (0 : Int) < _; decide)
  | (show (0 : Int) < _; omega)
  | exact ⟨by decide, by decide, by decide⟩
  | exact sz_of (Nat.le_of_ble_eq_true rfl)
  | exact rfl
  | exact Or.inl (by decide)
  | exact Or.inr (by decide)
  | exact Or.inr ⟨by omega, by omega⟩
  | exact Or.inl ⟨by omega, by omega⟩
  | exact ⟨by decide, by decide +kernel⟩)
local macro_rules | `(tactic| walk_at "ev1") => `(tactic| first
  | refine ⟨_, rfl, ?_⟩
  | refine ⟨_, _, rfl, rfl, ?_⟩
  | refine ⟨_, _, _, _, rfl, rfl, (by walk_at "sq"), (by walk_at "at"), ?_⟩
  | refine ⟨_, _, rfl, (by walk_at "sq"), ?_⟩
  | refine ⟨_, _, rfl, Or.inl (by walk_at "sq"), ?_⟩
  | refine ⟨_, _, rfl, Or.inr (by walk_at "sq"), ?_⟩
  | refine Or.inl ⟨_, rfl, ?_⟩
  | refine Or.inr ⟨_, rfl, ?_⟩
  | refine ⟨(by walk_at "side"), ?_⟩
  | refine ⟨.inl ⟨rfl, _, (by walk_at "sq")⟩, ?_⟩
  | refine ⟨_, _, rfl, ?_⟩)
local macro_rules | `(tactic| walk_at "nrm") => `(tactic| dsimp only [tNil, tCons, tC, tCB])
local macro_rules | `(tactic| walk_at "ev") => `(tactic| repeat (walk_at "ev1"))

theorem sorted_pw : ∀ {l : List Str}, sortedS l = true → l.Pairwise fun a b => a.cps.toList ≤ b.cps.toList
  | [], _ => List.Pairwise.nil
  | x :: l, h => by
    have all : ∀ (l : List Str) (x : Str), risingS x l = true → (∀ y ∈ l, x.cps.toList ≤ y.cps.toList) ∧ l.Pairwise fun a b => a.cps.toList ≤ b.cps.toList := by
      intro l
      induction l with
      | nil => exact fun x _ => ⟨fun y hy => absurd hy List.not_mem_nil, List.Pairwise.nil⟩
      | cons z l ih =>
        intro x h
        have h' : (!ltCps z.cps.toList x.cps.toList && risingS z l) = true := h
        rw [Bool.and_eq_true] at h'
        obtain ⟨h1, h2⟩ := h'
        rw [PyProof.Rows.ltCps_eq] at h1
        have hxz : x.cps.toList ≤ z.cps.toList := List.not_lt.mp (by simpa using h1)
        obtain ⟨g1, g2⟩ := ih z h2
        refine ⟨fun y hy => ?_, List.pairwise_cons.mpr ⟨g1, g2⟩⟩
        rcases List.mem_cons.mp hy with e | hy
        · rw [e]
          exact hxz
        · exact List.le_trans hxz (g1 y hy)
    obtain ⟨g1, g2⟩ := all l x h
    exact List.pairwise_cons.mpr ⟨g1, g2⟩
/-! ### the dict of labels -/
def kvL (ws : List Str) (lab : Str → Str) : List (Key × V) := ws.map fun w => ((.inr w : Key), V.str (lab w))

theorem asc_of {l : List Str} (hn : l.Nodup) (hs : sortedS l = true) : ascD (l.map PyData.str) = true := by
  unfold ascD
  rw [List.all_eq_true]
  intro i hi
  have hi := List.mem_range.mp hi
  rw [List.length_map] at hi
  have i1 : i < l.length := by omega
  have i2 : i + 1 < l.length := by omega
  have g1 : (l.map PyData.str).getD i .none = .str l[i] := by rw [List.getD_eq_getElem?_getD, List.getElem?_map, List.getElem?_eq_getElem i1]; rfl
  have g2 : (l.map PyData.str).getD (i + 1) .none = .str l[i + 1] := by rw [List.getD_eq_getElem?_getD, List.getElem?_map, List.getElem?_eq_getElem i2]; rfl
  rw [g1, g2, PySem.W.dataLt_str]
  refine decide_eq_true ?_
  have h1 := List.pairwise_iff_getElem.mp (sorted_pw hs) i (i + 1) i1 i2 (by omega)
  rcases List.le_iff_lt_or_eq.mp h1 with h | h
  · exact h
  · have e := str_ext h
    have := nd_ix hn (List.getElem?_eq_getElem i1) (by rw [List.getElem?_eq_getElem i2]; exact congrArg some e.symm)
    omega
theorem poolW_nm : ∀ x ∈ poolW, nameB x = true ∧ x.cps.size ≤ 1000 := by decide +kernel
theorem poolQ_nm : ∀ x ∈ poolQ, nameB x = true ∧ x.cps.size ≤ 1000 := by decide +kernel
theorem sorted_take {l : List Str} {k : Nat} (h : ascD (l.map PyData.str) = true) : ascD ((l.take k).map PyData.str) = true := by
  unfold ascD at h ⊢
  rw [List.all_eq_true] at h ⊢
  intro i hi
  have hi := List.mem_range.mp hi
  rw [List.length_map, List.length_take] at hi
  have i1 : i < l.length := by omega
  have i2 : i + 1 < l.length := by omega
  have h2 := h i (List.mem_range.mpr (by rw [List.length_map]; omega))
  have e : ∀ j, j < k → ((l.take k).map PyData.str).getD j .none = (l.map PyData.str).getD j .none := fun j hj => by
    rw [List.getD_eq_getElem?_getD, List.getD_eq_getElem?_getD, List.getElem?_map, List.getElem?_map, List.getElem?_take_of_lt hj]
  rw [e i (by omega), e (i + 1) (by omega)]
  exact h2
theorem GoodNet.nm_nm {s m : Nat} {h : Int} {ws : List Str} {qs : List QD} (g : GoodNet s m h ws qs) : ∀ q ∈ qs, nameB q.nm = true ∧ q.nm.cps.size ≤ 1000 := fun q hq => by
  obtain ⟨l, _, _, hl, k, e⟩ := g.qn
  have : q.nm ∈ l.take k := by
    rw [← e]
    exact List.mem_map.mpr ⟨q, hq, rfl⟩
  exact poolQ_nm _ (hl _ (List.mem_of_mem_take this))
theorem net_good {s m : Nat} {h : Int} {ws : List Str} {qs : List QD} (g : GoodNet s m h ws qs) : netB (netD true ws qs) = true := by
  show netE (ws.map PyData.str) (qs.map (QD.d true)) = true
  unfold netE
  have e1 : (ws.map PyData.str).isEmpty = false := by
    have := g.w2
    cases ws with
    | nil => exact absurd this (by decide)
    | cons _ _ => rfl
  have e2 : (ws.map PyData.str).all nameD = true := List.all_eq_true.mpr fun d hd => by
    obtain ⟨x, hx, rfl⟩ := List.mem_map.mp hd
    exact (poolW_nm x (g.wp x hx)).1
  have e4 : (qs.map (QD.d true)).all (queueD ws) = true := List.all_eq_true.mpr fun d hd => by
    obtain ⟨q, hq, rfl⟩ := List.mem_map.mp hd
    obtain ⟨h1, h2, h3, h4, h5, h6⟩ := g.qq q hq
    show (nameB q.nm && (decide (q.st ∈ ws) && (decide (q.en ∈ ws) && (!decide (q.st = q.en) && (decide (1 ≤ q.room) && (decide (1 ≤ q.gap) && decide (q.gap ≤ q.room))))))) = true
    rw [(g.nm_nm q hq).1, decide_eq_true h1, decide_eq_true h2, decide_eq_false h3, decide_eq_true h4, decide_eq_true h5, decide_eq_true (show 1 ≤ q.room by omega)]
    rfl
  have e5 : ascD ((qs.map (QD.d true)).map headD) = true := by
    have e : (qs.map (QD.d true)).map headD = (qs.map QD.nm).map PyData.str := by
      rw [List.map_map, List.map_map]
      exact List.map_congr_left fun _ _ => rfl
    obtain ⟨l, hn, hs, _, k, ek⟩ := g.qn
    rw [e, ek]
    exact sorted_take (asc_of hn hs)
  rw [e1, e2, asc_of g.wn g.wo, strsOf_map, e4, e5]
  rfl
theorem net_okT {s m : Nat} {h : Int} {ws : List Str} {qs : List QD} (g : GoodNet s m h ws qs) (h1 : ws.length ≤ 60) (h2 : qs.length ≤ 60) : okT 4 (netD true ws qs) :=
  okT_seq.mpr ⟨by show 2 ≤ 1000; decide, fun d hd => by
    rcases mem2 hd with rfl | rfl
    · refine okT_seq.mpr ⟨by rw [List.length_map]; omega, fun d hd => ?_⟩
      obtain ⟨x, hx, rfl⟩ := List.mem_map.mp hd
      exact ⟨(poolW_nm x (g.wp x hx)).2, poolW_ok x (g.wp x hx)⟩
    · refine okT_seq.mpr ⟨by rw [List.length_map]; omega, fun d hd => ?_⟩
      obtain ⟨q, hq, rfl⟩ := List.mem_map.mp hd
      have hw := g.qq q hq
      refine okT_seq.mpr ⟨by show 5 ≤ 1000; decide, fun d hd => ?_⟩
      rcases mem5 hd with rfl | rfl | rfl | rfl | rfl
      · exact ⟨(g.nm_nm q hq).2, g.nm_ok q hq⟩
      · exact ⟨(poolW_nm _ (g.wp _ hw.1)).2, poolW_ok _ (g.wp _ hw.1)⟩
      · exact ⟨(poolW_nm _ (g.wp _ hw.2.1)).2, poolW_ok _ (g.wp _ hw.2.1)⟩
      · trivial
      · trivial⟩
theorem net_tup {ws : List Str} {qs : List QD} (h1 : ws.length ≤ 60) (h2 : qs.length ≤ 60) : tupD 4 (netD true ws qs) :=
  ⟨by show 2 ≤ 300; decide, fun d hd => by
    rcases mem2 hd with rfl | rfl
    · refine ⟨by rw [List.length_map]; omega, fun d hd => ?_⟩
      obtain ⟨x, hx, rfl⟩ := List.mem_map.mp hd
      trivial
    · refine ⟨by rw [List.length_map]; omega, fun d hd => ?_⟩
      obtain ⟨q, hq, rfl⟩ := List.mem_map.mp hd
      refine ⟨by show 5 ≤ 300; decide, fun d hd => ?_⟩
      rcases mem5 hd with rfl | rfl | rfl | rfl | rfl <;> trivial⟩
def row5 (q : QD) : List V := [.str q.nm, .str q.st, .str q.en, .int q.room, .int q.gap]
section
variable {K : PySem.W.Frag} {S : List Addr} {H0 : Hp} {σ : L2.St}
/-- web[1][0][i] -/
theorem ic_r0 {a0 a1 a2 aq : Addr} {ws : List Str} {qs : List QD} {xq : List V} {i : Nat} {q : QD} {v : V} {d : PyData} {n : Nat} (N : NetAt K H0 true a0 a1 a2 ws qs xq) (hi : σ[i]? = some (some (.ref a0))) (hj : atI xq 0 = some (.ref aq)) (hq : SqF true K H0 aq (row5 q)) (hv : (row5 q)[n]? = some v) (hd : ∀ H, Dp K H v d) :
    IsC K S H0 (tOp (rIxF K) (tOp (rIxF K) (tOp (rIxF K) (tVar i) (tC (.int 1))) (tC (.int 0))) (tC (.int n))) d σ := fun H Q e _ k =>
  ⟨_, hi, rIxF_at (N.same e).h0 (atI_nat (j := 1) rfl) (rIxF_at (N.same e).h2 hj (rIxF_at (e.sqF hq) (atI_nat hv) (k H _ (fun _ _ e => e) (hd _))))⟩
/-- web[1][-1][i] -/
theorem ic_rN {a0 a1 a2 aq : Addr} {ws : List Str} {qs : List QD} {xq : List V} {i : Nat} {q : QD} {v : V} {d : PyData} {n : Nat} (N : NetAt K H0 true a0 a1 a2 ws qs xq) (hi : σ[i]? = some (some (.ref a0))) (hj : atI xq (-1) = some (.ref aq)) (hq : SqF true K H0 aq (row5 q)) (hv : (row5 q)[n]? = some v) (hd : ∀ H, Dp K H v d) :
    IsC K S H0 (tOp (rIxF K) (tOp (rIxF K) (tOp (rIxF K) (tVar i) (tC (.int 1))) (tUn (rU fun i => .int (-i)) (tC (.int 1)))) (tC (.int n))) d σ := fun H Q e _ k =>
  ⟨_, hi, rIxF_at (N.same e).h0 (atI_nat (j := 1) rfl) ⟨1, rfl, rIxF_at (N.same e).h2 hj (rIxF_at (e.sqF hq) (atI_nat hv) (k H _ (fun _ _ e => e) (hd _)))⟩⟩
/-- web[1][0] -/
theorem ic_row {a0 a1 a2 aq : Addr} {ws : List Str} {qs : List QD} {xq : List V} {i : Nat} {q : QD} (N : NetAt K H0 true a0 a1 a2 ws qs xq) (hi : σ[i]? = some (some (.ref a0))) (hj : atI xq 0 = some (.ref aq)) (hq : SqF true K (cutS S H0) aq (row5 q)) :
    IsC K S H0 (tOp (rIxF K) (tOp (rIxF K) (tVar i) (tC (.int 1))) (tC (.int 0))) (QD.d true q) σ := fun H Q e _ k =>
  ⟨_, hi, rIxF_at (N.same e).h0 (atI_nat (j := 1) rfl) (rIxF_at (N.same e).h2 hj (k H _ (fun _ _ e => e) (Dp.seq (f := true) ((cutS_mono e).sqF hq) (.cons (.str _) (.cons (.str _) (.cons (.str _) (.cons (.int _) (.cons (.int _) .nil))))))))⟩
/-- web[0][-1] -/
theorem ic_wN {a0 a1 a2 : Addr} {ws : List Str} {qs : List QD} {xq : List V} {i : Nat} {z : Str} (N : NetAt K H0 true a0 a1 a2 ws qs xq) (hi : σ[i]? = some (some (.ref a0))) (hz : atI (ws.map V.str) (-1) = some (.str z)) :
    IsC K S H0 (tOp (rIxF K) (tOp (rIxF K) (tVar i) (tC (.int 0))) (tUn (rU fun i => .int (-i)) (tC (.int 1)))) (.str z) σ := fun H Q e _ k =>
  ⟨_, hi, rIxF_at (N.same e).h0 (atI_nat (j := 0) rfl) ⟨1, rfl, rIxF_at (N.same e).h1 hz (k H _ (fun _ _ e => e) (.str _))⟩⟩
/-- x + y of numbers -/
theorem ic_add {ta tb : TE} {i j : Int} (h1 : IsC K S H0 ta (.int i) σ) (h2 : IsC K S H0 tb (.int j) σ) : IsC K S H0 (tOp (rI0 fun i j => .int (i + j)) ta tb) (.int (i + j)) σ := fun H Q e tr k =>
  h1 H _ e tr fun H1 v s1 d1 => h2 H1 _ (e.trans s1) (tr.mono s1) fun H2 u s2 d2 => by
    cases d1
    cases d2
    exact ⟨_, _, rfl, rfl, k H2 _ (s1.trans s2) (.int _)⟩
end
local macro_rules | `(tactic| walk_at "c") => `(tactic| repeat (first
  | exact ic_int
  | exact ic_str
  | exact ic_bl
  | exact ic_non
  | exact ic_neg
  | exact ic_pow ⟨by decide, by decide, by decide⟩
  | exact ic_ws (by assumption) rfl (by assumption)
  | exact ic_wN (by assumption) rfl (by assumption)
  | exact ic_row (by assumption) rfl (by assumption) (by assumption)
  | exact ic_r0 (n := 4) (by assumption) rfl (by assumption) (by assumption) rfl (fun _ => .int _)
  | exact ic_r0 (n := 3) (by assumption) rfl (by assumption) (by assumption) rfl (fun _ => .int _)
  | exact ic_rN (n := 0) (by assumption) rfl (by assumption) (by assumption) rfl (fun _ => .str _)
  | exact ic_rN (n := 3) (by assumption) rfl (by assumption) (by assumption) rfl (fun _ => .int _)
  | exact ac_nil
  | refine ic_add ?_ ?_
  | refine ic_tup ?_ ?_
  | refine ic_lst ?_ ?_
  | refine ac_cons ?_ ?_
  | exact Nat.le_of_ble_eq_true rfl))
def pA : List PyData := [.int 0, .int 1, .int (-1), .int 2, .bool true, .bool false, .none, .str (Str.ofString ""), .str (Str.ofString "a"), .str (Str.ofString "b"), .str (Str.ofString "zz"), .str (Str.ofString "1"), .str (Str.ofString "a b"), .str (Str.ofString "A"), .str (Str.ofString "ab1-"), .str (Str.ofString "aa_"), .tuple [], .list [], .tuple [.str (Str.ofString "a")]]
def pB (w0 wN : Str) (q0 qN : QD) : List PyData := [.int (10 ^ (Int.toNat 40) + 1), .str w0, .str wN, QD.d true q0, .str qN.nm, .int qN.room, .int q0.gap]
def pC (q0 : QD) : List PyData := [.int (q0.room + 1)]
theorem pA_ok : ∀ d ∈ pA, okTB 2 d = true := by decide +kernel
theorem pool_ok {w0 wN : Str} {q0 qN : QD} (h1 : okT 1 (.str w0)) (h2 : okT 1 (.str wN)) (h3 : okT 2 (QD.d true q0)) (h4 : okT 1 (.str qN.nm)) : ∀ d ∈ (pA ++ pB w0 wN q0 qN) ++ pC q0, okT 2 d := fun d hd => by
  rcases List.mem_append.mp hd with hd | hd
  · rcases List.mem_append.mp hd with hd | hd
    · exact okTB_ok (pA_ok d hd)
    · simp only [pB, List.mem_cons, List.not_mem_nil, or_false] at hd
      rcases hd with rfl | rfl | rfl | rfl | rfl | rfl | rfl
      · trivial
      · exact h1
      · exact h2
      · exact h3
      · exact h4
      · trivial
      · trivial
  · simp only [pC, List.mem_cons, List.not_mem_nil, or_false] at hd
    subst hd
    trivial
theorem atI_end {xs : List V} (h : 1 ≤ xs.length) : ∃ v, atI xs (-1) = some v ∧ xs[xs.length - 1]? = some v := by
  have hne : xs ≠ [] := fun z => by rw [z] at h; exact absurd h (by decide)
  refine ⟨xs.getLast hne, ?_, ?_⟩
  · have := atI_last xs.dropLast (xs.getLast hne)
    rw [List.dropLast_concat_getLast] at this
    exact this
  · rw [List.getLast_eq_getElem, List.getElem?_eq_getElem (by omega)]
section
variable {P : Program} {w : World} {K : PySem.W.Frag} {mg : Str → Option Value} {base : Heap}
def spRight (K : PySem.W.Frag) : Sp := fun vs H Q _ => ∃ (b : Addr) (bx : List V) (N : Nat), vs = [.ref b] ∧ H b = some (.lst bx) ∧ BoxL bx N ∧ N < 2 ^ 49 ∧ ∀ H', Same (cutS [b] H) H' → Q (.bl true) H'
theorem ok_right {f fH fW fO fP fA fB fS : Addr} {fd fdH fdW fdO fdP fdA fdB fdS : FuncData} {k : Nat} (F : Fun K "_law_right" "_law_right" s_w_right f fd)
    (G_w_hand_right : FnOk P w K mg base CX0 k fH fdH [] spHand) (g_w_hand_right : mg "_law_hand_right" = some (.ref fH)) (F_w_hand_right : Fun K "_law_hand_right" "_law_hand_right" s_w_hand_right fH fdH) (b_w_hand_right : Binds K fdH [] [])
    (G_w_web : FnOk P w K mg base CX0 k fW fdW ["_law_box_here", "_law_size_so", "_law_most", "_law_high"] (spWeb K)) (g_w_web : mg "_law_web" = some (.ref fW)) (F_w_web : Fun K "_law_web" "_law_web" s_w_web fW fdW) (b_w_web : Binds K fdW ["_law_box_here", "_law_size_so", "_law_most", "_law_high"] [])
    (G_w_of : FnOk P w K mg base CX0 k fO fdO ["_law_box_here", "_law_some"] (spOf K)) (g_w_of : mg "_law_of" = some (.ref fO)) (F_w_of : Fun K "_law_of" "_law_of" s_w_of fO fdO) (b_w_of : Binds K fdO ["_law_box_here", "_law_some"] [])
    (G_is_net : FnOk P w K mg base CX0 k fA fdA ["thing"] (spNet K)) (g_is_net : mg "is_net" = some (.ref fA)) (F_is_net : Fun K "is_net" "is_net" s_is_net fA fdA) (b_is_net : Binds K fdA ["thing"] [])
    (G_w_is_web : FnOk P w K mg base CX0 k fB fdB ["_law_matter"] (spNet K)) (g_w_is_web : mg "_law_is_web" = some (.ref fB)) (F_w_is_web : Fun K "_law_is_web" "_law_is_web" s_w_is_web fB fdB) (b_w_is_web : Binds K fdB ["_law_matter"] [])
    (G_w_spoilt : FnOk P w K mg base CX0 k fP fdP ["_law_box_here", "_law_matter", "_law_pool", "_law_deep"] (spSpoilt K 3)) (g_w_spoilt : mg "_law_spoilt" = some (.ref fP)) (F_w_spoilt : Fun K "_law_spoilt" "_law_spoilt" s_w_spoilt fP fdP) (b_w_spoilt : Binds K fdP ["_law_box_here", "_law_matter", "_law_pool", "_law_deep"] [])
    (G_w_same : FnOk P w K mg base CX0 k fS fdS ["_law_got", "_law_due"] (spSame K 4)) (g_w_same : mg "_law_same" = some (.ref fS)) (F_w_same : Fun K "_law_same" "_law_same" s_w_same fS fdS) (b_w_same : Binds K fdS ["_law_got", "_law_due"] [])
    (m_range : mg "range" = none) : FnOk P w K mg base CX0 (k + 1) f fd ["_law_box_here"] (spRight K) := by
  refine F.ok sc_w_right (fun vs H Q E h => ?_) (fun cdv A outer s0 H vs Q E hr h => ?_)
  · obtain ⟨b, bx, N, rfl, _⟩ := h
    rfl
  · obtain ⟨b, bx, N, rfl, hb, hB, hN, q⟩ := h
    refine ⟨_, (pss_cons (ps_if (pt_not (pt_val (pe_call0 G_w_hand_right hr (by rfl) g_w_hand_right F_w_hand_right.kp b_w_hand_right .nil pass0))) (pss_one (ps_ret pe_bl)) pss_nil) 
    (pss_cons (ps_forX (ps_for PassesOwn.never rfl (pi_range1 (by rfl) m_range (pa_cons pe_int pa_nil)) (pg_name (i := 1) sc_w_right.nd rfl (Or.inl rfl)) 
      (pss_cons (ps_set (i := 2) sc_w_right.nd rfl (Or.inl rfl) (pe_call G_w_web hr (by rfl) g_w_web F_w_web.kp b_w_web .nil pass0 (pa_cons (pv 0) (pa_cons pe_int (pa_cons pe_int (pa_cons (pe_call G_w_of hr (by rfl) g_w_of F_w_of.kp b_w_of .nil pass0 (pa_cons (pv 0) (pa_cons (pe_lst (pa_cons pe_int (pa_cons pe_int (pa_cons (pe_op op_pow pe_int pe_int) pa_nil)))) pa_nil))) pa_nil)))))) 
      (pss_cons (ps_if (pt_cmpR op_notBl (pe_call G_is_net hr (by rfl) g_is_net F_is_net.kp b_is_net .nil pass0 (pa_cons (pv 2) pa_nil)) pe_bl (nomark _)) (pss_one (ps_ret pe_bl)) pss_nil) 
      (pss_cons (ps_set (i := 3) sc_w_right.nd rfl (Or.inl rfl) (pe_lst (pa_cons pe_int (pa_cons pe_int (pa_cons (pe_un un_neg pe_int) (pa_cons pe_int (pa_cons pe_bl (pa_cons pe_bl (pa_cons pe_non (pa_cons pe_str (pa_cons pe_str (pa_cons pe_str (pa_cons pe_str (pa_cons pe_str (pa_cons pe_str (pa_cons pe_str (pa_cons pe_str (pa_cons pe_str (pa_cons (pe_tup pa_nil) (pa_cons (pe_lst pa_nil) (pa_cons (pe_tup (pa_cons pe_str pa_nil)) pa_nil))))))))))))))))))))) 
      (pss_cons (ps_set (i := 3) sc_w_right.nd rfl (Or.inl rfl) (pe_op op_cat (pv 3) (pe_lst (pa_cons (pe_op op_add (pe_op op_pow pe_int pe_int) pe_int) (pa_cons (pe_ix ix_lt (pe_ix ix_lt (pv 2) pe_int (fun _ _ => rfl)) pe_int (fun _ _ => rfl)) (pa_cons (pe_ix ix_lt (pe_ix ix_lt (pv 2) pe_int (fun _ _ => rfl)) (pe_un un_neg pe_int) (fun _ _ => rfl)) (pa_cons (pe_ix ix_lt (pe_ix ix_lt (pv 2) pe_int (fun _ _ => rfl)) pe_int (fun _ _ => rfl)) (pa_cons (pe_ix ix_lt (pe_ix ix_lt (pe_ix ix_lt (pv 2) pe_int (fun _ _ => rfl)) (pe_un un_neg pe_int) (fun _ _ => rfl)) pe_int (fun _ _ => rfl)) (pa_cons (pe_ix ix_lt (pe_ix ix_lt (pe_ix ix_lt (pv 2) pe_int (fun _ _ => rfl)) (pe_un un_neg pe_int) (fun _ _ => rfl)) pe_int (fun _ _ => rfl)) (pa_cons (pe_ix ix_lt (pe_ix ix_lt (pe_ix ix_lt (pv 2) pe_int (fun _ _ => rfl)) pe_int (fun _ _ => rfl)) pe_int (fun _ _ => rfl)) pa_nil)))))))))) 
      (pss_cons (ps_set (i := 3) sc_w_right.nd rfl (Or.inl rfl) (pe_op op_cat (pv 3) (pe_lst (pa_cons (pe_op op_add (pe_ix ix_lt (pe_ix ix_lt (pe_ix ix_lt (pv 2) pe_int (fun _ _ => rfl)) pe_int (fun _ _ => rfl)) pe_int (fun _ _ => rfl)) pe_int) pa_nil)))) 
      (pss_cons (ps_set (i := 4) sc_w_right.nd rfl (Or.inl rfl) (pe_call G_w_spoilt hr (by rfl) g_w_spoilt F_w_spoilt.kp b_w_spoilt .nil pass0 (pa_cons (pv 0) (pa_cons (pv 2) (pa_cons (pv 3) (pa_cons pe_int pa_nil)))))) 
      (pss_one (ps_if (pt_not (pt_val (pe_call G_w_same hr (by rfl) g_w_same F_w_same.kp b_w_same .nil pass0 (pa_cons (pe_call G_is_net hr (by rfl) g_is_net F_is_net.kp b_is_net .nil pass0 (pa_cons (pv 4) pa_nil)) (pa_cons (pe_call G_w_is_web hr (by rfl) g_w_is_web F_w_is_web.kp b_w_is_web .nil pass0 (pa_cons (pv 4) pa_nil)) pa_nil))))) (pss_one (ps_ret pe_bl)) pss_nil)))))))))) 
    (pss_one (ps_ret pe_bl)))), ?_⟩
    walk_at "ev"
    refine fun H1 s1 => ?_
    refine ⟨_, rfl, iteF ?_⟩
    try dsimp only [tNext]
    refine for_of ?_
    walk_at "ev"
    refine ⟨by decide, by decide, ?_⟩
    refine forR_it (walk_range (lo := 0) (n := 12)) (fun i σ Hc => ∃ x1 x2 x3 x4 bx', σ = [some (.ref b), x1, x2, x3, x4] ∧ Same (cutS [b] H) Hc ∧ Hc b = some (.lst bx') ∧ BoxL bx' (N + 1000 * i)) ⟨_, _, _, _, bx, rfl, fun a o ha => s1 a o (cutS_le _ _ ha), s1 _ _ hb, hB⟩ (fun _ _ _ _ _ => trivial) (fun i v σ Hc Hc' hi hh y => ?_) (fun σ Hc hh => ?_)
    · obtain ⟨x1, x2, x3, x4, bx', rfl, eS, hbc, hBc⟩ := hh
      obtain ⟨rfl, _⟩ := y
      have eSc : Same (cutS [b] H) (cutS [b] Hc') := fun a o ha => by
        obtain ⟨g1, _⟩ := cutS_some ha
        rw [cutS_out g1]
        exact eS a o ha
      have tbc : Trk [b] Hc' := Trk.cons Trk.nil hbc
      generalize hM : N + 1000 * i = M at hBc
      have hM2 : M < 2 ^ 50 := by omega
      walk_at "ev"
      intro p hp
      have npb : p ≠ b := fun z => by
        rw [z, hbc] at hp
        cases hp
      have s3 : Same Hc' (upd Hc' p (.lst [.int 3, .int 9, .int (10 ^ (Int.toNat 40))])) := .upd hp
      have h3 : (upd Hc' p (.lst [.int 3, .int 9, .int (10 ^ (Int.toNat 40))])) p = some (.lst [.int 3, .int 9, .int (10 ^ (Int.toNat 40))]) := upd_same
      try dsimp only [tNil]
      generalize upd Hc' p (.lst [.int 3, .int 9, .int (10 ^ (Int.toNat 40))]) = H3 at s3 h3 ⊢
      refine ⟨b, p, bx', M, false, _, rfl, s3 _ _ hbc, hBc, by omega, sql_of (cutS_at h3 (not1 npb)), by decide, by decide, fun u bx2 hu hB2 => ?_⟩
      obtain ⟨hg0, rfl, g1, g2⟩ : ∃ z : Int, u = .int z ∧ 1 ≤ z ∧ z ≤ 10 ^ 50 := by
        rcases mem3 hu with e | e | e
        · exact ⟨3, e, by decide, by decide⟩
        · exact ⟨9, e, by decide, by decide⟩
        · exact ⟨_, e, by decide, by decide⟩
      have eC : cutS [b] (upd H3 b (.lst bx2)) = cutS [b] H3 := cutS_upd List.mem_cons_self
      refine ⟨b, 5, 6, hg0, bx2, M + 1, rfl, upd_same, hB2, by omega, by decide, by decide, by decide, by decide, g1, g2, fun H4 v ws qs bx4 hg hD hW hb4 hB4 hS4 => ?_⟩
      clear hW
      rw [eC] at hS4
      replace eSc := eSc.trans ((cutS_mono s3).trans hS4)
      clear eC hS4 hB2 hu npb h3 s3 tbc hbc hBc eS
      have hwl : ws.length ≤ 60 := by have := hg.wl; omega
      have hql : qs.length ≤ 60 := by have := hg.ql; omega
      have hok := net_okT hg hwl hql
      walk_at "ev"
      refine ⟨v, _, rfl, cutS_le.dp hD, okT_mono (by decide) hok, fun H5 s5 => ?_⟩
      rw [net_good hg]
      refine ⟨_, _, rfl, rfl, ?_⟩
      refine ⟨_, rfl, ?_⟩
      rw [decide_eq_true rfl]
      refine iteF ?_
      replace eSc := eSc.trans (cutS_mono s5)
      have hD5 := (cutS_mono s5).dp hD
      have hb5 := s5 _ _ hb4
      clear hD hb4 s5
      obtain ⟨a0, a1, a2, xq, rfl, N0⟩ := netAt hD5
      have hx1 : 1 ≤ xq.length := by rw [N0.ll]; exact hg.q1
      obtain ⟨q0, aq0, hq0, hj0, hr0⟩ : ∃ (q0 : QD) (aq : Addr), q0 ∈ qs ∧ atI xq 0 = some (.ref aq) ∧ SqF true K (cutS [b] H5) aq (row5 q0) := by
        obtain ⟨qd, aq, g1, g2, g3⟩ := N0.hq 0 xq[0] (List.getElem?_eq_getElem (by omega))
        exact ⟨qd, aq, List.mem_of_getElem? g1, by rw [← g2]; exact atI_nat (j := 0) (List.getElem?_eq_getElem (by omega)), g3⟩
      obtain ⟨qL, aqL, hqL, hjL, hrL⟩ : ∃ (q0 : QD) (aq : Addr), q0 ∈ qs ∧ atI xq (-1) = some (.ref aq) ∧ SqF true K (cutS [b] H5) aq (row5 q0) := by
        obtain ⟨vL, e1, e2⟩ := atI_end hx1
        obtain ⟨qd, aq, g1, g2, g3⟩ := N0.hq (xq.length - 1) vL e2
        exact ⟨qd, aq, List.mem_of_getElem? g1, by rw [e1, g2], g3⟩
      obtain ⟨w0, hw0, hwm⟩ : ∃ w0, ws[0]? = some w0 ∧ w0 ∈ ws := by
        have := hg.w2
        exact ⟨ws[0], List.getElem?_eq_getElem (by omega), List.getElem_mem _⟩
      obtain ⟨wN, hwN, hwNm⟩ : ∃ wN, atI (ws.map V.str) (-1) = some (.str wN) ∧ wN ∈ ws := by
        have := hg.w2
        obtain ⟨vL, e1, e2⟩ := atI_end (xs := ws.map V.str) (by rw [List.length_map]; omega)
        rw [List.length_map, List.getElem?_map, List.getElem?_eq_getElem (show ws.length - 1 < ws.length by omega)] at e2
        cases e2
        exact ⟨_, e1, List.getElem_mem _⟩
      have wok : ∀ x ∈ ws, okT 1 (.str x) := fun x hx => ⟨(poolW_nm x (hg.wp x hx)).2, poolW_ok x (hg.wp x hx)⟩
      have nok : ∀ q ∈ qs, okT 1 (.str q.nm) := fun q hq => ⟨(hg.nm_nm q hq).2, hg.nm_ok q hq⟩
      have rok : okT 2 (QD.d true q0) := by
        have hw := hg.qq q0 hq0
        refine okT_seq.mpr ⟨by show 5 ≤ 1000; decide, fun d hd => ?_⟩
        rcases mem5 hd with rfl | rfl | rfl | rfl | rfl
        · exact nok q0 hq0
        · exact wok _ hw.1
        · exact wok _ hw.2.1
        · trivial
        · trivial
      have plg := pool_ok (q0 := q0) (wok w0 hwm) (wok wN hwNm) rok (nok qL hqL)
      have t5 : Trk [b] H5 := Trk.cons Trk.nil hb5
      try dsimp only [tNext, gName, tSeq, tAsg]
      refine nw_lst (K := K) (S := [b]) (H0 := H5) (ds := pA) (by unfold pA; walk_at "c") (by show 19 ≤ 1000; decide) H5 _ (fun _ _ e => e) t5 fun H6 p6 v6 s6 f6 h6 d6 => ?_
      try dsimp only [gName, tSeq, tAsg]
      replace d6 := cutS_tail.dpa d6
      replace N0 := N0.same (cutS_mono s6)
      replace hD5 := (cutS_mono s6).dp hD5
      replace hr0 := (cutS_mono s6).sqF hr0
      replace hrL := (cutS_mono s6).sqF hrL
      replace eSc := eSc.trans (cutS_mono s6)
      replace hb5 := s6 _ _ hb5
      replace t5 := t5.mono s6
      have N1 := N0.same cutS_le
      have r1 := (cutS_le (S := [b]) (H := H6)).sqF hr0
      have r2 := (cutS_le (S := [b]) (H := H6)).sqF hrL
      clear s6 f6
      refine nw_cat (K := K) (S := [b]) (H0 := H6) (ds := pA) (es := pB w0 wN q0 qL) (rd_var rfl h6 d6) (rd_nw (nw_lst (by unfold pB; walk_at "c") (by show 7 ≤ 1000; decide))) (by show 19 + 7 ≤ 1000; decide) H6 _ (fun _ _ e => e) t5 fun H7 p7 v7 s7 f7 h7 d7 => ?_
      try dsimp only [gName, tSeq, tAsg]
      replace d7 := cutS_tail.dpa d7
      replace N0 := N0.same (cutS_mono s7)
      replace hD5 := (cutS_mono s7).dp hD5
      replace hr0 := (cutS_mono s7).sqF hr0
      replace eSc := eSc.trans (cutS_mono s7)
      replace hb5 := s7 _ _ hb5
      replace t5 := t5.mono s7
      replace N1 := N1.same s7
      replace r1 := s7.sqF r1
      clear s7 f7 r2 hrL h6 d6
      refine nw_cat (K := K) (S := [b]) (H0 := H7) (ds := pA ++ pB w0 wN q0 qL) (es := pC q0) (rd_var rfl h7 d7) (rd_nw (nw_lst (by unfold pC; walk_at "c") (by show 1 ≤ 1000; decide))) (by show 26 + 1 ≤ 1000; decide) H7 _ (fun _ _ e => e) t5 fun H8 p8 v8 s8 f8 h8 d8 => ?_
      try dsimp only [gName, tSeq, tAsg]
      have np8 : p8 ≠ b := fun z => by
        rw [z, hb5] at f8
        cases f8
      replace d8 := cutS_tail.dpa d8
      replace hD5 := (cutS_mono s8).dp hD5
      replace eSc := eSc.trans (cutS_mono s8)
      replace hb5 := s8 _ _ hb5
      clear s8 f8 h7 d7 N1 r1 t5 hr0 N0
      have vl : v8.length = 27 := by
        rw [dpa_len d8]
        rfl
      walk_at "ev"
      try dsimp only [tNil]
      refine ⟨b, p8, .ref a0, bx4, M + 1 + 200, _, v8, rfl, hb5, hB4, by omega, hD5, hok, net_tup hwl hql, sql_of (cutS_at h8 (not1 np8)), goodV_of d8 plg, by omega, by omega, fun H9 v9 d9 bx9 hd9 ok9 hb9 hB9 hS9 => ?_⟩
      replace eSc := eSc.trans hS9
      clear hS9 hD5 d8 h8 hb5
      walk_at "ev"
      refine ⟨v9, d9, rfl, cutS_le.dp hd9, okT_mono (by decide) ok9, fun HA sA => ?_⟩
      walk_at "ev"
      refine ⟨v9, d9, rfl, sA.dp (cutS_le.dp hd9), okT_mono (by decide) ok9, fun HB sB => ?_⟩
      walk_at "ev"
      refine ⟨_, _, .bool (netB d9), rfl, .bl _, .bl _, trivial, fun HC sC => ?_⟩
      refine ⟨_, rfl, ?_⟩
      refine iteF ?_
      have sAll := (sA.trans sB).trans sC
      exact ⟨_, _, _, _, bx9, rfl, fun a o ha => sAll _ _ (cutS_le _ _ (eSc a o ha)), sAll _ _ hb9, hB9.mono (by omega)⟩
    · obtain ⟨x1, x2, x3, x4, bx', rfl, eS, hbc, hBc⟩ := hh
      walk_at "ev"
      exact q _ eS
end
end Jl

set_option Elab.async false
set_option linter.all false
set_option maxRecDepth 100000
set_option maxHeartbeats 4000000
set_option pp.maxSteps 900
namespace Jl
open PySem PySem.Spec PyProof.Rows L2
open Evl (sz_of sz_lt)
local macro_rules | `(tactic| walk_at "at") => `(tactic| first | exact box0 | exact box1 | exact box2)
local macro_rules | `(tactic| walk_at "sq") => `(tactic| first | (show SqL _ _ _ _; assumption) | (show SqT _ _ _ _; assumption) | (show _ = some _; assumption))
local macro_rules | `(tactic| walk_at "side") => `(tactic| first
  | (show (0 : Int) < _; decide)
  | (show (0 : Int) < _; omega)
  | exact ⟨by decide, by decide, by decide⟩
  | exact sz_of (Nat.le_of_ble_eq_true rfl)
  | exact rfl
  | exact Or.inl (by decide)
  | exact Or.inr (by decide)
  | exact Or.inr ⟨by omega, by omega⟩
  | exact Or.inl ⟨by omega, by omega⟩
  | exact ⟨by decide, by decide +kernel⟩)
local macro_rules | `(tactic| walk_at "ev1") => `(tactic| first
  | refine ⟨_, rfl, ?_⟩
  | refine ⟨_, _, rfl, rfl, ?_⟩
  | refine ⟨_, _, _, _, rfl, rfl, (by walk_at "sq"), (by walk_at "at"), ?_⟩
  | refine ⟨_, _, rfl, (by walk_at "sq"), ?_⟩
  | refine ⟨_, _, rfl, Or.inl (by walk_at "sq"), ?_⟩
  | refine ⟨_, _, rfl, Or.inr (by walk_at "sq"), ?_⟩
  | refine Or.inl ⟨_, rfl, ?_⟩
  | refine Or.inr ⟨_, rfl, ?_⟩
  | refine ⟨(by walk_at "side"), ?_⟩
  | refine ⟨.inl ⟨rfl, _, (by walk_at "sq")⟩, ?_⟩
  | refine ⟨_, _, rfl, ?_⟩)
local macro_rules | `(tactic| walk_at "nrm") => `(tactic| dsimp only [tNil, tCons, tC, tCB])
local macro_rules | `(tactic| walk_at "ev") => `(tactic| repeat (walk_at "ev1"))

abbrev sc_law_N : List Str := ["_law_script", "_law_cells_here", "_law_k"]
abbrev s_law : Stmt := topS 25
theorem sc_law : FnScope ["_law_script", "_law_cells_here", "_law_k"] ["_law_script"] (defScope s_law) := ⟨rfl, rfl, rfl, by decide +kernel, rfl, by decide +kernel, by decide +kernel⟩
section
variable {P : Program} {w : World} {K : PySem.W.Frag} {mg : Str → Option Value} {base : Heap}
def spLaw (K : PySem.W.Frag) : Sp := fun vs H Q _ => ∃ (a : Addr) (ns : List Int), vs = [.ref a] ∧ SqL K H a (ns.map V.int) ∧ ns.length ≤ 63 ∧ ∀ H', Q (.bl true) H'
theorem ok_law {f fC fB fR : Addr} {fd fdC fdB fdR : FuncData} {k : Nat} (F : Fun K "law" "law" s_law f fd)
    (G_w_cells : FnOk P w K mg base CX0 k fC fdC ["_law_script", "_law_most"] (spCells K)) (g_w_cells : mg "_law_cells" = some (.ref fC)) (F_w_cells : Fun K "_law_cells" "_law_cells" s_w_cells fC fdC) (b_w_cells : Binds K fdC ["_law_script", "_law_most"] [])
    (G_w_box : FnOk P w K mg base CX0 k fB fdB ["_law_script", "_law_k"] (spBox K)) (g_w_box : mg "_law_box" = some (.ref fB)) (F_w_box : Fun K "_law_box" "_law_box" s_w_box fB fdB) (b_w_box : Binds K fdB ["_law_script", "_law_k"] [])
    (G_w_right : FnOk P w K mg base CX0 k fR fdR ["_law_box_here"] (spRight K)) (g_w_right : mg "_law_right" = some (.ref fR)) (F_w_right : Fun K "_law_right" "_law_right" s_w_right fR fdR) (b_w_right : Binds K fdR ["_law_box_here"] [])
    (m_all : mg "all" = none) (m_range : mg "range" = none) (m_len : mg "len" = none) : FnOk P w K mg base CX0 (k + 1) f fd ["_law_script"] (spLaw K) := by
  refine F.ok sc_law (fun vs H Q E h => ?_) (fun cdv A outer s0 H vs Q E hr h => ?_)
  · obtain ⟨a, ns, rfl, _⟩ := h
    rfl
  · obtain ⟨a, ns, rfl, hS, hn, q⟩ := h
    refine ⟨_, (pss_cons (ps_set (i := 1) sc_law.nd rfl (Or.inr rfl) (pe_call G_w_cells hr (by rfl) g_w_cells F_w_cells.kp b_w_cells .nil pass0 (pa_cons (pv 0) (pa_cons pe_int pa_nil)))) 
    (pss_one (ps_ret (pe_callB (cr_all rfl) (by rfl) m_all (by decide +kernel) (pa_cons (pe_lcX (pe_lc (own := [("_law_k", 2)]) (g := gName 2) (tt := tYes) (by rfl) sc_law.nd (pi_range1 (by rfl) m_range (pa_cons (pe_callB call_len_seq (by rfl) m_len PySem.boot_len (pa_cons (pv 1) pa_nil)) pa_nil)) (blkOk_by (own := [("_law_k", 2)]) (N := sc_law_N) (sc := defScope s_law) (by decide +kernel)) (fun _ _ _ _ _ => pg_name (i := 2) sc_law.nd rfl (Or.inl rfl)) (fun _ _ _ _ _ => pts_nil) (fun _ _ _ _ _ => (pe_call G_w_right hr (by rfl) g_w_right F_w_right.kp b_w_right .nil pass0 (pa_cons (pe_call G_w_box hr (by rfl) g_w_box F_w_box.kp b_w_box .nil pass0 (pa_cons (pv 1) (pa_cons (pv 2) pa_nil))) pa_nil))))) pa_nil))))), ?_⟩
    walk_at "ev"
    refine ⟨a, ns, 3, rfl, hS, hn, by decide, by decide, fun H1 p cs s1 hp hp1 hl => ?_⟩
    have hq1 : SqL K H1 p (cs.map V.int) := sql_of hp1
    walk_at "ev"
    refine lc_of ?_
    walk_at "ev"
    rw [List.length_map]
    refine ⟨by omega, by omega, ?_⟩
    rw [Int.toNat_natCast]
    intro D hD
    refine lc_it (walk_range (lo := 0) (n := cs.length)) (fun i H' => H' p = some (.lst (cs.map V.int)) ∧ H' D = some (.lst ((List.replicate i true).map V.bl))) ⟨(Same.upd hD) _ _ hp1, upd_same⟩ (fun _ _ _ _ => trivial) (fun i x H' H'' hi hh y => ?_) (fun H' hh => ?_)
    · obtain ⟨h1, h2⟩ := hh
      obtain ⟨rfl, hv⟩ := y
      have hv : x = .int (0 + (i : Int)) := hv
      rw [Int.zero_add] at hv
      subst hv
      refine ⟨rfl, ?_⟩
      dsimp only [tYes]
      rw [if_pos rfl]
      walk_at "ev"
      refine ⟨p, cs, i, rfl, sql_of h1, by omega, by omega, fun b c0 c1 hb k0 k1 k2 => ?_⟩
      walk_at "ev"
      refine ⟨b, _, 0, rfl, upd_same, ⟨c0, c1, 0, rfl, k0, k1, k2, by decide, by decide⟩, by decide, fun H3 s3 => ?_⟩
      have npb : p ≠ b := ne_of_none h1 hb
      have nDb : D ≠ b := ne_of_none h2 hb
      have g1 : H3 p = some (.lst (cs.map V.int)) := s3 _ _ (by rw [cutS_out (not1 npb), upd_ne npb]; exact h1)
      have g2 : H3 D = some (.lst ((List.replicate i true).map V.bl)) := s3 _ _ (by rw [cutS_out (not1 nDb), upd_ne nDb]; exact h2)
      have nDp : p ≠ D := ne_of_none hp1 hD
      refine ⟨_, g2, by rw [List.length_map, List.length_replicate]; exact sz_lt (by omega), ?_, ?_⟩
      · rw [upd_ne nDp]
        exact g1
      · rw [upd_same, List.replicate_succ', List.map_append]
        rfl
    · obtain ⟨h1, h2⟩ := hh
      refine ⟨D, _, rfl, sql_of h2, ?_⟩
      have e : (List.replicate cs.length true).all id = true := by
        rw [List.all_eq_true]
        exact fun b hb => List.eq_of_mem_replicate hb
      rw [e]
      exact q _
end
end Jl

set_option Elab.async false
set_option linter.all false
set_option maxRecDepth 100000
set_option maxHeartbeats 4000000
set_option pp.maxSteps 40
namespace Jl
open PySem PySem.Spec PyProof.Rows L2
open Evl (sz_of sz_lt)
local macro_rules | `(tactic| walk_at "at") => `(tactic| first | exact box0 | exact box1 | exact box2)
local macro_rules | `(tactic| walk_at "sq") => `(tactic| first | (show SqL _ _ _ _; assumption) | (show SqT _ _ _ _; assumption) | (show _ = some _; assumption))
local macro_rules | `(tactic| walk_at "side") => `(tactic| first
  | (show (0 : Int) < _; decide)
  | (show (0 : Int) < _; omega)
  | exact ⟨by decide, by decide, by decide⟩
  | exact sz_of (Nat.le_of_ble_eq_true rfl)
  | exact rfl
  | exact Or.inl (by decide)
  | exact Or.inr (by decide)
  | exact Or.inr ⟨by omega, by omega⟩
  | exact Or.inl ⟨by omega, by omega⟩
  | exact ⟨by decide, by decide +kernel⟩)
local macro_rules | `(tactic| walk_at "ev1") => `(tactic| first
  | refine ⟨_, rfl, ?_⟩
  | refine ⟨_, _, rfl, rfl, ?_⟩
  | refine ⟨_, _, _, _, rfl, rfl, (by walk_at "sq"), (by walk_at "at"), ?_⟩
  | refine ⟨_, _, rfl, (by walk_at "sq"), ?_⟩
  | refine ⟨_, _, rfl, Or.inl (by walk_at "sq"), ?_⟩
  | refine ⟨_, _, rfl, Or.inr (by walk_at "sq"), ?_⟩
  | refine Or.inl ⟨_, rfl, ?_⟩
  | refine Or.inr ⟨_, rfl, ?_⟩
  | refine ⟨(by walk_at "side"), ?_⟩
  | refine ⟨.inl ⟨rfl, _, (by walk_at "sq")⟩, ?_⟩
  | refine ⟨_, _, rfl, ?_⟩)
local macro_rules | `(tactic| walk_at "nrm") => `(tactic| dsimp only [tNil, tCons, tC, tCB])
local macro_rules | `(tactic| walk_at "ev") => `(tactic| repeat (walk_at "ev1"))

theorem all_mk {l : PySem.W.OpenLaw} {w : World} {K : PySem.W.Frag} {h : Heap} {mg : Str → Option Value} {fa f1 f2 f3 f4 f5 f6 f7 f8 f9 f10 f11 f12 f13 f14 f15 f16 f17 f18 f19 f20 f21 : Addr} (X : K.In h) (G : h.Ns mainGlobals mg) (hfa : mg "law" = some (.ref fa))
    {od1 an1 od2 an2 od3 an3 od4 an4 od5 an5 od6 an6 od7 an7 od8 an8 od9 an9 od10 an10 od11 an11 od12 an12 od13 an13 od14 an14 od15 an15 od16 an16 od17 an17 od18 an18 od19 an19 od20 an20 od21 an21 : Option Addr} {sl1 sl2 sl3 sl4 sl5 sl6 sl7 sl8 sl9 sl10 sl11 sl12 sl13 sl14 sl15 sl16 sl17 sl18 sl19 sl20 sl21 : Array (Option Value)} {oc1 kV1 dc1 pm1 cd1 ct1 oc2 kV2 dc2 pm2 cd2 ct2 oc3 kV3 dc3 pm3 cd3 ct3 oc4 kV4 dc4 pm4 cd4 ct4 oc5 kV5 dc5 pm5 cd5 ct5 oc6 kV6 dc6 pm6 cd6 ct6 oc7 kV7 dc7 pm7 cd7 ct7 oc8 kV8 dc8 pm8 cd8 ct8 oc9 kV9 dc9 pm9 cd9 ct9 oc10 kV10 dc10 pm10 cd10 ct10 oc11 kV11 dc11 pm11 cd11 ct11 oc12 kV12 dc12 pm12 cd12 ct12 oc13 kV13 dc13 pm13 cd13 ct13 oc14 kV14 dc14 pm14 cd14 ct14 oc15 kV15 dc15 pm15 cd15 ct15 oc16 kV16 dc16 pm16 cd16 ct16 oc17 kV17 dc17 pm17 cd17 ct17 oc18 kV18 dc18 pm18 cd18 ct18 oc19 kV19 dc19 pm19 cd19 ct19 oc20 kV20 dc20 pm20 cd20 ct20 oc21 kV21 dc21 pm21 cd21 ct21 : Value} {tL tS : Tok}
    {T1 : Addr} {tc1 : Value} {td1 : Option Addr} {tn1 : Nat} {ts1 : Array (Option Value)} (a1 : PySem.W.nsIn K mainGlobals "is_number" = some (some (.ref f1))) (l1 : K.lookup f1 = some ⟨oc1, od1, .func (PySem.W.fnOf "is_number" "is_number" (defArgs s_is_number) (defBody s_is_number) (defScope s_is_number) (.ref T1) kV1 dc1 pm1 an1 cd1 ct1), sl1⟩) (c1 : PySem.W.codeIn K cd1 "is_number" = true) (k1 : PySem.W.keepIn K (.ref f1) = true) (t1 : K.lookup T1 = some ⟨tc1, td1, .seq #[Value.none] tn1, ts1⟩)
    (a2 : PySem.W.nsIn K mainGlobals "is_name" = some (some (.ref f2))) (l2 : K.lookup f2 = some ⟨oc2, od2, .func (PySem.W.fnOf "is_name" "is_name" (defArgs s_is_name) (defBody s_is_name) (defScope s_is_name) .none kV2 dc2 pm2 an2 cd2 ct2), sl2⟩) (c2 : PySem.W.codeIn K cd2 "is_name" = true) (k2 : PySem.W.keepIn K (.ref f2) = true)
    (a3 : PySem.W.nsIn K mainGlobals "is_row" = some (some (.ref f3))) (l3 : K.lookup f3 = some ⟨oc3, od3, .func (PySem.W.fnOf "is_row" "is_row" (defArgs s_is_row) (defBody s_is_row) (defScope s_is_row) .none kV3 dc3 pm3 an3 cd3 ct3), sl3⟩) (c3 : PySem.W.codeIn K cd3 "is_row" = true) (k3 : PySem.W.keepIn K (.ref f3) = true)
    (a4 : PySem.W.nsIn K mainGlobals "ascends" = some (some (.ref f4))) (l4 : K.lookup f4 = some ⟨oc4, od4, .func (PySem.W.fnOf "ascends" "ascends" (defArgs s_ascends) (defBody s_ascends) (defScope s_ascends) .none kV4 dc4 pm4 an4 cd4 ct4), sl4⟩) (c4 : PySem.W.codeIn K cd4 "ascends" = true) (k4 : PySem.W.keepIn K (.ref f4) = true)
    (a5 : PySem.W.nsIn K mainGlobals "is_queue" = some (some (.ref f5))) (l5 : K.lookup f5 = some ⟨oc5, od5, .func (PySem.W.fnOf "is_queue" "is_queue" (defArgs s_is_queue) (defBody s_is_queue) (defScope s_is_queue) .none kV5 dc5 pm5 an5 cd5 ct5), sl5⟩) (c5 : PySem.W.codeIn K cd5 "is_queue" = true) (k5 : PySem.W.keepIn K (.ref f5) = true)
    (a6 : PySem.W.nsIn K mainGlobals "is_net" = some (some (.ref f6))) (l6 : K.lookup f6 = some ⟨oc6, od6, .func (PySem.W.fnOf "is_net" "is_net" (defArgs s_is_net) (defBody s_is_net) (defScope s_is_net) .none kV6 dc6 pm6 an6 cd6 ct6), sl6⟩) (c6 : PySem.W.codeIn K cd6 "is_net" = true) (k6 : PySem.W.keepIn K (.ref f6) = true)
    (a7 : PySem.W.nsIn K mainGlobals "_law_box" = some (some (.ref f7))) (l7 : K.lookup f7 = some ⟨oc7, od7, .func (PySem.W.fnOf "_law_box" "_law_box" (defArgs s_w_box) (defBody s_w_box) (defScope s_w_box) .none kV7 dc7 pm7 an7 cd7 ct7), sl7⟩) (c7 : PySem.W.codeIn K cd7 "_law_box" = true) (k7 : PySem.W.keepIn K (.ref f7) = true)
    (a8 : PySem.W.nsIn K mainGlobals "_law_take" = some (some (.ref f8))) (l8 : K.lookup f8 = some ⟨oc8, od8, .func (PySem.W.fnOf "_law_take" "_law_take" (defArgs s_w_take) (defBody s_w_take) (defScope s_w_take) .none kV8 dc8 pm8 an8 cd8 ct8), sl8⟩) (c8 : PySem.W.codeIn K cd8 "_law_take" = true) (k8 : PySem.W.keepIn K (.ref f8) = true)
    (a9 : PySem.W.nsIn K mainGlobals "_law_cells" = some (some (.ref f9))) (l9 : K.lookup f9 = some ⟨oc9, od9, .func (PySem.W.fnOf "_law_cells" "_law_cells" (defArgs s_w_cells) (defBody s_w_cells) (defScope s_w_cells) .none kV9 dc9 pm9 an9 cd9 ct9), sl9⟩) (c9 : PySem.W.codeIn K cd9 "_law_cells" = true) (k9 : PySem.W.keepIn K (.ref f9) = true)
    (a10 : PySem.W.nsIn K mainGlobals "_law_of" = some (some (.ref f10))) (l10 : K.lookup f10 = some ⟨oc10, od10, .func (PySem.W.fnOf "_law_of" "_law_of" (defArgs s_w_of) (defBody s_w_of) (defScope s_w_of) .none kV10 dc10 pm10 an10 cd10 ct10), sl10⟩) (c10 : PySem.W.codeIn K cd10 "_law_of" = true) (k10 : PySem.W.keepIn K (.ref f10) = true)
    (a11 : PySem.W.nsIn K mainGlobals "_law_pick" = some (some (.ref f11))) (l11 : K.lookup f11 = some ⟨oc11, od11, .func (PySem.W.fnOf "_law_pick" "_law_pick" (defArgs s_w_pick) (defBody s_w_pick) (defScope s_w_pick) .none kV11 dc11 pm11 an11 cd11 ct11), sl11⟩) (c11 : PySem.W.codeIn K cd11 "_law_pick" = true) (k11 : PySem.W.keepIn K (.ref f11) = true)
    (a12 : PySem.W.nsIn K mainGlobals "_law_same" = some (some (.ref f12))) (l12 : K.lookup f12 = some ⟨oc12, od12, .func (PySem.W.fnOf "_law_same" "_law_same" (defArgs s_w_same) (defBody s_w_same) (defScope s_w_same) .none kV12 dc12 pm12 an12 cd12 ct12), sl12⟩) (c12 : PySem.W.codeIn K cd12 "_law_same" = true) (k12 : PySem.W.keepIn K (.ref f12) = true)
    (a13 : PySem.W.nsIn K mainGlobals "_law_web" = some (some (.ref f13))) (l13 : K.lookup f13 = some ⟨oc13, od13, .func (PySem.W.fnOf "_law_web" "_law_web" (defArgs s_w_web) (defBody s_w_web) (defScope s_w_web) .none kV13 dc13 pm13 an13 cd13 ct13), sl13⟩) (c13 : PySem.W.codeIn K cd13 "_law_web" = true) (k13 : PySem.W.keepIn K (.ref f13) = true)
    (a14 : PySem.W.nsIn K mainGlobals "_law_is_mark" = some (some (.ref f14))) (l14 : K.lookup f14 = some ⟨oc14, od14, .func (PySem.W.fnOf "_law_is_mark" "_law_is_mark" (defArgs s_w_is_mark) (defBody s_w_is_mark) (defScope s_w_is_mark) .none kV14 dc14 pm14 an14 cd14 ct14), sl14⟩) (c14 : PySem.W.codeIn K cd14 "_law_is_mark" = true) (k14 : PySem.W.keepIn K (.ref f14) = true)
    (a15 : PySem.W.nsIn K mainGlobals "_law_is_row" = some (some (.ref f15))) (l15 : K.lookup f15 = some ⟨oc15, od15, .func (PySem.W.fnOf "_law_is_row" "_law_is_row" (defArgs s_w_is_row) (defBody s_w_is_row) (defScope s_w_is_row) .none kV15 dc15 pm15 an15 cd15 ct15), sl15⟩) (c15 : PySem.W.codeIn K cd15 "_law_is_row" = true) (k15 : PySem.W.keepIn K (.ref f15) = true)
    (a16 : PySem.W.nsIn K mainGlobals "_law_goes_up" = some (some (.ref f16))) (l16 : K.lookup f16 = some ⟨oc16, od16, .func (PySem.W.fnOf "_law_goes_up" "_law_goes_up" (defArgs s_w_goes_up) (defBody s_w_goes_up) (defScope s_w_goes_up) .none kV16 dc16 pm16 an16 cd16 ct16), sl16⟩) (c16 : PySem.W.codeIn K cd16 "_law_goes_up" = true) (k16 : PySem.W.keepIn K (.ref f16) = true)
    (a17 : PySem.W.nsIn K mainGlobals "_law_is_web" = some (some (.ref f17))) (l17 : K.lookup f17 = some ⟨oc17, od17, .func (PySem.W.fnOf "_law_is_web" "_law_is_web" (defArgs s_w_is_web) (defBody s_w_is_web) (defScope s_w_is_web) .none kV17 dc17 pm17 an17 cd17 ct17), sl17⟩) (c17 : PySem.W.codeIn K cd17 "_law_is_web" = true) (k17 : PySem.W.keepIn K (.ref f17) = true)
    (a18 : PySem.W.nsIn K mainGlobals "_law_spoilt" = some (some (.ref f18))) (l18 : K.lookup f18 = some ⟨oc18, od18, .func (PySem.W.fnOf "_law_spoilt" "_law_spoilt" (defArgs s_w_spoilt) (defBody s_w_spoilt) (defScope s_w_spoilt) .none kV18 dc18 pm18 an18 cd18 ct18), sl18⟩) (c18 : PySem.W.codeIn K cd18 "_law_spoilt" = true) (k18 : PySem.W.keepIn K (.ref f18) = true)
    (a19 : PySem.W.nsIn K mainGlobals "_law_hand_right" = some (some (.ref f19))) (l19 : K.lookup f19 = some ⟨oc19, od19, .func (PySem.W.fnOf "_law_hand_right" "_law_hand_right" (defArgs s_w_hand_right) (defBody s_w_hand_right) (defScope s_w_hand_right) .none kV19 dc19 pm19 an19 cd19 ct19), sl19⟩) (c19 : PySem.W.codeIn K cd19 "_law_hand_right" = true) (k19 : PySem.W.keepIn K (.ref f19) = true)
    (a20 : PySem.W.nsIn K mainGlobals "_law_right" = some (some (.ref f20))) (l20 : K.lookup f20 = some ⟨oc20, od20, .func (PySem.W.fnOf "_law_right" "_law_right" (defArgs s_w_right) (defBody s_w_right) (defScope s_w_right) .none kV20 dc20 pm20 an20 cd20 ct20), sl20⟩) (c20 : PySem.W.codeIn K cd20 "_law_right" = true) (k20 : PySem.W.keepIn K (.ref f20) = true)
    (a21 : PySem.W.nsIn K mainGlobals "law" = some (some (.ref f21))) (l21 : K.lookup f21 = some ⟨oc21, od21, .func (PySem.W.fnOf "law" "law" (defArgs s_law) (defBody s_law) (defScope s_law) .none kV21 dc21 pm21 an21 cd21 ct21), sl21⟩) (c21 : PySem.W.codeIn K cd21 "law" = true) (k21 : PySem.W.keepIn K (.ref f21) = true)
    (x1 : PySem.W.nsIn K mainGlobals "LETTERS" = some (some (.str lettersS tL))) (x2 : PySem.W.nsIn K mainGlobals "SIGNS" = some (some (.str signsS tS)))
    (z1 : PySem.W.nsIn K mainGlobals "len" = some none) (z2 : PySem.W.nsIn K mainGlobals "abs" = some none) (z3 : PySem.W.nsIn K mainGlobals "int" = some none) (z4 : PySem.W.nsIn K mainGlobals "list" = some none) (z5 : PySem.W.nsIn K mainGlobals "enumerate" = some none) (z6 : PySem.W.nsIn K mainGlobals "range" = some none) (z7 : PySem.W.nsIn K mainGlobals "min" = some none) (z8 : PySem.W.nsIn K mainGlobals "sorted" = some none) (z9 : PySem.W.nsIn K mainGlobals "tuple" = some none) (z10 : PySem.W.nsIn K mainGlobals "isinstance" = some none) (z11 : PySem.W.nsIn K mainGlobals "bool" = some none) (z12 : PySem.W.nsIn K mainGlobals "str" = some none) (z13 : PySem.W.nsIn K mainGlobals "all" = some none) (z14 : PySem.W.nsIn K mainGlobals "zip" = some none) :
    ∃ fd : FuncData, (∀ (s : Shared) (v : Value), BindsTo s fd ⟨[v], []⟩ [("_law_script", v)]) ∧ ∀ base : Heap, K.In base → base.Ns mainGlobals mg → FnOk l.prog w K mg base CX0 9 fa fd ["_law_script"] (spLaw K) := by
  have e := hfa.symm.trans (PySem.W.mg_of X G a21)
  cases e
  have F1 : FunNum K f1 _ := ⟨⟨oc1, od1, _, kV1, dc1, pm1, an1, cd1, ct1, sl1, rfl, l1, c1, .inr ⟨by simp, T1, _, [Value.none], tn1, rfl, t1, rfl, .cons rfl .nil⟩, .inl rfl⟩, k1⟩
  have g1 := PySem.W.mg_of X G a1
  obtain ⟨ds1, v1, b1⟩ := FunD.binds1 (ps := ["thing", "least"]) F1 2 1 (by simp) rfl fun _ _ _ _ _ _ _ us its hu hi => match us, hu, its, hi with | [_, _], _, [_], _ => ⟨_, rfl, rfl⟩
  cases v1
  have F2 := fun_mk (st := s_is_name) l2 c2 k2
  have g2 := PySem.W.mg_of X G a2
  have b2 := F2.binds (ps := ["thing"]) fun _ _ _ _ _ _ us hl => match us, hl with | [_], _ => rfl
  have F3 := fun_mk (st := s_is_row) l3 c3 k3
  have g3 := PySem.W.mg_of X G a3
  have b3 := F3.binds (ps := ["thing", "many"]) fun _ _ _ _ _ _ us hl => match us, hl with | [_, _], _ => rfl
  have F4 := fun_mk (st := s_ascends) l4 c4 k4
  have g4 := PySem.W.mg_of X G a4
  have b4 := F4.binds (ps := ["row"]) fun _ _ _ _ _ _ us hl => match us, hl with | [_], _ => rfl
  have F5 := fun_mk (st := s_is_queue) l5 c5 k5
  have g5 := PySem.W.mg_of X G a5
  have b5 := F5.binds (ps := ["thing", "workers"]) fun _ _ _ _ _ _ us hl => match us, hl with | [_, _], _ => rfl
  have F6 := fun_mk (st := s_is_net) l6 c6 k6
  have g6 := PySem.W.mg_of X G a6
  have b6 := F6.binds (ps := ["thing"]) fun _ _ _ _ _ _ us hl => match us, hl with | [_], _ => rfl
  have F7 := fun_mk (st := s_w_box) l7 c7 k7
  have g7 := PySem.W.mg_of X G a7
  have b7 := F7.binds (ps := ["_law_script", "_law_k"]) fun _ _ _ _ _ _ us hl => match us, hl with | [_, _], _ => rfl
  have F8 := fun_mk (st := s_w_take) l8 c8 k8
  have g8 := PySem.W.mg_of X G a8
  have b8 := F8.binds (ps := ["_law_box_here", "_law_below"]) fun _ _ _ _ _ _ us hl => match us, hl with | [_, _], _ => rfl
  have F9 := fun_mk (st := s_w_cells) l9 c9 k9
  have g9 := PySem.W.mg_of X G a9
  have b9 := F9.binds (ps := ["_law_script", "_law_most"]) fun _ _ _ _ _ _ us hl => match us, hl with | [_, _], _ => rfl
  have F10 := fun_mk (st := s_w_of) l10 c10 k10
  have g10 := PySem.W.mg_of X G a10
  have b10 := F10.binds (ps := ["_law_box_here", "_law_some"]) fun _ _ _ _ _ _ us hl => match us, hl with | [_, _], _ => rfl
  have F11 := fun_mk (st := s_w_pick) l11 c11 k11
  have g11 := PySem.W.mg_of X G a11
  have b11 := F11.binds (ps := ["_law_box_here", "_law_pool", "_law_size_so"]) fun _ _ _ _ _ _ us hl => match us, hl with | [_, _, _], _ => rfl
  have F12 := fun_mk (st := s_w_same) l12 c12 k12
  have g12 := PySem.W.mg_of X G a12
  have b12 := F12.binds (ps := ["_law_got", "_law_due"]) fun _ _ _ _ _ _ us hl => match us, hl with | [_, _], _ => rfl
  have F13 := fun_mk (st := s_w_web) l13 c13 k13
  have g13 := PySem.W.mg_of X G a13
  have b13 := F13.binds (ps := ["_law_box_here", "_law_size_so", "_law_most", "_law_high"]) fun _ _ _ _ _ _ us hl => match us, hl with | [_, _, _, _], _ => rfl
  have F14 := fun_mk (st := s_w_is_mark) l14 c14 k14
  have g14 := PySem.W.mg_of X G a14
  have b14 := F14.binds (ps := ["_law_matter"]) fun _ _ _ _ _ _ us hl => match us, hl with | [_], _ => rfl
  have F15 := fun_mk (st := s_w_is_row) l15 c15 k15
  have g15 := PySem.W.mg_of X G a15
  have b15 := F15.binds (ps := ["_law_matter", "_law_tags"]) fun _ _ _ _ _ _ us hl => match us, hl with | [_, _], _ => rfl
  have F16 := fun_mk (st := s_w_goes_up) l16 c16 k16
  have g16 := PySem.W.mg_of X G a16
  have b16 := F16.binds (ps := ["_law_some"]) fun _ _ _ _ _ _ us hl => match us, hl with | [_], _ => rfl
  have F17 := fun_mk (st := s_w_is_web) l17 c17 k17
  have g17 := PySem.W.mg_of X G a17
  have b17 := F17.binds (ps := ["_law_matter"]) fun _ _ _ _ _ _ us hl => match us, hl with | [_], _ => rfl
  have F18 := fun_mk (st := s_w_spoilt) l18 c18 k18
  have g18 := PySem.W.mg_of X G a18
  have b18 := F18.binds (ps := ["_law_box_here", "_law_matter", "_law_pool", "_law_deep"]) fun _ _ _ _ _ _ us hl => match us, hl with | [_, _, _, _], _ => rfl
  have F19 := fun_mk (st := s_w_hand_right) l19 c19 k19
  have g19 := PySem.W.mg_of X G a19
  have b19 := F19.binds (ps := []) fun _ _ _ _ _ _ us hl => match us, hl with | [], _ => rfl
  have F20 := fun_mk (st := s_w_right) l20 c20 k20
  have g20 := PySem.W.mg_of X G a20
  have b20 := F20.binds (ps := ["_law_box_here"]) fun _ _ _ _ _ _ us hl => match us, hl with | [_], _ => rfl
  have F21 := fun_mk (st := s_law) l21 c21 k21
  have g21 := PySem.W.mg_of X G a21
  have gL := PySem.W.mg_of X G x1
  have gS := PySem.W.mg_of X G x2
  have m_len := PySem.W.mg_none_of X G z1
  have m_abs := PySem.W.mg_none_of X G z2
  have m_int := PySem.W.mg_none_of X G z3
  have m_list := PySem.W.mg_none_of X G z4
  have m_enumerate := PySem.W.mg_none_of X G z5
  have m_range := PySem.W.mg_none_of X G z6
  have m_min := PySem.W.mg_none_of X G z7
  have m_sorted := PySem.W.mg_none_of X G z8
  have m_tuple := PySem.W.mg_none_of X G z9
  have m_isinstance := PySem.W.mg_none_of X G z10
  have m_bool := PySem.W.mg_none_of X G z11
  have m_str := PySem.W.mg_none_of X G z12
  have m_all := PySem.W.mg_none_of X G z13
  have m_zip := PySem.W.mg_none_of X G z14
  have kb6 : KBinds K (PySem.W.fnOf "is_net" "is_net" (defArgs s_is_net) (defBody s_is_net) (defScope s_is_net) .none kV6 dc6 pm6 an6 cd6 ct6) ["thing"] ["thing"] gOnly gOnly := ⟨fun s us ws _ hl => match us, ws, hl with | [], [_], _ => .of_eq rfl | _ :: _, _, hl => absurd hl (fun z => nomatch z), fun r1 r2 => vals_only r1 r2⟩
  clear hfa x1 x2 t1 a1 l1 c1 k1 a2 l2 c2 k2 a3 l3 c3 k3 a4 l4 c4 k4 a5 l5 c5 k5 a6 l6 c6 k6 a7 l7 c7 k7 a8 l8 c8 k8 a9 l9 c9 k9 a10 l10 c10 k10 a11 l11 c11 k11 a12 l12 c12 k12 a13 l13 c13 k13 a14 l14 c14 k14 a15 l15 c15 k15 a16 l16 c16 k16 a17 l17 c17 k17 a18 l18 c18 k18 a19 l19 c19 k19 a20 l20 c20 k20 a21 l21 c21 k21 z1 z2 z3 z4 z5 z6 z7 z8 z9 z10 z11 z12 z13 z14
  refine ⟨PySem.W.fnOf "law" "law" (defArgs s_law) (defBody s_law) (defScope s_law) .none kV21 dc21 pm21 an21 cd21 ct21, fun s v => .of_eq rfl, fun base _ _ => ?_⟩
  have Gbox := ok_box (P := l.prog) (w := w) (base := base) (k := 7) F7 m_len m_abs m_int
  have Gtake1 := ok_take2 (ok_take (P := l.prog) (w := w) (base := base) (k := 0) F8 m_int)
  have Gtake2 := Gtake1.mono (by decide : 1 ≤ 2)
  have Gcells := ok_cells (P := l.prog) (w := w) (base := base) (k := 7) F9 m_int m_list m_enumerate
  have Gpick := ok_pick F11 Gtake1 g8 F8 b8 m_list m_range m_min m_len
  have Gweb := ok_web F13 Gtake2 g8 F8 b8 Gpick g11 F11 b11 m_sorted m_len m_int m_tuple
  have Gof := ok_of F10 Gtake1 g8 F8 b8 m_len
  have Gspoilt := ok_spoilt F18 g18 b18 Gtake2 g8 F8 b8 Gof g10 F10 b10 m_len m_list m_tuple m_isinstance 3
  have Gnum := ok_is_number (P := l.prog) (w := w) (base := base) (k := 0) F1 m_isinstance m_int m_bool
  have Gname := ok_is_name (P := l.prog) (w := w) (base := base) (k := 0) F2 gL gS m_isinstance m_str m_all
  have Grow := ok_is_row (P := l.prog) (w := w) (base := base) (k := 0) F3 m_isinstance m_tuple m_len
  have Gasc := ok_ascends (P := l.prog) (w := w) (base := base) (k := 0) F4 m_all m_range m_len
  have Gqueue := ok_is_queue F5 Grow g3 F3 b3 Gnum g1 F1 b1 Gname g2 F2 b2 m_isinstance m_str
  have Gnet := ok_is_net F6 (Grow.mono (by decide : 1 ≤ 2)) g3 F3 b3 (Gname.mono (by decide : 1 ≤ 2)) g2 F2 b2 (Gasc.mono (by decide : 1 ≤ 2)) g4 F4 b4 Gqueue g5 F5 b5 m_isinstance m_tuple m_all m_len
  have Gmark := ok_w_is_mark (P := l.prog) (w := w) (base := base) (k := 0) F14 m_isinstance m_str
  have Gup := ok_w_goes_up (P := l.prog) (w := w) (base := base) (k := 0) F16 m_range m_len
  have Glrow := ok_w_is_row F15 Gmark g14 F14 b14 m_isinstance m_tuple m_int m_bool m_len
  have Gisweb := ok_w_is_web F17 (Gmark.mono (by decide : 1 ≤ 2)) g14 F14 b14 (Gup.mono (by decide : 1 ≤ 2)) g16 F16 b16 Glrow g15 F15 b15 m_isinstance m_tuple m_len
  have Gsame := ok_same (P := l.prog) (w := w) (base := base) F12 g12 b12 m_isinstance m_list m_tuple m_bool m_str m_int m_len m_all m_zip 4
  have Ghand := ok_hand F19 (Gnet.mono (by decide : 3 ≤ 4)) g6 F6 b6 kb6 (Gisweb.mono (by decide : 3 ≤ 4)) g17 F17 b17 Gsame g12 F12 b12 m_range
  have Gright := ok_right F20 (Ghand.mono (by decide : 5 ≤ 6)) g19 F19 b19 (Gweb.mono (by decide : 3 ≤ 6)) g13 F13 b13 (Gof.mono (by decide : 2 ≤ 6)) g10 F10 b10 (Gnet.mono (by decide : 3 ≤ 6)) g6 F6 b6 (Gisweb.mono (by decide : 3 ≤ 6)) g17 F17 b17 Gspoilt g18 F18 b18 (Gsame.mono (by decide : 4 ≤ 6)) g12 F12 b12 m_range
  exact ok_law F21 Gcells g9 F9 b9 Gbox g7 F7 b7 (Gright.mono (by decide : 7 ≤ 8)) g20 F20 b20 m_all m_range m_len
end Jl
open PySem PySem.W PyProof.Rows
set_option maxHeartbeats 0 in
theorem PySem.Challenge.cw_joinlags_k00_nets_or_none_holds : PySem.Challenge.rw_joinlags_k00_nets_or_none.Holds := by
  w_on; o_law; k_head; (case hw => w_witness2)
  k_fill
  refine L2.walk_of (l := PySem.Challenge.rw_joinlags_k00_nets_or_none) (n := 63) (k := 9) (x := "_law_script") (CX := fun _ => L2.CX0) (sp := fun w => Jl.spLaw _) rfl (by decide) rfl ⟨rfl, by decide, by decide⟩ (fun w h Y => PySem.W.kIn_of Y) ?F (fun _ _ a ns hl _ hS => ⟨a, ns, rfl, hS, hl, fun _ => rfl⟩) (fun _ _ _ _ _ h => h)
  case F =>
    intro w mg fa h KX G hmg
    refine' Jl.all_mk KX G hmg ?a1 ?l1 ?c1 ?k1 ?t1 ?a2 ?l2 ?c2 ?k2 ?a3 ?l3 ?c3 ?k3 ?a4 ?l4 ?c4 ?k4 ?a5 ?l5 ?c5 ?k5 ?a6 ?l6 ?c6 ?k6 ?a7 ?l7 ?c7 ?k7 ?a8 ?l8 ?c8 ?k8 ?a9 ?l9 ?c9 ?k9 ?a10 ?l10 ?c10 ?k10 ?a11 ?l11 ?c11 ?k11 ?a12 ?l12 ?c12 ?k12 ?a13 ?l13 ?c13 ?k13 ?a14 ?l14 ?c14 ?k14 ?a15 ?l15 ?c15 ?k15 ?a16 ?l16 ?c16 ?k16 ?a17 ?l17 ?c17 ?k17 ?a18 ?l18 ?c18 ?k18 ?a19 ?l19 ?c19 ?k19 ?a20 ?l20 ?c20 ?k20 ?a21 ?l21 ?c21 ?k21 ?x1 ?x2 ?z1 ?z2 ?z3 ?z4 ?z5 ?z6 ?z7 ?z8 ?z9 ?z10 ?z11 ?z12 ?z13 ?z14
    (case a1 => k_is); (case l1 => k_is); (case c1 => k_is); (case k1 => k_is); (case t1 => k_is); (case a2 => k_is); (case l2 => k_is); (case c2 => k_is); (case k2 => k_is); (case a3 => k_is); (case l3 => k_is); (case c3 => k_is); (case k3 => k_is); (case a4 => k_is); (case l4 => k_is); (case c4 => k_is); (case k4 => k_is); (case a5 => k_is); (case l5 => k_is); (case c5 => k_is); (case k5 => k_is); (case a6 => k_is); (case l6 => k_is); (case c6 => k_is); (case k6 => k_is); (case a7 => k_is); (case l7 => k_is); (case c7 => k_is); (case k7 => k_is); (case a8 => k_is); (case l8 => k_is); (case c8 => k_is); (case k8 => k_is); (case a9 => k_is); (case l9 => k_is); (case c9 => k_is); (case k9 => k_is); (case a10 => k_is); (case l10 => k_is); (case c10 => k_is); (case k10 => k_is); (case a11 => k_is); (case l11 => k_is); (case c11 => k_is); (case k11 => k_is); (case a12 => k_is); (case l12 => k_is); (case c12 => k_is); (case k12 => k_is); (case a13 => k_is); (case l13 => k_is); (case c13 => k_is); (case k13 => k_is); (case a14 => k_is); (case l14 => k_is); (case c14 => k_is); (case k14 => k_is); (case a15 => k_is); (case l15 => k_is); (case c15 => k_is); (case k15 => k_is); (case a16 => k_is); (case l16 => k_is); (case c16 => k_is); (case k16 => k_is); (case a17 => k_is); (case l17 => k_is); (case c17 => k_is); (case k17 => k_is); (case a18 => k_is); (case l18 => k_is); (case c18 => k_is); (case k18 => k_is); (case a19 => k_is); (case l19 => k_is); (case c19 => k_is); (case k19 => k_is); (case a20 => k_is); (case l20 => k_is); (case c20 => k_is); (case k20 => k_is); (case a21 => k_is); (case l21 => k_is); (case c21 => k_is); (case k21 => k_is); (case x1 => k_is); (case x2 => k_is); (case z1 => k_is); (case z2 => k_is); (case z3 => k_is); (case z4 => k_is); (case z5 => k_is); (case z6 => k_is); (case z7 => k_is); (case z8 => k_is); (case z9 => k_is); (case z10 => k_is); (case z11 => k_is); (case z12 => k_is); (case z13 => k_is); (case z14 => k_is)

