import PyProof.Rows.All
import HandS.ForMost
import HandS.Wide
import HandS.IsInst
import HandS.Zip
import HandS.DictComp
import HandS.SetKeys
import HandS.Flow
import HandS.SortOrd
import HandS.Evl
import HandS.Walk
import PySem.Challenge.RW_joinlags_k01_counts_and_drops_or_none
import PyProof.ListRange
import HandS.Sort
import HandS.Strs
import KE.SortData
import HandS.Defaults
import KE.DataCmp
import HandS.Style
import HandS.TupAny
import KE.KRevSl
import HandS.Deep
set_option Elab.async false
set_option linter.all false
set_option maxRecDepth 100000
set_option maxHeartbeats 4000000
namespace Jl
open PySem PySem.Spec PyProof.Rows L2
open Evl (sz_of sz_lt)
def topS (i : Nat) : Stmt := PySem.Challenge.pw_joinlags_k01_counts_and_drops_or_none.main.body.getD i (.Pass ⟨0, 0, 0, 0⟩)
abbrev sc_w_box_N : List Str := ["_law_script", "_law_k", "_law_cell"]
abbrev s_w_box : Stmt := topS 8
theorem sc_w_box : FnScope ["_law_script", "_law_k", "_law_cell"] ["_law_script", "_law_k"] (defScope s_w_box) := ⟨rfl, rfl, rfl, by decide +kernel, rfl, by decide +kernel, by decide +kernel⟩
local macro_rules | `(tactic| walk_at "at") => `(tactic| fail)
local macro_rules | `(tactic| walk_at "side") => `(tactic| first
  | (show (0 : Int) < _; decide)
  | (show (0 : Int) < _; omega)
  | exact ⟨by decide, by decide, by decide⟩
  | exact sz_of (Nat.le_of_ble_eq_true rfl)
  | exact rfl
  | exact Or.inl (by decide)
  | exact Or.inr (by decide)
  | exact Or.inr ⟨by omega, by omega⟩
  | exact Or.inl ⟨by omega, by omega⟩
  | exact ⟨by decide, by decide +kernel⟩)
local macro_rules | `(tactic| walk_at "ev1") => `(tactic| first
  | refine ⟨_, rfl, ?_⟩
  | refine ⟨_, _, rfl, rfl, ?_⟩
  | refine ⟨_, _, _, _, rfl, rfl, (by assumption), (by walk_at "at"), ?_⟩
  | refine Or.inl ⟨_, rfl, ?_⟩
  | refine Or.inr ⟨_, rfl, ?_⟩
  | refine ⟨(by walk_at "side"), ?_⟩)
local macro_rules | `(tactic| walk_at "ev") => `(tactic| repeat (walk_at "ev1"))
abbrev sc_w_take_N : List Str := ["_law_box_here", "_law_below", "_law_once", "_law_far", "_law_twice", "_law_drawn"]
abbrev s_w_take : Stmt := topS 9
theorem sc_w_take : FnScope ["_law_box_here", "_law_below", "_law_once", "_law_far", "_law_twice", "_law_drawn"] ["_law_box_here", "_law_below"] (defScope s_w_take) := ⟨rfl, rfl, rfl, by decide +kernel, rfl, by decide +kernel, by decide +kernel⟩
section
variable {P : Program} {w : World} {K : PySem.W.Frag} {mg : Str → Option Value} {base : Heap}
/-! ### the box: three numbers -/
def boxV (c0 c1 c2 : Int) : List V := [.int c0, .int c1, .int c2]
theorem box0 {c0 c1 c2 : Int} : atI (boxV c0 c1 c2) 0 = some (.int c0) := atI_nat (j := 0) rfl
theorem box1 {c0 c1 c2 : Int} : atI (boxV c0 c1 c2) 1 = some (.int c1) := atI_nat (j := 1) rfl
theorem box2 {c0 c1 c2 : Int} : atI (boxV c0 c1 c2) 2 = some (.int c2) := atI_nat (j := 2) rfl
local macro_rules | `(tactic| walk_at "at") => `(tactic| first | exact box0 | exact box1 | exact box2)
/-- _law_box(script, k) -/
def spBox (K : PySem.W.Frag) : Sp := fun vs H Q _ => ∃ (a : Addr) (ns : List Int) (k : Int), vs = [.ref a, .int k] ∧ SqL K H a (ns.map V.int) ∧ 0 ≤ k ∧ k < 100 ∧
  ∀ p c0 c1, H p = none → 0 ≤ c0 → 0 ≤ c1 → c1 < 2 ^ 62 → Q (.ref p) (upd H p (.lst (boxV c0 c1 0)))
theorem ok_box {f : Addr} {fd : FuncData} {k : Nat} (F : Fun K "_law_box" "_law_box" s_w_box f fd) (m_len : mg "len" = none) (m_abs : mg "abs" = none) (m_int : mg "int" = none) : FnOk P w K mg base CX0 (k + 1) f fd ["_law_script", "_law_k"] (spBox K) := by
  refine F.ok sc_w_box (fun vs H Q E h => ?_) (fun cdv A outer s H vs Q E hr h => ?_)
  · obtain ⟨a, ns, k, rfl, _⟩ := h
    rfl
  · obtain ⟨a, ns, j, rfl, hS, j0, j1, q⟩ := h
    refine ⟨_, (pss_cons (ps_set (i := 2) sc_w_box.nd rfl (Or.inl rfl) (pe_ifExp (pt_cmpR op_lt (pv 1) (pe_callB call_len_seq (by rfl) m_len PySem.boot_len (pa_cons (pv 0) pa_nil)) (nomark _)) (pe_ix ix_list (pv 0) (pv 1) (fun _ _ => rfl)) pe_int)) 
    (pss_one (ps_ret (pe_lst (pa_cons (pe_op op_mul (pe_callB call_abs (by rfl) m_abs (by decide +kernel) (pa_cons (pv 2) pa_nil)) (pe_callTy call_int1 (by rfl) m_int (by decide +kernel) (pa_cons (pe_cmpR op_ge (pe_callB call_abs (by rfl) m_abs (by decide +kernel) (pa_cons (pv 2) pa_nil)) (pe_op op_pow pe_int pe_int) (nomark _)) pa_nil))) (pa_cons (pe_op op_add (pe_op op_add (pe_op op_mod (pe_callTy call_int1 (by rfl) m_int (by decide +kernel) (pa_cons (pv 2) pa_nil)) pe_int) (pe_op op_mul pe_int (pv 1))) pe_int) (pa_cons pe_int pa_nil))))))), ?_⟩
    have fin : ∀ (c : Int), 0 ≤ (if c < 0 then -c else c) * (if decide ((10 : Int) ^ (18 : Int).toNat ≤ (if c < 0 then -c else c)) = true then 1 else 0) ∧ 0 ≤ c % 2305843009213693951 + 39373 * j + 307 ∧ c % 2305843009213693951 + 39373 * j + 307 < 2 ^ 62 := fun c => by
      refine ⟨Int.mul_nonneg (by split <;> omega) (by split <;> omega), by omega, by omega⟩
    have h01 : ∀ (b : Bool), -(2 ^ 64) < (if b = true then (1 : Int) else 0) ∧ (if b = true then (1 : Int) else 0) < 2 ^ 64 := fun b => by cases b <;> decide
    refine ⟨_, rfl, .ref a, rfl, a, _, rfl, .inl hS, _, _, rfl, rfl, _, rfl, ite2 (fun e => ?_) (fun e => ?_)⟩
    · have e1 : j < ((ns.map V.int).length : Int) := of_decide_eq_true e
      rw [List.length_map] at e1
      have hj : j.toNat < ns.length := by omega
      have hat : atI (ns.map V.int) j = some (.int ns[j.toNat]) := at_of (j := j.toNat) (by omega) (by rw [List.getElem?_map, List.getElem?_eq_getElem hj]; rfl)
      refine ⟨_, rfl, _, rfl, a, _, _, _, rfl, rfl, hS, hat, ?_⟩
      generalize ns[j.toNat] = c
      walk_at "ev"
      exact fun p hp => q p _ _ hp (fin c).1 (fin c).2.1 (fin c).2.2
    · walk_at "ev"
      exact fun p hp => q p _ _ hp (fin 0).1 (fin 0).2.1 (fin 0).2.2
/-- _law_take(box, below): a drawn number below, the box goes on -/
def spTake (K : PySem.W.Frag) : Sp := fun vs H Q _ => ∃ (b : Addr) (c0 c1 c2 n : Int), vs = [.ref b, .int n] ∧ H b = some (.lst (boxV c0 c1 c2)) ∧ 0 ≤ c0 ∧ 0 ≤ c1 ∧ c1 < 2 ^ 62 ∧ 0 ≤ c2 ∧ c2 < 2 ^ 60 ∧ 1 ≤ n ∧ n.natAbs < 2 ^ 8000 ∧
  ∀ r d0 d2, 0 ≤ r → r < n → 0 ≤ d0 → 0 ≤ d2 → d2 ≤ c2 + 1 → Q (.int r) (upd H b (.lst (boxV d0 c1 d2)))
theorem ok_take {f : Addr} {fd : FuncData} {k : Nat} (F : Fun K "_law_take" "_law_take" s_w_take f fd) (m_int : mg "int" = none) : FnOk P w K mg base CX0 (k + 1) f fd ["_law_box_here", "_law_below"] (spTake K) := by
  refine F.ok sc_w_take (fun vs H Q E h => ?_) (fun cdv A outer s H vs Q E hr h => ?_)
  · obtain ⟨b, c0, c1, c2, n, rfl, _⟩ := h
    rfl
  · obtain ⟨b, c0, c1, c2, n, rfl, hb, c00, c10, c11, c20, c21, n0, n1, q⟩ := h
    refine ⟨_, (pss_cons (ps_if (pt_cmpR op_gt (pe_ix ix_list (pv 0) pe_int (fun _ _ => rfl)) pe_int (nomark _)) 
      (pss_cons (ps_set (i := 5) sc_w_take.nd rfl (Or.inl rfl) (pe_op op_mod (pe_callTy call_int1 (by rfl) m_int (by decide +kernel) (pa_cons (pe_ix ix_list (pv 0) pe_int (fun _ _ => rfl)) pa_nil)) (pv 1))) 
      (pss_cons (ps_asg (pe_op op_fdivW (pe_ix ix_list (pv 0) pe_int (fun _ _ => rfl)) (pv 1)) (pg_sub (pv 0) pe_int set_list)) 
      (pss_one (ps_ret (pv 5))))) pss_nil) 
    (pss_cons (ps_asg (pe_op op_add (pe_ix ix_list (pv 0) pe_int (fun _ _ => rfl)) pe_int) (pg_sub (pv 0) pe_int set_list)) 
    (pss_cons (ps_set (i := 2) sc_w_take.nd rfl (Or.inl rfl) (pe_op op_mod (pe_callTy call_int1 (by rfl) m_int (by decide +kernel) (pa_cons (pe_op op_mul (pe_op op_add (pe_ix ix_list (pv 0) pe_int (fun _ _ => rfl)) (pe_op op_mul pe_int (pe_ix ix_list (pv 0) pe_int (fun _ _ => rfl)))) (pe_op op_add pe_int (pe_ix ix_list (pv 0) pe_int (fun _ _ => rfl)))) pa_nil)) pe_int)) 
    (pss_cons (ps_set (i := 3) sc_w_take.nd rfl (Or.inl rfl) (pe_op op_add (pe_op op_mod (pe_callTy call_int1 (by rfl) m_int (by decide +kernel) (pa_cons (pv 2) pa_nil)) pe_int) pe_int)) 
    (pss_cons (ps_set (i := 4) sc_w_take.nd rfl (Or.inl rfl) (pe_op op_mod (pe_callTy call_int1 (by rfl) m_int (by decide +kernel) (pa_cons (pe_op op_mul (pe_op op_add (pe_op op_add (pv 2) (pe_ix ix_list (pv 0) pe_int (fun _ _ => rfl))) (pe_op op_fdivW (pe_ix ix_list (pv 0) pe_int (fun _ _ => rfl)) pe_int)) (pv 3)) pa_nil)) pe_int)) 
    (pss_one (ps_ret (pe_op op_mod (pe_callTy call_int1 (by rfl) m_int (by decide +kernel) (pa_cons (pe_op op_fdivW (pe_op op_mod (pe_callTy call_int1 (by rfl) m_int (by decide +kernel) (pa_cons (pe_op op_add (pe_op op_mul (pv 4) pe_int) (pv 2)) pa_nil)) pe_int) pe_int) pa_nil)) (pv 1))))))))), ?_⟩
    have hL : SqL K H b (boxV c0 c1 c2) := .inl (.inl hb)
    have small : ∀ j : Int, j = 1000003 ∨ j = 64 → CDivW 0 j := fun j h => by rcases h with h | h <;> (rw [h]; exact ⟨by decide, by decide +kernel⟩)
    walk_at "ev"
    refine ite2 (fun e => ?_) (fun e => ?_)
    · have e1 : 0 < c0 := of_decide_eq_true e
      walk_at "ev"
      refine ⟨wide_div (by omega) n1 (by decide) (by decide), ?_⟩
      walk_at "ev"
      refine ⟨b, _, _, 0, rfl, rfl, hb, rfl, ?_⟩
      refine ⟨_, rfl, ?_⟩
      exact q _ _ _ (Int.emod_nonneg _ (by omega)) (Int.emod_lt_of_pos _ (by omega)) (Int.ediv_nonneg c00 (by omega)) c20 (by omega)
    · walk_at "ev"
      refine ⟨b, _, _, 2, rfl, rfl, hb, rfl, ?_⟩
      have hb2 : (upd H b (.lst (boxV c0 c1 (c2 + 1)))) b = some (.lst (boxV c0 c1 (c2 + 1))) := upd_same
      have hL2 : SqL K (upd H b (.lst (boxV c0 c1 (c2 + 1)))) b (boxV c0 c1 (c2 + 1)) := .inl (.inl hb2)
      have fin : ∀ x : Int, Q (.int (x % n)) (upd H b (.lst (boxV c0 c1 (c2 + 1)))) := fun x => q _ _ _ (Int.emod_nonneg _ (by omega)) (Int.emod_lt_of_pos _ (by omega)) c00 (by omega) (by omega)
      show tSeq _ _ _ _ (upd H b (.lst (boxV c0 c1 (c2 + 1))))
      generalize upd H b (.lst (boxV c0 c1 (c2 + 1))) = H2 at hb2 hL2 fin
      walk_at "ev"
      exact fin _
end
end Jl

set_option Elab.async false
set_option linter.all false
set_option maxRecDepth 100000
set_option maxHeartbeats 4000000
namespace Jl
open PySem PySem.Spec PyProof.Rows L2
open Evl (sz_of sz_lt)
/-! ### heaps without some addresses -/
def cutS (S : List Addr) (H : Hp) : Hp := fun a => if a ∈ S then none else H a
theorem cutS_nil {H : Hp} : cutS [] H = H := by
  funext a
  unfold cutS
  rw [if_neg (List.not_mem_nil)]
theorem cutS_in {S : List Addr} {H : Hp} {a : Addr} (h : a ∈ S) : cutS S H a = none := by
  unfold cutS
  rw [if_pos h]
theorem cutS_out {S : List Addr} {H : Hp} {a : Addr} (h : a ∉ S) : cutS S H a = H a := by
  unfold cutS
  rw [if_neg h]
theorem cutS_some {S : List Addr} {H : Hp} {a : Addr} {o : HO} (h : cutS S H a = some o) : a ∉ S ∧ H a = some o := by
  by_cases q : a ∈ S
  · rw [cutS_in q] at h
    cases h
  · rw [cutS_out q] at h
    exact ⟨q, h⟩
theorem cutS_le {S : List Addr} {H : Hp} : Same (cutS S H) H := fun b o h => (cutS_some h).2
theorem cutS_mono {S : List Addr} {H H' : Hp} (e : Same H H') : Same (cutS S H) (cutS S H') := fun b o h => by
  obtain ⟨h1, h2⟩ := cutS_some h
  rw [cutS_out h1]
  exact e b o h2
theorem cutS_sub {S T : List Addr} {H : Hp} (h : ∀ a ∈ T, a ∈ S) : Same (cutS S H) (cutS T H) := fun b o q => by
  obtain ⟨h1, h2⟩ := cutS_some q
  rw [cutS_out fun z => h1 (h b z)]
  exact h2
theorem cutS_upd {S : List Addr} {H : Hp} {a : Addr} {o : HO} (h : a ∈ S) : cutS S (upd H a o) = cutS S H := by
  funext b
  by_cases q : b ∈ S
  · rw [cutS_in q, cutS_in q]
  · rw [cutS_out q, cutS_out q, upd_ne (fun e => q (by rw [e]; exact h))]
/-- a new object -/
theorem _root_.L2.Same.upd {H : Hp} {p : Addr} {o : HO} (h : H p = none) : Same H (upd H p o) := fun b x e => by
  rw [upd_ne (ne_of_none e h)]
  exact e
theorem _root_.L2.Same.mut {H H' : Hp} {p : Addr} {o : HO} (e : Same H H') (h : H p = none) : Same H (L2.upd H' p o) := fun a u ha => by
  rw [upd_ne (ne_of_none ha h)]
  exact e a u ha
def Trk (S : List Addr) (H : Hp) : Prop := ∀ a ∈ S, H a ≠ none
theorem Trk.nil {H : Hp} : Trk [] H := fun _ h => absurd h List.not_mem_nil
theorem Trk.mono {S : List Addr} {H H' : Hp} (t : Trk S H) (e : Same H H') : Trk S H' := fun a ha z => by
  cases q : H a with
  | none => exact t a ha q
  | some o =>
    rw [e a o q] at z
    cases z
theorem Trk.upd {S : List Addr} {H : Hp} {p : Addr} {o : HO} (t : Trk S H) : Trk S (L2.upd H p o) := fun a ha z => by
  by_cases e : a = p
  · rw [e, upd_same] at z
    cases z
  · rw [upd_ne e] at z
    exact t a ha z
theorem Trk.cons {S : List Addr} {H : Hp} {p : Addr} {o : HO} (t : Trk S H) (h : H p = some o) : Trk (p :: S) H := fun a ha z => by
  rcases List.mem_cons.mp ha with e | e
  · rw [e, h] at z
    cases z
  · exact t a e z
theorem Trk.out {S : List Addr} {H : Hp} {p : Addr} (t : Trk S H) (h : H p = none) : p ∉ S := fun z => t p z h
/-- a new object beside the cut -/
theorem cutS_new {S : List Addr} {H : Hp} {p : Addr} {o : HO} (t : Trk S H) (h : H p = none) : cutS S (L2.upd H p o) p = some o := by
  rw [cutS_out (t.out h), upd_same]
theorem cutS_none {S : List Addr} {H : Hp} {p : Addr} (h : H p = none) : cutS S H p = none := by
  by_cases q : p ∈ S
  · exact cutS_in q
  · rw [cutS_out q, h]
/-- a new object that will change goes into the cut -/
theorem cutS_cons {S : List Addr} {H : Hp} {p : Addr} {o : HO} (h : H p = none) : Same (cutS S H) (cutS (p :: S) (L2.upd H p o)) := fun b u q => by
  obtain ⟨h1, h2⟩ := cutS_some q
  have hb : b ≠ p := ne_of_none h2 h
  rw [cutS_out (fun z => by
    rcases List.mem_cons.mp z with e | e
    · exact hb e
    · exact h1 e), upd_ne hb]
  exact h2
theorem cutS_tail {S : List Addr} {H : Hp} {p : Addr} : Same (cutS (p :: S) H) (cutS S H) := cutS_sub fun _ h => List.mem_cons_of_mem _ h
/-! ### lists and tuples alike (f: a tuple) -/
def SqF (f : Bool) (K : PySem.W.Frag) (H : Hp) (a : Addr) (xs : List V) : Prop := if f = true then SqT K H a xs else SqL K H a xs
def seqO (f : Bool) (xs : List V) : HO := if f = true then .tup xs else .lst xs
def seqD (f : Bool) (ds : List PyData) : PyData := if f = true then .tuple ds else .list ds
theorem _root_.L2.Same.sqL {K : PySem.W.Frag} {H H' : Hp} {a : Addr} {xs : List V} (e : Same H H') (h : SqL K H a xs) : SqL K H' a xs := by
  rcases h with (h | ⟨o, h⟩) | h
  · exact .inl (.inl (e _ _ h))
  · exact .inl (.inr ⟨o, e _ _ h⟩)
  · exact .inr h
theorem _root_.L2.Same.sqT {K : PySem.W.Frag} {H H' : Hp} {a : Addr} {xs : List V} (e : Same H H') (h : SqT K H a xs) : SqT K H' a xs := by
  rcases h with (h | ⟨o, h⟩) | h
  · exact .inl (.inl (e _ _ h))
  · exact .inl (.inr ⟨o, e _ _ h⟩)
  · exact .inr h
theorem _root_.L2.Same.sqF {f : Bool} {K : PySem.W.Frag} {H H' : Hp} {a : Addr} {xs : List V} (e : Same H H') (h : SqF f K H a xs) : SqF f K H' a xs := by
  cases f with
  | true => exact e.sqT h
  | false => exact e.sqL h
theorem SqF.or {f : Bool} {K : PySem.W.Frag} {H : Hp} {a : Addr} {xs : List V} (h : SqF f K H a xs) : SqL K H a xs ∨ SqT K H a xs := by
  cases f with
  | true => exact .inr h
  | false => exact .inl h
theorem SqF.of {f : Bool} {K : PySem.W.Frag} {H : Hp} {a : Addr} {xs : List V} (h : H a = some (seqO f xs)) : SqF f K H a xs := by
  cases f with
  | true => exact .inl (.inl h)
  | false => exact .inl (.inl h)
theorem sql_of {K : PySem.W.Frag} {H : Hp} {a : Addr} {xs : List V} (h : H a = some (.lst xs)) : SqL K H a xs := .inl (.inl h)
theorem sqt_of {K : PySem.W.Frag} {H : Hp} {a : Addr} {xs : List V} (h : H a = some (.tup xs)) : SqT K H a xs := .inl (.inl h)
/-! ### data -/
section
variable {K : PySem.W.Frag} {H H' : Hp}
mutual
theorem dp_mono (e : Same H H') : ∀ (d : PyData) (v : V), Dp K H v d → Dp K H' v d
  | .none, _, h => by cases h; exact .non
  | .bool b, _, h => by cases h; exact .bl b
  | .int i, _, h => by cases h; exact .int i
  | .str x, _, h => by cases h; exact .str x
  | .list ds, _, h => by
    cases h with
    | lst hs ha => exact .lst (e.sqL hs) (dpa_mono e ds _ ha)
  | .tuple ds, _, h => by
    cases h with
    | tup hs ha => exact .tup (e.sqT hs) (dpa_mono e ds _ ha)
  | .dict _, _, h => by cases h
theorem dpa_mono (e : Same H H') : ∀ (ds : List PyData) (vs : List V), DpAll K H vs ds → DpAll K H' vs ds
  | [], _, h => by cases h; exact .nil
  | d :: ds, _, h => by
    cases h with
    | cons h1 h2 => exact .cons (dp_mono e d _ h1) (dpa_mono e ds _ h2)
end
theorem _root_.L2.Same.dp (e : Same H H') {v : V} {d : PyData} (h : Dp K H v d) : Dp K H' v d := dp_mono e d v h
theorem _root_.L2.Same.dpa (e : Same H H') {vs : List V} {ds : List PyData} (h : DpAll K H vs ds) : DpAll K H' vs ds := dpa_mono e ds vs h
theorem dpa_len : ∀ {vs : List V} {ds : List PyData}, DpAll K H vs ds → vs.length = ds.length
  | _, _, .nil => rfl
  | _, _, .cons _ h => by rw [List.length_cons, List.length_cons, dpa_len h]
theorem dpa_get : ∀ {vs : List V} {ds : List PyData} {i : Nat} {v : V}, DpAll K H vs ds → vs[i]? = some v → ∃ d, ds[i]? = some d ∧ Dp K H v d
  | _, _, _, _, .nil, h => by simp at h
  | _, _, 0, v, .cons h1 h2, h => by
    simp at h
    subst h
    exact ⟨_, rfl, h1⟩
  | _, _, i + 1, v, .cons h1 h2, h => by
    obtain ⟨d, e1, e2⟩ := dpa_get (i := i) h2 (by simpa using h)
    exact ⟨d, by simpa using e1, e2⟩
theorem dpa_get' : ∀ {vs : List V} {ds : List PyData} {i : Nat} {d : PyData}, DpAll K H vs ds → ds[i]? = some d → ∃ v, vs[i]? = some v ∧ Dp K H v d
  | _, _, _, _, .nil, h => by simp at h
  | _, _, 0, v, .cons h1 h2, h => by
    simp at h
    subst h
    exact ⟨_, rfl, h1⟩
  | _, _, i + 1, v, .cons h1 h2, h => by
    obtain ⟨d, e1, e2⟩ := dpa_get' (i := i) h2 (by simpa using h)
    exact ⟨d, by simpa using e1, e2⟩
theorem dpa_app : ∀ {vs ws : List V} {ds es : List PyData}, DpAll K H vs ds → DpAll K H ws es → DpAll K H (vs ++ ws) (ds ++ es)
  | _, _, _, _, .nil, h => h
  | _, _, _, _, .cons h1 h2, h => .cons h1 (dpa_app h2 h)
theorem dpa_one {v : V} {d : PyData} (h : Dp K H v d) : DpAll K H [v] [d] := .cons h .nil
theorem Dp.seq {f : Bool} {a : Addr} {xs : List V} {ds : List PyData} (h : SqF f K H a xs) (ha : DpAll K H xs ds) : Dp K H (.ref a) (seqD f ds) := by
  cases f with
  | true => exact .tup h ha
  | false => exact .lst h ha
theorem Dp.seq_of {f : Bool} {v : V} {ds : List PyData} (h : Dp K H v (seqD f ds)) : ∃ a xs, v = .ref a ∧ SqF f K H a xs ∧ DpAll K H xs ds := by
  cases f with
  | true =>
    have h : Dp K H v (.tuple ds) := h
    cases h with
    | tup hs ha => exact ⟨_, _, rfl, hs, ha⟩
  | false =>
    have h : Dp K H v (.list ds) := h
    cases h with
    | lst hs ha => exact ⟨_, _, rfl, hs, ha⟩
theorem dpa_strs : ∀ {xs : List Str}, DpAll K H (xs.map V.str) (xs.map PyData.str)
  | [] => .nil
  | x :: xs => .cons (.str x) dpa_strs
theorem dpa_strs_of : ∀ {vs : List V} {xs : List Str}, DpAll K H vs (xs.map PyData.str) → vs = xs.map V.str
  | _, [], .nil => rfl
  | _, x :: xs, .cons h1 h2 => by
    cases h1
    rw [dpa_strs_of h2]
    rfl
end
/-! ### what is walked, indexed: a list or a tuple -/
section
variable {X : Cx}
theorem pi_or {tg l : Expr} {w1 w2 : TI} (h1 : PI X tg l w1) (h2 : PI X tg l w2) : PI X tg l (fun σ H R => w1 σ H R ∨ w2 σ H R) := ⟨fun pins s σ H R I h => by
  rcases h with h | h
  · exact h1.run pins s σ H R I h
  · exact h2.run pins s σ H R I h⟩
def iSeq (K : PySem.W.Frag) (tl : TE) : TI := fun σ H R => iList K tl σ H R ∨ iTup K tl σ H R
theorem pi_seq {tg l : Expr} {tl : TE} (hl : PE X l tl) : PI X tg l (iSeq X.K tl) := pi_or (pi_list hl) (pi_tup hl)
theorem iSeq_at {K : PySem.W.Frag} {tl : TE} {σ : L2.St} {H H1 : Hp} {R : It → Hp → Prop} {a : Addr} {f : Bool} {xs : List V} (ht : ∀ R' : VK, R' (.ref a) H1 → tl σ H R') (hs : SqF f K H1 a xs)
    (q : ∀ J, Walk J xs.length (fun H => SqF f K H a xs) (YAt xs) → R J H1) : iSeq K tl σ H R := by
  cases f with
  | false => exact .inl (ht _ ⟨a, rfl, ⟨xs, hs⟩, q _ walk_list⟩)
  | true => exact .inr (ht _ ⟨a, rfl, ⟨xs, hs⟩, q _ walk_tup⟩)
def rIxF (K : PySem.W.Frag) : R2 := fun x y H Q => rIxL K x y H Q ∨ rIxT K x y H Q
theorem ix_lt : IxR X (rIxF X.K) := ix_list.or ix_tup
theorem rIxF_at {K : PySem.W.Frag} {f : Bool} {p : Addr} {xs : List V} {i : Int} {v : V} {H : Hp} {Q : VK} (h : SqF f K H p xs) (ha : atI xs i = some v) (q : Q v H) : rIxF K (.ref p) (.int i) H Q := by
  cases f with
  | false => exact .inl ⟨p, xs, i, v, rfl, rfl, h, ha, q⟩
  | true => exact .inr ⟨p, xs, i, v, rfl, rfl, h, ha, q⟩
theorem walk_zipTT {K : PySem.W.Frag} {a b : Addr} {xs ys : List V} (e : xs.length = ys.length) : Walk (RZ.ItzT K a b) xs.length (fun H => SqT K H a xs ∧ SqT K H b ys) (YPair (fun i => xs[i]?) (fun i => ys[i]?)) := by
  refine ⟨fun i _ hi q => ?_, fun _ q => ⟨xs, ys, q.1, q.2, .inl (Nat.le_refl _)⟩, fun i H v H' _ q y => ?_⟩
  · have h2 : i < ys.length := by omega
    exact ⟨xs, ys, xs[i], ys[i], q.1, q.2, by simp [hi], by simp [h2]⟩
  · obtain ⟨T, x, z, h1, h2, h3, h4, h5⟩ := y
    exact ⟨T, x, z, h1, h2, h3, h4 xs q.1, h5 ys q.2⟩
theorem iZip_at {K : PySem.W.Frag} {ta : TA} {σ : L2.St} {H H1 : Hp} {R : It → Hp → Prop} {a b : Addr} {f : Bool} {xs ys : List V} (ht : ∀ R' : List V → Hp → Prop, R' [.ref a, .ref b] H1 → ta σ H R') (h1 : SqF f K H1 a xs) (h2 : SqF f K H1 b ys) (el : xs.length = ys.length)
    (q : ∀ J, Walk J xs.length (fun H => SqF f K H a xs ∧ SqF f K H b ys) (YPair (fun i => xs[i]?) (fun i => ys[i]?)) → R J H1) : RZ.iZipA K ta σ H R := by
  refine ht _ ⟨a, b, xs, ys, rfl, ?_⟩
  cases f with
  | false => exact .inl ⟨h1, h2, q _ (walk_zip (by omega))⟩
  | true => exact .inr ⟨h1, h2, q _ (walk_zipTT el)⟩
/-! ### a loop, a comprehension by a walk -/
inductive ForP (wi : TI) (g : TG) (tb : TS) (D : Ends) (σ : L2.St) (H : Hp) : Prop
  | yes (h : tFor wi g tb D σ H)
  | no (h : False)
def tForX (wi : TI) (g : TG) (tb : TS) : TS := fun D σ H => ForP wi g tb D σ H
theorem ps_forX {st : Stmt} {wi : TI} {g : TG} {tb : TS} (h : PS X st (tFor wi g tb)) : PS X st (tForX wi g tb) := ⟨fun pins s σ H D I q => by
  cases q with
  | yes q => exact h.run pins s σ H D I q
  | no q => exact q.elim⟩
theorem for_of {wi : TI} {g : TG} {tb : TS} {D : Ends} {σ : L2.St} {H : Hp} (q : wi σ H fun J H1 => tFor (fun _ _ R => R J H1) g tb D σ H1) : tForX wi g tb D σ H := .yes q
inductive WhP (t : TT) (tb : TS) (D : Ends) (σ : L2.St) (H : Hp) : Prop
  | yes (h : tWhile t tb D σ H)
  | no (h : False)
def tWhileX (t : TT) (tb : TS) : TS := fun D σ H => WhP t tb D σ H
theorem ps_whileX {st : Stmt} {t : TT} {tb : TS} (h : PS X st (tWhile t tb)) : PS X st (tWhileX t tb) := ⟨fun pins s σ H D I q => by
  cases q with
  | yes q => exact h.run pins s σ H D I q
  | no q => exact q.elim⟩
inductive LcP (wi : TI) (g : TG) (tt : TT) (te : TE) (vs : List Nat) (σ : L2.St) (H : Hp) (Q : VK) : Prop
  | yes (h : tLc wi g tt te vs σ H Q)
  | no (h : False)
def tLcX (wi : TI) (g : TG) (tt : TT) (te : TE) (vs : List Nat) : TE := fun σ H Q => LcP wi g tt te vs σ H Q
theorem pe_lcX {e : Expr} {wi : TI} {g : TG} {tt : TT} {te : TE} {vs : List Nat} (h : PE X e (tLc wi g tt te vs)) : PE X e (tLcX wi g tt te vs) := ⟨fun pins s σ H Q I q => by
  cases q with
  | yes q => exact h.run pins s σ H Q I q
  | no q => exact q.elim⟩
theorem lc_of {wi : TI} {g : TG} {tt : TT} {te : TE} {vs : List Nat} {σ : L2.St} {H : Hp} {Q : VK} (q : tLc wi g tt te vs σ H Q) : tLcX wi g tt te vs σ H Q := .yes q
theorem ps_setLcX {st : Stmt} {i : Nat} {wi : TI} {g : TG} {tt : TT} {te : TE} {vs : List Nat} (h : PS X st (tAsg (tLc wi g tt te vs) (gName i))) : PS X st (tAsg (tLcX wi g tt te vs) (gName i)) := ⟨fun pins s σ H D I q => by
  have q : LcP wi g tt te vs σ H (fun x H1 => gName i x σ H1 D.nx) := q
  cases q with
  | yes q => exact h.run pins s σ H D I q
  | no q => exact q.elim⟩
theorem forR_it {J : It} {n : Nat} {G : Hp → Prop} {Y : Nat → Hp → V → Hp → Prop} (w : Walk J n G Y) {g : TG} {tb : TS} {D : Ends} {σ : L2.St} {H : Hp} (Pv : Nat → L2.St → Hp → Prop) (h0 : Pv 0 σ H) (hG : ∀ i σ H, i ≤ n → Pv i σ H → G H)
    (hs : ∀ i x σ H H', i < n → Pv i σ H → Y i H x H' → g x σ H' fun σ2 H2 => tb { D with nx := Pv (i + 1), ct := Pv (i + 1), bk := D.nx } σ2 H2) (hd : ∀ σ H, Pv n σ H → D.nx σ H) : tFor (fun _ _ R => R J H) g tb D σ H := for_it w Pv h0 hG hs hd
/-! ### isinstance -/
theorem tyx_list {K : PySem.W.Frag} {H : Hp} {a : Addr} {xs : List V} (h : SqL K H a xs) : TyX K H (.ref a) (.type "list") := by
  rcases h with (h | ⟨o, h⟩) | ⟨o, its, n, h, hc, _⟩
  · exact .base (.lst h)
  · exact .base (.frz h)
  · exact .kList h hc
theorem tyx_tup {K : PySem.W.Frag} {H : Hp} {a : Addr} {xs : List V} (h : SqT K H a xs) : TyX K H (.ref a) (.type "tuple") := by
  rcases h with (h | ⟨o, h⟩) | ⟨o, its, n, h, hc, _⟩
  · exact .base (.tup h)
  · exact .fTuple h
  · exact .kTuple h hc
def tyD : PyData → String
  | .none => "NoneType"
  | .bool _ => "bool"
  | .int _ => "int"
  | .str _ => "str"
  | .list _ => "list"
  | .tuple _ => "tuple"
  | .dict _ => "dict"
theorem tyx_dp {K : PySem.W.Frag} {H : Hp} {v : V} {d : PyData} (h : Dp K H v d) : TyX K H v (.type (tyD d)) := by
  cases h with
  | non => exact .base .non
  | bl b => exact .base (.bl b)
  | int i => exact .base (.int i)
  | str x => exact .base (.str x)
  | lst hs _ => exact tyx_list hs
  | tup hs _ => exact tyx_tup hs
/-- isinstance(x, (A, B)) of data -/
theorem isi2 {K : PySem.W.Frag} {H : Hp} {Q : VK} {v : V} {d : PyData} {p : Addr} {A B : String} {r : Bool} (h : Dp K H v d) (hp : H p = some (.tup [.ty A, .ty B])) (hk : ∀ t, t = tyD d → PySem.W.kitAny K (.type t) [.type A, .type B] = some r) (q : Q (.bl r) H) :
    rIsiT K [v, .ref p] H Q := ⟨v, p, _, _, _, r, rfl, hp, .cons (.ty _) (.cons (.ty _) .nil), tyx_dp h, hk _ rfl, q⟩
theorem isi1 {K : PySem.W.Frag} {H : Hp} {Q : VK} {v : V} {d : PyData} {A : String} {r : Bool} (h : Dp K H v d) (hk : ∀ t, t = tyD d → PySem.W.kitOne K (.type t) (.type A) = some r) (q : Q (.bl r) H) :
    rIsi K [v, .ty A] H Q := ⟨v, _, _, _, r, rfl, .ty _, tyx_dp h, hk _ rfl, q⟩
end
end Jl

set_option Elab.async false
set_option linter.all false
set_option maxRecDepth 100000
set_option maxHeartbeats 4000000
set_option pp.maxSteps 900
namespace Jl
open PySem PySem.Spec PyProof.Rows L2
open Evl (sz_of sz_lt)
local macro_rules | `(tactic| walk_at "at") => `(tactic| first | exact box0 | exact box1 | exact box2)
local macro_rules | `(tactic| walk_at "side") => `(tactic| first
  | (show (0 : Int) < _; decide)
  | (show (0 : Int) < _; omega)
  | exact ⟨by decide, by decide, by decide⟩
  | exact sz_of (Nat.le_of_ble_eq_true rfl)
  | exact rfl
  | exact Or.inl (by decide)
  | exact Or.inr (by decide)
  | exact Or.inr ⟨by omega, by omega⟩
  | exact Or.inl ⟨by omega, by omega⟩
  | exact ⟨by decide, by decide +kernel⟩)
local macro_rules | `(tactic| walk_at "ev1") => `(tactic| first
  | refine ⟨_, rfl, ?_⟩
  | refine ⟨_, _, rfl, rfl, ?_⟩
  | refine ⟨_, _, _, _, rfl, rfl, (by assumption), (by walk_at "at"), ?_⟩
  | refine Or.inl ⟨_, rfl, ?_⟩
  | refine Or.inr ⟨_, rfl, ?_⟩
  | refine ⟨(by walk_at "side"), ?_⟩)
local macro_rules | `(tactic| walk_at "ev") => `(tactic| repeat (walk_at "ev1"))

abbrev sc_w_lists_N : List Str := ["_law_matter", "_law_bit"]
abbrev s_w_lists : Stmt := topS 13
theorem sc_w_lists : FnScope ["_law_matter", "_law_bit"] ["_law_matter"] (defScope s_w_lists) := ⟨rfl, rfl, rfl, by decide +kernel, rfl, by decide +kernel, by decide +kernel⟩
/-! ### data of bounded depth and width -/
def okD : Nat → PyData → Prop
  | 0, _ => False
  | n + 1, .list ds => ds.length ≤ 1000 ∧ ∀ d ∈ ds, okD n d
  | n + 1, .tuple ds => ds.length ≤ 1000 ∧ ∀ d ∈ ds, okD n d
  | _ + 1, .dict _ => False
  | _ + 1, _ => True
theorem okD_seq {n : Nat} {f : Bool} {ds : List PyData} : okD (n + 1) (seqD f ds) ↔ ds.length ≤ 1000 ∧ ∀ d ∈ ds, okD n d := by
  cases f <;> exact Iff.rfl
mutual
def listsD : PyData → PyData
  | .list ds => .list (listsA ds)
  | .tuple ds => .list (listsA ds)
  | .none => .none
  | .bool b => .bool b
  | .int i => .int i
  | .str x => .str x
  | .dict k => .dict k
def listsA : List PyData → List PyData
  | [] => []
  | d :: ds => listsD d :: listsA ds
end
theorem listsA_map : ∀ ds : List PyData, listsA ds = ds.map listsD
  | [] => rfl
  | d :: ds => by
    show listsD d :: listsA ds = listsD d :: ds.map listsD
    rw [listsA_map ds]
theorem listsD_seq {f : Bool} {ds : List PyData} : listsD (seqD f ds) = .list (ds.map listsD) := by
  cases f
  · show PyData.list (listsA ds) = _
    rw [listsA_map]
  · show PyData.list (listsA ds) = _
    rw [listsA_map]
theorem fnok_no {P : Program} {w : World} {K : PySem.W.Frag} {mg : Str → Option Value} {base : Heap} {CX : CXT} {k : Nat} {f : Addr} {fd : FuncData} {ps : List Str} : FnOk P w K mg base CX k f fd ps (fun _ _ _ _ => False) := ⟨fun _ _ _ _ h => h.elim, fun _ _ _ _ _ _ _ _ _ _ _ _ _ h => h.elim⟩
/-- an atom, or a row -/
theorem dp_cases {K : PySem.W.Frag} {H : Hp} {v : V} {d : PyData} (h : Dp K H v d) : (∃ f ds, d = seqD f ds) ∨ (PySem.W.kitAny K (.type (tyD d)) [.type "list", .type "tuple"] = some false ∧ listsD d = d) := by
  have no : ∀ s : String, kitB s "list" = some false → kitB s "tuple" = some false → PySem.W.kitAny K (.type s) [.type "list", .type "tuple"] = some false := fun s h1 h2 =>
    kitAny_cons (kit_ty h1) (fun _ => kitAny_cons (kit_ty h2) (fun _ => kitAny_nil) (fun z => nomatch z)) (fun z => nomatch z)
  cases h with
  | non => exact .inr ⟨no "NoneType" (by decide +kernel) (by decide +kernel), rfl⟩
  | bl b => exact .inr ⟨no "bool" (by decide +kernel) (by decide +kernel), rfl⟩
  | int i => exact .inr ⟨no "int" (by decide +kernel) (by decide +kernel), rfl⟩
  | str x => exact .inr ⟨no "str" (by decide +kernel) (by decide +kernel), rfl⟩
  | @lst a xs ds hs _ => exact .inl ⟨false, ds, rfl⟩
  | @tup a xs ds hs _ => exact .inl ⟨true, ds, rfl⟩
theorem kit_seq {K : PySem.W.Frag} {fb : Bool} {ds : List PyData} : PySem.W.kitAny K (.type (tyD (seqD fb ds))) [.type "list", .type "tuple"] = some true := by
  have h1 : PySem.W.kitAny K (.type "list") [.type "list", .type "tuple"] = some true := kitAny_cons (b := true) (kit_ty (by decide +kernel)) (fun z => nomatch z) (fun _ => rfl)
  have h2 : PySem.W.kitAny K (.type "tuple") [.type "list", .type "tuple"] = some true := kitAny_cons (b := false) (kit_ty (by decide +kernel)) (fun _ => kitAny_cons (b := true) (kit_ty (by decide +kernel)) (fun z => nomatch z) (fun _ => rfl)) (fun z => nomatch z)
  cases fb with
  | false => exact h1
  | true => exact h2
/-- a place that was free goes into the cut -/
theorem cutS_into {S : List Addr} {H H' : Hp} {p : Addr} (e : Same H H') (h : H p = none) : Same (cutS S H) (cutS (p :: S) H') := fun b o hb => by
  obtain ⟨h1, h2⟩ := cutS_some hb
  have nb : b ≠ p := ne_of_none h2 h
  rw [cutS_out (fun z => by
    rcases List.mem_cons.mp z with z | z
    · exact nb z
    · exact h1 z)]
  exact e b o h2
/-- a comprehension over data, its element told by a function of data -/
theorem lc_data {K : PySem.W.Frag} {tl te : TE} {j : Nat} {vs : List Nat} {σ : L2.St} {H H0 : Hp} {Q : VK} {a : Addr} {fb : Bool} {xs : List V} {ds : List PyData} {S : List Addr} (g : PyData → PyData)
    (ht : ∀ R' : VK, R' (.ref a) H0 → tl σ H R') (hs : SqF fb K H0 a xs) (ha : DpAll K (cutS S H0) xs ds) (hT : Trk S H0) (hl : ds.length ≤ 1000)
    (hw : ∀ x, wipe ((wipe σ vs).set j (some x)) vs = wipe σ vs)
    (he : ∀ (x : V) (d : PyData) (H1 : Hp) (T : List Addr), d ∈ ds → Trk T H1 → Dp K (cutS T H1) x d → ∀ Q' : VK, (∀ H2 y, Same H1 H2 → Dp K (cutS T H2) y (g d) → Q' y H2) → te ((wipe σ vs).set j (some x)) H1 Q')
    (q : ∀ D ys H', Same H0 H' → H0 D = none → H' D = some (.lst ys) → DpAll K (cutS S H') ys (ds.map g) → Q (.ref D) H') : tLcX (iSeq K tl) (gName j) tYes te vs σ H Q := by
  have ll := dpa_len ha
  refine lc_of ?_
  refine iSeq_at ht hs fun J w D hD => ?_
  refine lc_it w (fun i H1 => ∃ ys, Same H0 H1 ∧ H1 D = some (.lst ys) ∧ DpAll K (cutS (D :: S) H1) ys ((ds.take i).map g)) ⟨[], .upd hD, upd_same, .nil⟩ (fun i H1 _ p => ?_) (fun i x H1 H1' hi p y => ?_) (fun H1 p => ?_)
  · obtain ⟨ys, e1, _⟩ := p
    exact e1.sqF hs
  · obtain ⟨ys, e1, e2, e3⟩ := p
    obtain ⟨rfl, hx⟩ := y
    obtain ⟨d, hd, hxd⟩ := dpa_get ha hx
    refine ⟨hw x, ?_⟩
    dsimp only [tYes]
    rw [if_pos rfl]
    have s3 : Same (cutS S H0) (cutS (D :: S) H1') := cutS_into e1 hD
    have hxd1 : Dp K (cutS (D :: S) H1') x d := s3.dp hxd
    refine he x d H1' (D :: S) (List.mem_of_getElem? hd) ((hT.mono e1).cons e2) hxd1 _ fun H2 y s2 hy => ?_
    refine ⟨ys, s2 _ _ e2, ?_, ys ++ [y], ?_, upd_same, ?_⟩
    · have := dpa_len e3
      rw [this, List.length_map, List.length_take]
      exact sz_lt (by omega)
    · exact (e1.trans s2).mut hD
    · rw [cutS_upd List.mem_cons_self, List.take_add_one, hd, List.map_append]
      exact dpa_app ((cutS_mono s2).dpa e3) (dpa_one hy)
  · obtain ⟨ys, e1, e2, e3⟩ := p
    refine q D ys H1 e1 hD e2 ?_
    have e4 : (ds.take xs.length).map g = ds.map g := by rw [List.take_of_length_le (by omega)]
    rw [e4] at e3
    exact cutS_tail.dpa e3
section
variable {P : Program} {w : World} {K : PySem.W.Frag} {mg : Str → Option Value} {base : Heap}
/-- _law_lists(matter): the same with lists for tuples, new -/
def spLists (K : PySem.W.Frag) : Nat → Sp
  | 0 => fun _ _ _ _ => False
  | n + 1 => fun vs H Q _ => ∃ (v : V) (d : PyData) (S : List Addr), vs = [v] ∧ Trk S H ∧ Dp K (cutS S H) v d ∧ okD (n + 1) d ∧ ∀ H' y, Same H H' → Dp K (cutS S H') y (listsD d) → Q y H'
theorem ok_lists {f : Addr} {fd : FuncData} (F_w_lists : Fun K "_law_lists" "_law_lists" s_w_lists f fd) (g_w_lists : mg "_law_lists" = some (.ref f)) (b_w_lists : Binds K fd ["_law_matter"] []) (m_isinstance : mg "isinstance" = none) (m_list : mg "list" = none) (m_tuple : mg "tuple" = none) :
    ∀ n : Nat, FnOk P w K mg base CX0 n f fd ["_law_matter"] (spLists K n)
  | 0 => fnok_no
  | n + 1 => by
    have G_w_lists := ok_lists F_w_lists g_w_lists b_w_lists m_isinstance m_list m_tuple n
    refine F_w_lists.ok sc_w_lists (fun vs H Q E h => ?_) (fun cdv A outer s H vs Q E hr h => ?_)
    · obtain ⟨v, d, S, rfl, _⟩ := h
      rfl
    · obtain ⟨v, d, S, rfl, hT, hD, hk, q⟩ := h
      refine ⟨_, (pss_one (ps_ret (pe_ifExp (pt_val (pe_callB call_isiT (by rfl) m_isinstance (by decide +kernel) (pa_cons (pv 0) (pa_cons (pe_tup (pa_cons (pe_bltn (v := .ty "list") (u := .type "list") (by rfl) m_list (by decide +kernel) rfl) (pa_cons (pe_bltn (v := .ty "tuple") (u := .type "tuple") (by rfl) m_tuple (by decide +kernel) rfl) pa_nil))) pa_nil)))) (pe_lcX (pe_lc (own := [("_law_bit", 1)]) (g := gName 1) (tt := tYes) (by rfl) sc_w_lists.nd (pi_seq (pv 0)) (blkOk_by (own := [("_law_bit", 1)]) (N := sc_w_lists_N) (sc := defScope s_w_lists) (by decide +kernel)) (fun _ _ _ _ _ => pg_name (i := 1) sc_w_lists.nd rfl (Or.inl rfl)) (fun _ _ _ _ _ => pts_nil) (fun _ _ _ _ _ => (pe_call G_w_lists hr (by rfl) g_w_lists F_w_lists.kp b_w_lists .nil pass0 (pa_cons (pv 1) pa_nil))))) (pv 0)))), ?_⟩
      walk_at "ev"
      intro p hp
      have e1 : Same H (upd H p (.tup [.ty "list", .ty "tuple"])) := .upd hp
      have hp1 : (upd H p (.tup [.ty "list", .ty "tuple"])) p = some (.tup [.ty "list", .ty "tuple"]) := upd_same
      dsimp only [tNil]
      rcases dp_cases hD with ⟨fb, ds, rfl⟩ | ⟨hk0, hl⟩
      · refine isi2 (e1.dp (cutS_le.dp hD)) hp1 (fun t e => by rw [e]; exact kit_seq) ?_
        refine ⟨_, rfl, iteT ?_⟩
        obtain ⟨a, xs, rfl, hs, ha⟩ := Dp.seq_of hD
        obtain ⟨hk1, hk2⟩ := okD_seq.mp hk
        refine lc_data (S := S) listsD (fun R' r => ⟨_, rfl, r⟩) (e1.sqF (cutS_le.sqF hs)) ((cutS_mono e1).dpa ha) (hT.mono e1) hk1 (fun x => rfl) (fun x d H1 T hd t1 hx Q' q' => ?_) (fun D ys H' s1 hD h2 h3 => ?_)
        · cases n with
          | zero => exact (hk2 d hd).elim
          | succ n => exact ⟨_, rfl, x, d, T, rfl, t1, hx, hk2 d hd, fun H2 y s2 hy => q' H2 y s2 hy⟩
        · refine q H' _ (e1.trans s1) ?_
          rw [listsD_seq]
          exact .lst (.inl (.inl (by rw [cutS_out ((hT.mono e1).out hD)]; exact h2))) h3
      · refine isi2 (e1.dp (cutS_le.dp hD)) hp1 (fun t e => by rw [e]; exact hk0) ?_
        refine ⟨_, rfl, iteF ?_⟩
        refine ⟨_, rfl, ?_⟩
        refine q _ _ e1 ?_
        rw [hl]
        exact (cutS_mono e1).dp hD
end
end Jl

set_option Elab.async false
set_option linter.all false
set_option maxRecDepth 100000
set_option maxHeartbeats 4000000
set_option pp.maxSteps 900
namespace Jl
open PySem PySem.Spec PyProof.Rows L2
open Evl (sz_of sz_lt)
local macro_rules | `(tactic| walk_at "at") => `(tactic| first | exact box0 | exact box1 | exact box2)
local macro_rules | `(tactic| walk_at "side") => `(tactic| first
  | (show (0 : Int) < _; decide)
  | (show (0 : Int) < _; omega)
  | exact ⟨by decide, by decide, by decide⟩
  | exact sz_of (Nat.le_of_ble_eq_true rfl)
  | exact rfl
  | exact Or.inl (by decide)
  | exact Or.inr (by decide)
  | exact Or.inr ⟨by omega, by omega⟩
  | exact Or.inl ⟨by omega, by omega⟩
  | exact ⟨by decide, by decide +kernel⟩)
local macro_rules | `(tactic| walk_at "ev1") => `(tactic| first
  | refine ⟨_, rfl, ?_⟩
  | refine ⟨_, _, rfl, rfl, ?_⟩
  | refine ⟨_, _, _, _, rfl, rfl, (by assumption), (by walk_at "at"), ?_⟩
  | refine Or.inl ⟨_, rfl, ?_⟩
  | refine Or.inr ⟨_, rfl, ?_⟩
  | refine ⟨(by walk_at "side"), ?_⟩)
local macro_rules | `(tactic| walk_at "nrm") => `(tactic| dsimp only [tNil, tCons, tC, tCB])
local macro_rules | `(tactic| walk_at "ev") => `(tactic| repeat (walk_at "ev1"))

abbrev sc_w_same_N : List Str := ["_law_got", "_law_due", "_law_mine", "_law_its"]
abbrev s_w_same : Stmt := topS 14
theorem sc_w_same : FnScope ["_law_got", "_law_due", "_law_mine", "_law_its"] ["_law_got", "_law_due"] (defScope s_w_same) := ⟨rfl, rfl, rfl, by decide +kernel, rfl, by decide +kernel, by decide +kernel⟩
theorem kit_list {K : PySem.W.Frag} {fb : Bool} {ds : List PyData} : PySem.W.kitOne K (.type (tyD (seqD fb ds))) (.type "list") = some (!fb) := by
  have h1 : PySem.W.kitOne K (.type "list") (.type "list") = some true := kit_ty (by decide +kernel)
  have h2 : PySem.W.kitOne K (.type "tuple") (.type "list") = some false := kit_ty (by decide +kernel)
  cases fb with
  | false => exact h1
  | true => exact h2
theorem kit_tup {K : PySem.W.Frag} {fb : Bool} {ds : List PyData} : PySem.W.kitOne K (.type (tyD (seqD fb ds))) (.type "tuple") = some fb := by
  have h1 : PySem.W.kitOne K (.type "list") (.type "tuple") = some false := kit_ty (by decide +kernel)
  have h2 : PySem.W.kitOne K (.type "tuple") (.type "tuple") = some true := kit_ty (by decide +kernel)
  cases fb with
  | false => exact h1
  | true => exact h2
section
variable {P : Program} {w : World} {K : PySem.W.Frag} {mg : Str → Option Value} {base : Heap}
/-- _law_same(got, due) of equal data -/
def spSame (K : PySem.W.Frag) : Nat → Sp
  | 0 => fun _ _ _ _ => False
  | n + 1 => fun vs H Q _ => ∃ (x y : V) (d : PyData), vs = [x, y] ∧ Dp K H x d ∧ Dp K H y d ∧ okD (n + 1) d ∧ ∀ H', Same H H' → Q (.bl true) H'
theorem ok_same {f : Addr} {fd : FuncData} (F_w_same : Fun K "_law_same" "_law_same" s_w_same f fd) (g_w_same : mg "_law_same" = some (.ref f)) (b_w_same : Binds K fd ["_law_got", "_law_due"] []) (m_isinstance : mg "isinstance" = none) (m_list : mg "list" = none) (m_tuple : mg "tuple" = none)
    (m_bool : mg "bool" = none) (m_str : mg "str" = none) (m_int : mg "int" = none) (m_len : mg "len" = none) (m_all : mg "all" = none) (m_zip : mg "zip" = none) :
    ∀ n : Nat, FnOk P w K mg base CX0 n f fd ["_law_got", "_law_due"] (spSame K n)
  | 0 => fnok_no
  | n + 1 => by
    have G_w_same := ok_same F_w_same g_w_same b_w_same m_isinstance m_list m_tuple m_bool m_str m_int m_len m_all m_zip n
    refine F_w_same.ok sc_w_same (fun vs H Q E h => ?_) (fun cdv A outer s H vs Q E hr h => ?_)
    · obtain ⟨x, y, d, rfl, _⟩ := h
      rfl
    · obtain ⟨x, y, d, rfl, hx, hy, hk, q⟩ := h
      refine ⟨_, (pss_cons (ps_if (pt_val (pe_callB call_isiT (by rfl) m_isinstance (by decide +kernel) (pa_cons (pv 1) (pa_cons (pe_tup (pa_cons (pe_bltn (v := .ty "list") (u := .type "list") (by rfl) m_list (by decide +kernel) rfl) (pa_cons (pe_bltn (v := .ty "tuple") (u := .type "tuple") (by rfl) m_tuple (by decide +kernel) rfl) pa_nil))) pa_nil)))) 
      (pss_cons (ps_if (PW.pt (pw_or (pt_cmpR op_ne (pe_callB call_isi (by rfl) m_isinstance (by decide +kernel) (pa_cons (pv 0) (pa_cons (pe_bltn (v := .ty "list") (u := .type "list") (by rfl) m_list (by decide +kernel) rfl) pa_nil))) (pe_callB call_isi (by rfl) m_isinstance (by decide +kernel) (pa_cons (pv 1) (pa_cons (pe_bltn (v := .ty "list") (u := .type "list") (by rfl) m_list (by decide +kernel) rfl) pa_nil))) (nomark _)) (pw_or1 (pt_cmpR op_ne (pe_callB call_isi (by rfl) m_isinstance (by decide +kernel) (pa_cons (pv 0) (pa_cons (pe_bltn (v := .ty "tuple") (u := .type "tuple") (by rfl) m_tuple (by decide +kernel) rfl) pa_nil))) (pe_callB call_isi (by rfl) m_isinstance (by decide +kernel) (pa_cons (pv 1) (pa_cons (pe_bltn (v := .ty "tuple") (u := .type "tuple") (by rfl) m_tuple (by decide +kernel) rfl) pa_nil))) (nomark _))))) (pss_one (ps_ret pe_bl)) pss_nil) 
      (pss_one (ps_ret (pe_and (pe_cmpR op_eq (pe_callB call_len_seq (by rfl) m_len PySem.boot_len (pa_cons (pv 0) pa_nil)) (pe_callB call_len_seq (by rfl) m_len PySem.boot_len (pa_cons (pv 1) pa_nil)) (nomark _)) (pe_one (pe_callB (cr_all rfl) (by rfl) m_all (by decide +kernel) (pa_cons (pe_lcX (pe_lc (own := [("_law_mine", 2), ("_law_its", 3)]) (g := gTup K 2 (gCons (gName 2) (gCons (gName 3) gNil))) (tt := tYes) (by rfl) sc_w_same.nd (RZ.pi_zipA (by rfl) m_zip (pa_cons (pv 0) (pa_cons (pv 1) pa_nil))) (blkOk_by (own := [("_law_mine", 2), ("_law_its", 3)]) (N := sc_w_same_N) (sc := defScope s_w_same) (by decide +kernel)) (fun _ _ _ _ _ => pg_tup rfl (pgs_cons (pg_name (i := 2) sc_w_same.nd rfl (Or.inl rfl)) (pgs_cons (pg_name (i := 3) sc_w_same.nd rfl (Or.inl rfl)) pgs_nil))) (fun _ _ _ _ _ => pts_nil) (fun _ _ _ _ _ => (pe_call G_w_same hr (by rfl) g_w_same F_w_same.kp b_w_same .nil pass0 (pa_cons (pv 2) (pa_cons (pv 3) pa_nil)))))) pa_nil))))))) pss_nil) 
    (pss_cons (ps_if (PW.pt (pw_or (pt_cmpR op_isN (pv 1) pe_non (nomark _)) (pw_or1 (pt_val (pe_callB call_isiT (by rfl) m_isinstance (by decide +kernel) (pa_cons (pv 1) (pa_cons (pe_tup (pa_cons (pe_bltn (v := .ty "bool") (u := .type "bool") (by rfl) m_bool (by decide +kernel) rfl) (pa_cons (pe_bltn (v := .ty "str") (u := .type "str") (by rfl) m_str (by decide +kernel) rfl) pa_nil))) pa_nil))))))) (pss_one (ps_ret (pe_and (pe_cmpR op_eq (pv 0) (pv 1) (nomark _)) (pe_and (pe_cmpR op_eq (pe_callB call_isi (by rfl) m_isinstance (by decide +kernel) (pa_cons (pv 0) (pa_cons (pe_bltn (v := .ty "bool") (u := .type "bool") (by rfl) m_bool (by decide +kernel) rfl) pa_nil))) (pe_callB call_isi (by rfl) m_isinstance (by decide +kernel) (pa_cons (pv 1) (pa_cons (pe_bltn (v := .ty "bool") (u := .type "bool") (by rfl) m_bool (by decide +kernel) rfl) pa_nil))) (nomark _)) (pe_one (pe_cmpR op_eq (pe_cmpR op_isN (pv 0) pe_non (nomark _)) (pe_cmpR op_isN (pv 1) pe_non (nomark _)) (nomark _))))))) pss_nil) 
    (pss_one (ps_ret (pe_and (pe_callB call_isi (by rfl) m_isinstance (by decide +kernel) (pa_cons (pv 0) (pa_cons (pe_bltn (v := .ty "int") (u := .type "int") (by rfl) m_int (by decide +kernel) rfl) pa_nil))) (pe_and (pe_not (pe_callB call_isi (by rfl) m_isinstance (by decide +kernel) (pa_cons (pv 0) (pa_cons (pe_bltn (v := .ty "bool") (u := .type "bool") (by rfl) m_bool (by decide +kernel) rfl) pa_nil)))) (pe_one (pe_cmpR op_eq (pv 0) (pv 1) (nomark _))))))))), ?_⟩
      walk_at "ev"
      intro p hp
      have e1 : Same H (upd H p (.tup [.ty "list", .ty "tuple"])) := .upd hp
      have hp1 : (upd H p (.tup [.ty "list", .ty "tuple"])) p = some (.tup [.ty "list", .ty "tuple"]) := upd_same
      walk_at "nrm"
      generalize upd H p (.tup [.ty "list", .ty "tuple"]) = H1 at e1 hp1
      have hx1 := e1.dp hx
      have hy1 := e1.dp hy
      rcases dp_cases hy with ⟨fb, ds, rfl⟩ | ⟨hk0, hl⟩
      · refine isi2 hy1 hp1 (fun t e => by rw [e]; exact kit_seq) ?_
        refine ⟨_, rfl, iteT ?_⟩
        walk_at "ev"
        walk_at "nrm"
        refine isi1 hx1 (fun t e => by rw [e]; exact kit_list) ?_
        walk_at "ev"
        walk_at "nrm"
        refine isi1 hy1 (fun t e => by rw [e]; exact kit_list) ?_
        walk_at "ev"
        refine iteNS rfl ?_
        walk_at "ev"
        walk_at "nrm"
        refine isi1 hx1 (fun t e => by rw [e]; exact kit_tup) ?_
        walk_at "ev"
        walk_at "nrm"
        refine isi1 hy1 (fun t e => by rw [e]; exact kit_tup) ?_
        walk_at "ev"
        refine iteNS rfl ?_
        obtain ⟨a, xs, rfl, ha, hax⟩ := Dp.seq_of hx1
        obtain ⟨b, ys, rfl, hb, hby⟩ := Dp.seq_of hy1
        have lx := dpa_len hax
        have ly := dpa_len hby
        refine ⟨_, rfl, a, xs, rfl, ha.or, _, rfl, b, ys, rfl, hb.or, rfl, _, rfl, ?_⟩
        have el : V.int (xs.length : Nat) = V.int (ys.length : Nat) := by rw [lx, ly]
        rw [decide_eq_true el]
        refine iteT ?_
        obtain ⟨hk1, hk2⟩ := okD_seq.mp hk
        walk_at "nrm"
        refine lc_of ?_
        refine iZip_at (fun R' r => ⟨_, rfl, _, rfl, r⟩) ha hb (by omega) fun J w D hD => ?_
        refine lc_it w (fun i H2 => Same H1 H2 ∧ H2 D = some (.lst (List.replicate i (.bl true)))) ⟨.upd hD, upd_same⟩ (fun i H2 _ p => ⟨p.1.sqF ha, p.1.sqF hb⟩) (fun i v H2 H2' hi p yy => ?_) (fun H2 p => ?_)
        · obtain ⟨s1, hl⟩ := p
          obtain ⟨T, x1, x2, rfl, hTn, rfl, g1, g2⟩ := yy
          obtain ⟨d, hd, hd1⟩ := dpa_get hax g1
          obtain ⟨d', hd', hd2⟩ := dpa_get hby g2
          cases Option.some.inj (hd.symm.trans hd')
          have s2 : Same H1 (upd H2 T (.tup [x1, x2])) := s1.trans (.upd hTn)
          have hkd := hk2 d (List.mem_of_getElem? hd)
          refine ⟨T, [x1, x2], rfl, .inl (.inl upd_same), rfl, x1, [x2], rfl, x2, [], rfl, rfl, rfl, ?_⟩
          dsimp only [tYes]
          rw [if_pos rfl]
          refine ⟨_, rfl, _, rfl, ?_⟩
          cases n with
          | zero => exact hkd.elim
          | succ n =>
            refine ⟨x1, x2, d, rfl, s2.dp hd1, s2.dp hd2, hkd, fun H3 s3 => ⟨_, s3 _ _ ((Same.upd hTn) _ _ hl), ?_, s2.trans s3 |>.mut hD, ?_⟩⟩
            · rw [List.length_replicate]
              exact sz_lt (by omega)
            · rw [upd_same, List.replicate_succ']
        · obtain ⟨s1, hl⟩ := p
          refine ⟨D, List.replicate xs.length true, rfl, sql_of (by rw [List.map_replicate]; exact hl), ?_⟩
          have e : (List.replicate xs.length true).all id = true := by
            rw [List.all_eq_true]
            intro z hz
            rw [List.eq_of_mem_replicate hz]
            rfl
          rw [e]
          exact q _ (e1.trans s1)
      · refine isi2 hy1 hp1 (fun t e => by rw [e]; exact hk0) ?_
        refine ⟨_, rfl, iteF ?_⟩
        cases hx with
        | non => 
          cases hy
          walk_at "ev"
          walk_at "nrm"
          refine isi1 (r := false) hx1 (fun t e => by rw [e]; exact kit_ty (a := "NoneType") (b := "bool") (by decide +kernel)) ?_
          walk_at "ev"
          walk_at "nrm"
          refine isi1 (r := false) hy1 (fun t e => by rw [e]; exact kit_ty (a := "NoneType") (b := "bool") (by decide +kernel)) ?_
          walk_at "ev"
          exact q _ e1
        | bl c => 
          cases hy
          walk_at "ev"
          intro p2 hp2
          have e2 : Same H1 (upd H1 p2 (.tup [.ty "bool", .ty "str"])) := .upd hp2
          have hp3 : (upd H1 p2 (.tup [.ty "bool", .ty "str"])) p2 = some (.tup [.ty "bool", .ty "str"]) := upd_same
          walk_at "nrm"
          refine isi2 (r := true) (e2.dp hy1) hp3 (fun t e => by rw [e]; exact kitAny_cons (kit_ty (a := "bool") (b := "bool") (r := true) (by decide +kernel)) (fun z => nomatch z) (fun _ => rfl)) ?_
          walk_at "ev"
          rw [if_pos (decide_eq_true rfl)]
          walk_at "ev"
          walk_at "nrm"
          refine isi1 (r := true) (e2.dp hx1) (fun t e => by rw [e]; exact kit_ty (a := "bool") (b := "bool") (by decide +kernel)) ?_
          walk_at "ev"
          walk_at "nrm"
          refine isi1 (r := true) (e2.dp hy1) (fun t e => by rw [e]; exact kit_ty (a := "bool") (b := "bool") (by decide +kernel)) ?_
          walk_at "ev"
          exact q _ (e1.trans e2)
        | str c => 
          cases hy
          walk_at "ev"
          intro p2 hp2
          have e2 : Same H1 (upd H1 p2 (.tup [.ty "bool", .ty "str"])) := .upd hp2
          have hp3 : (upd H1 p2 (.tup [.ty "bool", .ty "str"])) p2 = some (.tup [.ty "bool", .ty "str"]) := upd_same
          walk_at "nrm"
          refine isi2 (r := true) (e2.dp hy1) hp3 (fun t e => by rw [e]; exact kitAny_cons (kit_ty (a := "str") (b := "bool") (r := false) (by decide +kernel)) (fun _ => kitAny_cons (kit_ty (a := "str") (b := "str") (r := true) (by decide +kernel)) (fun z => nomatch z) (fun _ => rfl)) (fun z => nomatch z)) ?_
          walk_at "ev"
          rw [if_pos (decide_eq_true rfl)]
          walk_at "ev"
          walk_at "nrm"
          refine isi1 (r := false) (e2.dp hx1) (fun t e => by rw [e]; exact kit_ty (a := "str") (b := "bool") (by decide +kernel)) ?_
          walk_at "ev"
          walk_at "nrm"
          refine isi1 (r := false) (e2.dp hy1) (fun t e => by rw [e]; exact kit_ty (a := "str") (b := "bool") (by decide +kernel)) ?_
          walk_at "ev"
          exact q _ (e1.trans e2)
        | int c => 
          cases hy
          walk_at "ev"
          intro p2 hp2
          have e2 : Same H1 (upd H1 p2 (.tup [.ty "bool", .ty "str"])) := .upd hp2
          have hp3 : (upd H1 p2 (.tup [.ty "bool", .ty "str"])) p2 = some (.tup [.ty "bool", .ty "str"]) := upd_same
          walk_at "nrm"
          refine isi2 (r := false) (e2.dp hy1) hp3 (fun t e => by rw [e]; exact kitAny_cons (kit_ty (a := "int") (b := "bool") (r := false) (by decide +kernel)) (fun _ => kitAny_cons (kit_ty (a := "int") (b := "str") (r := false) (by decide +kernel)) (fun _ => kitAny_nil) (fun z => nomatch z)) (fun z => nomatch z)) ?_
          walk_at "ev"
          walk_at "nrm"
          refine isi1 (r := true) (e2.dp hx1) (fun t e => by rw [e]; exact kit_ty (a := "int") (b := "int") (by decide +kernel)) ?_
          walk_at "ev"
          walk_at "nrm"
          refine isi1 (r := false) (e2.dp hx1) (fun t e => by rw [e]; exact kit_ty (a := "int") (b := "bool") (by decide +kernel)) ?_
          walk_at "ev"
          rw [decide_eq_true rfl]
          exact q _ (e1.trans e2)
        | @lst a xs ds hs _ => cases (hk0.symm.trans (kit_seq (fb := false) (ds := ds)))
        | @tup a xs ds hs _ => cases (hk0.symm.trans (kit_seq (fb := true) (ds := ds)))
end
end Jl

set_option Elab.async false
set_option linter.all false
set_option maxRecDepth 100000
set_option maxHeartbeats 4000000
set_option pp.maxSteps 900
namespace Jl
open PySem PySem.Spec PyProof.Rows L2
open Evl (sz_of sz_lt)
local macro_rules | `(tactic| walk_at "at") => `(tactic| first | exact box0 | exact box1 | exact box2)
local macro_rules | `(tactic| walk_at "side") => `(tactic| first
  | (show (0 : Int) < _; decide)
  | (show (0 : Int) < _; omega)
  | exact ⟨by decide, by decide, by decide⟩
  | exact sz_of (Nat.le_of_ble_eq_true rfl)
  | exact rfl
  | exact Or.inl (by decide)
  | exact Or.inr (by decide)
  | exact Or.inr ⟨by omega, by omega⟩
  | exact Or.inl ⟨by omega, by omega⟩
  | exact ⟨by decide, by decide +kernel⟩)
local macro_rules | `(tactic| walk_at "ev1") => `(tactic| first
  | refine ⟨_, rfl, ?_⟩
  | refine ⟨_, _, rfl, rfl, ?_⟩
  | refine ⟨_, _, _, _, rfl, rfl, (by assumption), (by walk_at "at"), ?_⟩
  | refine ⟨_, _, rfl, (by assumption), ?_⟩
  | refine ⟨_, _, rfl, Or.inl (by assumption), ?_⟩
  | refine ⟨_, _, rfl, Or.inr (by assumption), ?_⟩
  | refine Or.inl ⟨_, rfl, ?_⟩
  | refine Or.inr ⟨_, rfl, ?_⟩
  | refine ⟨(by walk_at "side"), ?_⟩)
local macro_rules | `(tactic| walk_at "nrm") => `(tactic| dsimp only [tNil, tCons, tC, tCB])
local macro_rules | `(tactic| walk_at "ev") => `(tactic| repeat (walk_at "ev1"))

abbrev sc_w_cells_N : List Str := ["_law_script", "_law_most", "_law_cells_here", "_law_k", "_law_cell", "_law_at_so"]
abbrev s_w_cells : Stmt := topS 10
theorem sc_w_cells : FnScope ["_law_script", "_law_most", "_law_cells_here", "_law_k", "_law_cell", "_law_at_so"] ["_law_script", "_law_most"] (defScope s_w_cells) := ⟨rfl, rfl, rfl, by decide +kernel, rfl, by decide +kernel, by decide +kernel⟩
theorem ixN_nat {n j : Nat} (h : j < n) : ixN n (j : Int) = some j := by
  unfold ixN
  rw [if_pos (by omega), if_pos (by omega)]
  simp
theorem cutV_int {ns : List Int} {lo hi : Option Int} : cutV (ns.map V.int) lo hi = ((ns.drop (HT.sIx ns.length 0 lo)).take (HT.sIx ns.length ns.length hi - HT.sIx ns.length 0 lo)).map V.int := by
  unfold cutV
  rw [List.length_map, List.map_take, List.map_drop]
section
variable {P : Program} {w : World} {K : PySem.W.Frag} {mg : Str → Option Value} {base : Heap}
/-- _law_cells(script, most): a new list of at most so many numbers -/
def spCells (K : PySem.W.Frag) : Sp := fun vs H Q _ => ∃ (a : Addr) (ns : List Int) (m : Nat), vs = [.ref a, .int (m : Int)] ∧ SqL K H a (ns.map V.int) ∧ ns.length ≤ 63 ∧ 1 ≤ m ∧ m ≤ 60 ∧
  ∀ (H' : Hp) (p : Addr) (cs : List Int), Same H H' → H p = none → H' p = some (.lst (cs.map V.int)) → cs.length ≤ m → Q (.ref p) H'
theorem ok_cells {f : Addr} {fd : FuncData} {k : Nat} (F : Fun K "_law_cells" "_law_cells" s_w_cells f fd) (m_int : mg "int" = none) (m_list : mg "list" = none) (m_enumerate : mg "enumerate" = none) : FnOk P w K mg base CX0 (k + 1) f fd ["_law_script", "_law_most"] (spCells K) := by
  refine F.ok sc_w_cells (fun vs H Q E h => ?_) (fun cdv A outer s H vs Q E hr h => ?_)
  · obtain ⟨a, ns, m, rfl, _⟩ := h
    rfl
  · obtain ⟨a, ns, m, rfl, hS, hn, m1, m2, q⟩ := h
    refine ⟨_, (Evl.pss_cut (ps_set (i := 2) sc_w_cells.nd rfl (Or.inl rfl) (pe_orT (pe_callTy call_list_of (by rfl) m_list (by decide +kernel) (pa_cons (pe_slice sl_list (pv 0) po_none (po_some (pv 1))) pa_nil)) (pe_one (pe_lst (pa_cons pe_int pa_nil))))) 
    (pss_cons (ps_forX (ps_for PassesOwn.never rfl (pi_enum (by rfl) m_enumerate (pa_cons (pe_slice sl_list (pv 0) (po_some (pv 1)) (po_some pe_int)) pa_nil)) (pg_tup rfl (pgs_cons (pg_name (i := 3) sc_w_cells.nd rfl (Or.inl rfl)) (pgs_cons (pg_name (i := 4) sc_w_cells.nd rfl (Or.inl rfl)) pgs_nil))) 
      (pss_cons (ps_set (i := 5) sc_w_cells.nd rfl (Or.inl rfl) (pe_op op_mod (pe_callTy call_int1 (by rfl) m_int (by decide +kernel) (pa_cons (pv 3) pa_nil)) (pv 1))) 
      (pss_one (ps_asg (pe_op op_add (pe_ix ix_list (pv 2) (pv 5) (fun _ _ => rfl)) (pe_op op_mul (pv 4) (pe_op op_add (pv 3) pe_int))) (pg_sub (pv 2) (pv 5) set_list)))))) 
    (pss_one (ps_ret (pv 2))))), ?_⟩
    refine ⟨fun σ1 H1 => ∃ (p : Addr) (c0 : List Int), σ1 = [some (.ref a), some (.int (m : Int)), some (.ref p), none, none, none] ∧ Same H H1 ∧ H p = none ∧ H1 p = some (.lst (c0.map V.int)) ∧ c0.length ≤ m ∧ (m < ns.length → c0.length = m), ?_, ?_⟩
    · walk_at "ev"
      intro p hp
      rw [cutV_int, show HT.sIx ns.length 0 none = 0 from HT.sIx_none _ _, show HT.sIx ns.length ns.length (some (m : Int)) = min m ns.length from HT.sIx_nat _ _ _, Nat.sub_zero, List.drop_zero]
      walk_at "nrm"
      have s1 : Same H (upd H p (.lst ((ns.take (min m ns.length)).map V.int))) := .upd hp
      refine ⟨p, _, rfl, .inl (sql_of upd_same), fun l hl => ?_⟩
      have s2 := s1.trans (Same.upd (o := .lst ((ns.take (min m ns.length)).map V.int)) hl)
      refine ⟨_, .inl ⟨_, sql_of upd_same, rfl⟩, ite2 (fun e => ?_) (fun e => ?_)⟩
      · refine ⟨l, _, rfl, s2, s1.free hl, upd_same, ?_, fun h => ?_⟩
        · rw [List.length_take]
          omega
        · rw [List.length_take]
          omega
      · walk_at "ev"
        intro r hr
        refine ⟨r, [0], rfl, s2.trans (.upd hr), s2.free hr, upd_same, by simp; omega, fun h => (e ?_).elim⟩
        have : (ns.take (min m ns.length)).length ≠ 0 := by
          rw [List.length_take]
          omega
        cases hq : ns.take (min m ns.length) with
        | nil => rw [hq] at this; exact (this rfl).elim
        | cons => rfl
    · rintro σ1 H1 ⟨p, c0, rfl, s1, hp, hp1, hc0, hc1⟩
      have hS1 : SqL K H1 a (ns.map V.int) := s1.sqL hS
      refine for_of ?_
      walk_at "ev"
      intro p3 hp3
      rw [cutV_int]
      generalize hms : List.take _ (List.drop _ ns) = ms
      have hlen : ms.length ≤ ns.length - m := by
        rw [← hms, List.length_take, List.length_drop, show HT.sIx ns.length 0 (some (m : Int)) = min m ns.length from HT.sIx_nat _ _ _]
        omega
      have s3 : Same H1 (upd H1 p3 (.lst (ms.map V.int))) := .upd hp3
      refine ⟨p3, _, rfl, sql_of upd_same, ?_⟩
      refine forR_it (walk_enum (K := K) (a := p3) (xs := ms.map V.int)) (fun i σ H2 => ∃ x3 x4 x5 cs, σ = [some (.ref a), some (.int (m : Int)), some (.ref p), x3, x4, x5] ∧ Same H H2 ∧ H2 p = some (.lst (cs.map V.int)) ∧ cs.length = c0.length ∧ H2 p3 = some (.lst (ms.map V.int)))
        ⟨_, _, _, c0, rfl, s1.trans s3, s3 _ _ hp1, rfl, upd_same⟩ (fun i σ H2 _ h => ?_) (fun i v σ H2 H2' hi h y => ?_) (fun σ H2 h => ?_)
      · obtain ⟨_, _, _, _, _, _, _, _, h3⟩ := h
        exact sql_of h3
      · obtain ⟨x3, x4, x5, cs, rfl, s4, h4, hl4, h3⟩ := h
        obtain ⟨T, u1, u2, rfl, hT, rfl, g1, g2⟩ := y
        cases g1
        rw [List.length_map] at hi
        have g2 : (ms.map V.int)[i]? = some u2 := g2
        rw [List.getElem?_map, List.getElem?_eq_getElem hi] at g2
        cases g2
        have s5 : Same H2 (upd H2 T (.tup [.int (i : Int), .int ms[i]])) := .upd hT
        have hcm : cs.length = m := by rw [hl4]; exact hc1 (by omega)
        refine ⟨T, _, rfl, sqt_of upd_same, rfl, _, _, rfl, _, _, rfl, rfl, ?_⟩
        have hat : ((i : Int) % (m : Int)) = ((i % m : Nat) : Int) := rfl
        have hlt : i % m < cs.length := by rw [hcm]; exact Nat.mod_lt _ (by omega)
        have h6 := s5 _ _ h4
        have hS6 : SqL K (upd H2 T (.tup [.int (i : Int), .int ms[i]])) p (cs.map V.int) := sql_of h6
        have hi63 : (i : Int) < 63 := by omega
        have hix : ixN (cs.map V.int).length ((i : Int) % (m : Int)) = some (i % m) := by
          rw [hat, List.length_map]
          exact ixN_nat hlt
        walk_at "ev"
        refine ⟨p, _, _, _, rfl, rfl, hS6, at_of (v := .int cs[i % m]) hat (by rw [List.getElem?_map, List.getElem?_eq_getElem hlt]; rfl), ?_⟩
        walk_at "ev"
        refine ⟨p, _, _, i % m, rfl, rfl, h6, hix, ?_⟩
        have np : p3 ≠ p := fun z => by
          rw [z, hp1] at hp3
          cases hp3
        refine ⟨_, _, _, cs.set (i % m) (cs[i % m] + ms[i] * ((i : Int) + 2)), rfl, (s4.trans s5).mut hp, ?_, by rw [List.length_set]; exact hl4, ?_⟩
        · rw [upd_same, List.map_set]
        · rw [upd_ne np]
          exact s5 _ _ h3
      · obtain ⟨x3, x4, x5, cs, rfl, s4, h4, hl4, h3⟩ := h
        exact ⟨_, rfl, q _ _ cs s4 hp h4 (by omega)⟩
end
end Jl

set_option Elab.async false
set_option linter.all false
set_option maxRecDepth 100000
set_option maxHeartbeats 4000000
set_option pp.maxSteps 900
namespace Jl
open PySem PySem.Spec PyProof.Rows L2
open Evl (sz_of sz_lt)
local macro_rules | `(tactic| walk_at "at") => `(tactic| first | exact box0 | exact box1 | exact box2)
local macro_rules | `(tactic| walk_at "sq") => `(tactic| first | (show SqL _ _ _ _; assumption) | (show SqT _ _ _ _; assumption) | (show _ = some _; assumption))
local macro_rules | `(tactic| walk_at "side") => `(tactic| first
  | (show (0 : Int) < _; decide)
  | (show (0 : Int) < _; omega)
  | exact ⟨by decide, by decide, by decide⟩
  | exact sz_of (Nat.le_of_ble_eq_true rfl)
  | exact rfl
  | exact Or.inl (by decide)
  | exact Or.inr (by decide)
  | exact Or.inr ⟨by omega, by omega⟩
  | exact Or.inl ⟨by omega, by omega⟩
  | exact ⟨by decide, by decide +kernel⟩)
local macro_rules | `(tactic| walk_at "ev1") => `(tactic| first
  | refine ⟨_, rfl, ?_⟩
  | refine ⟨_, _, rfl, rfl, ?_⟩
  | refine ⟨_, _, _, _, rfl, rfl, (by walk_at "sq"), (by walk_at "at"), ?_⟩
  | refine ⟨_, _, rfl, (by walk_at "sq"), ?_⟩
  | refine ⟨_, _, rfl, Or.inl (by walk_at "sq"), ?_⟩
  | refine ⟨_, _, rfl, Or.inr (by walk_at "sq"), ?_⟩
  | refine Or.inl ⟨_, rfl, ?_⟩
  | refine Or.inr ⟨_, rfl, ?_⟩
  | refine ⟨(by walk_at "side"), ?_⟩
  | refine ⟨.inl ⟨rfl, _, (by walk_at "sq")⟩, ?_⟩
  | refine ⟨_, _, rfl, ?_⟩)
local macro_rules | `(tactic| walk_at "nrm") => `(tactic| dsimp only [tNil, tCons, tC, tCB])
local macro_rules | `(tactic| walk_at "ev") => `(tactic| repeat (walk_at "ev1"))

abbrev sc_w_pick_N : List Str := ["_law_box_here", "_law_pool", "_law_size_so", "_law_rest", "_law_some", "_law_turn"]
abbrev s_w_pick : Stmt := topS 12
theorem sc_w_pick : FnScope ["_law_box_here", "_law_pool", "_law_size_so", "_law_rest", "_law_some", "_law_turn"] ["_law_box_here", "_law_pool", "_law_size_so"] (defScope s_w_pick) := ⟨rfl, rfl, rfl, by decide +kernel, rfl, by decide +kernel, by decide +kernel⟩
theorem cutS_more {S T : List Addr} {H H' : Hp} (e : Same (cutS T H) (cutS T H')) (h : ∀ a ∈ T, a ∈ S) : Same (cutS S H) (cutS S H') := fun b o q => by
  obtain ⟨h1, h2⟩ := cutS_some q
  have h3 : b ∉ T := fun z => h1 (h b z)
  have := e b o (by rw [cutS_out h3]; exact h2)
  rw [cutS_out h3] at this
  rw [cutS_out h1]
  exact this
theorem era_map {α β : Type} (f : α → β) : ∀ (l : List α) (k : Nat), (l.map f).eraseIdx k = (l.eraseIdx k).map f
  | [], _ => rfl
  | _ :: _, 0 => rfl
  | a :: l, k + 1 => congrArg (f a :: ·) (era_map f l k)
theorem era_perm {α : Type} : ∀ (l : List α) (k : Nat) (h : k < l.length), (l[k] :: l.eraseIdx k).Perm l
  | a :: l, 0, _ => List.Perm.refl _
  | a :: l, k + 1, h => (List.Perm.swap a (l[k]'(by simpa using h)) (l.eraseIdx k)).trans (List.Perm.cons a (era_perm l k (by simpa using h)))
theorem small8000 {i : Int} (h : 0 ≤ i ∧ i ≤ 10 ^ 60) : i.natAbs < 2 ^ 8000 := by
  have h2 : i.natAbs < 2 ^ 250 := by omega
  exact Nat.lt_of_lt_of_le h2 (Nat.pow_le_pow_right (by decide) (by decide))
/-! ### the box as it goes on -/
def BoxL (bx : List V) (N : Nat) : Prop := ∃ c0 c1 c2 : Int, bx = boxV c0 c1 c2 ∧ 0 ≤ c0 ∧ 0 ≤ c1 ∧ c1 < 2 ^ 62 ∧ 0 ≤ c2 ∧ c2 ≤ N
theorem BoxL.mono {bx : List V} {N M : Nat} (h : BoxL bx N) (e : N ≤ M) : BoxL bx M := by
  obtain ⟨c0, c1, c2, rfl, h1, h2, h3, h4, h5⟩ := h
  exact ⟨c0, c1, c2, rfl, h1, h2, h3, h4, by omega⟩
def spTake2 : Sp := fun vs H Q _ => ∃ (b : Addr) (n : Int) (bx : List V) (N : Nat), vs = [.ref b, .int n] ∧ H b = some (.lst bx) ∧ BoxL bx N ∧ N < 2 ^ 60 ∧ 1 ≤ n ∧ n.natAbs < 2 ^ 8000 ∧
  ∀ r bx', 0 ≤ r → r < n → BoxL bx' (N + 1) → Q (.int r) (upd H b (.lst bx'))
section
variable {P : Program} {w : World} {K : PySem.W.Frag} {mg : Str → Option Value} {base : Heap}
theorem ok_take2 {f : Addr} {fd : FuncData} {k : Nat} (G : FnOk P w K mg base CX0 k f fd ["_law_box_here", "_law_below"] (spTake K)) : FnOk P w K mg base CX0 k f fd ["_law_box_here", "_law_below"] spTake2 :=
  G.imp fun vs H Q E h => by
    obtain ⟨b, n, bx, N, rfl, hb, ⟨c0, c1, c2, rfl, h1, h2, h3, h4, h5⟩, hN, n1, n2, q⟩ := h
    exact ⟨b, c0, c1, c2, n, rfl, hb, h1, h2, h3, h4, by omega, n1, n2, fun r d0 d2 r0 r1 d00 d20 d21 => q r _ r0 r1 ⟨d0, c1, d2, rfl, d00, h2, h3, d20, by omega⟩⟩
/-- _law_pick(box, pool, size): some of the pool, each once -/
def spPick (K : PySem.W.Frag) : Sp := fun vs H Q _ => ∃ (b a : Addr) (n : Int) (bx : List V) (N : Nat) (xs : List Str), vs = [.ref b, .ref a, .int n] ∧ H b = some (.lst bx) ∧ BoxL bx N ∧ N + xs.length < 2 ^ 60 ∧ SqL K H a (xs.map V.str) ∧ xs.length ≤ 1000 ∧ 0 ≤ n ∧ n < 2 ^ 60 ∧
  ∀ (H' : Hp) (q : Addr) (ys rs : List Str) (bx' : List V), (ys ++ rs).Perm xs → ys.length = min n.toNat xs.length → H q = none → H' q = some (.lst (ys.map V.str)) → H' b = some (.lst bx') → BoxL bx' (N + ys.length) → Same (cutS [b] H) (cutS [b] H') → Q (.ref q) H'
theorem ok_pick {f fT : Addr} {fd fdT : FuncData} {k : Nat} (F : Fun K "_law_pick" "_law_pick" s_w_pick f fd) (G_w_take : FnOk P w K mg base CX0 k fT fdT ["_law_box_here", "_law_below"] spTake2) (g_w_take : mg "_law_take" = some (.ref fT)) (F_w_take : Fun K "_law_take" "_law_take" s_w_take fT fdT) (b_w_take : Binds K fdT ["_law_box_here", "_law_below"] [])
    (m_list : mg "list" = none) (m_range : mg "range" = none) (m_min : mg "min" = none) (m_len : mg "len" = none) : FnOk P w K mg base CX0 (k + 1) f fd ["_law_box_here", "_law_pool", "_law_size_so"] (spPick K) := by
  refine F.ok sc_w_pick (fun vs H Q E h => ?_) (fun cdv A outer s H vs Q E hr h => ?_)
  · obtain ⟨b, a, n, bx, N, xs, rfl, _⟩ := h
    rfl
  · obtain ⟨b, a, n, bx, N, xs, rfl, hb, hB, hN, hA, hx, n0, n1, q⟩ := h
    refine ⟨_, (pss_cons (ps_par (i := 3) (j := 4) (by rfl) sc_w_pick.nd rfl rfl (by decide) rfl rfl (pa_cons (pe_callTy call_list_of (by rfl) m_list (by decide +kernel) (pa_cons (pv 1) pa_nil)) (pa_cons (pe_lst pa_nil) pa_nil)) (by rfl)) 
    (pss_cons (ps_forX (ps_for PassesOwn.never rfl (pi_range1 (by rfl) m_range (pa_cons (pe_callB (call_min2 rfl) (by rfl) m_min (by decide +kernel) (pa_cons (pv 2) (pa_cons (pe_callB call_len_seq (by rfl) m_len PySem.boot_len (pa_cons (pv 3) pa_nil)) pa_nil))) pa_nil)) (pg_name (i := 5) sc_w_pick.nd rfl (Or.inl rfl)) (pss_one (ps_expr (pe_bm PySem.F.plainAttrs_list PySem.F.slot_list_append PySem.F.type_list_append mt_append (pv 4) (pa_cons (pe_bm PySem.F.plainAttrs_list PySem.F.slot_list_pop PySem.F.type_list_pop mt_popAt (pv 3) (pa_cons (pe_call G_w_take hr (by rfl) g_w_take F_w_take.kp b_w_take .nil pass0 (pa_cons (pv 0) (pa_cons (pe_callB call_len_seq (by rfl) m_len PySem.boot_len (pa_cons (pv 3) pa_nil)) pa_nil))) pa_nil)) pa_nil)))))) 
    (pss_one (ps_ret (pv 4))))), ?_⟩
    walk_at "ev"
    intro l hl
    walk_at "ev"
    intro p hp
    walk_at "ev"
    refine for_of ?_
    have nbl : l ≠ b := fun z => by
      rw [z, hb] at hl
      cases hl
    have s1 : Same H (upd H l (.lst (xs.map V.str))) := .upd hl
    have s2 : Same (upd H l (.lst (xs.map V.str))) (upd (upd H l (.lst (xs.map V.str))) p (.lst [])) := .upd hp
    have hl2 := s2 _ _ (upd_same (H := H) (a := l) (o := .lst (xs.map V.str)))
    have hp2 : (upd (upd H l (.lst (xs.map V.str))) p (.lst [])) p = some (.lst []) := upd_same
    have s12 := s1.trans s2
    have hpl : p ≠ l := fun z => by
      rw [z, upd_same] at hp
      cases hp
    have hpb : p ≠ b := fun z => by
      rw [z, upd_ne nbl.symm, hb] at hp
      cases hp
    have hp0 : H p = none := s1.free hp
    have hL2 : SqL K (upd (upd H l (.lst (xs.map V.str))) p (.lst [])) l (xs.map V.str) := sql_of hl2
    show iRng1 _ _ (upd (upd H l (.lst (xs.map V.str))) p (.lst [])) _
    generalize upd (upd H l (.lst (xs.map V.str))) p (.lst []) = H2 at s12 hl2 hp2 hL2
    walk_at "ev"
    rw [List.length_map]
    have hj : (if (xs.length : Int) < n then (xs.length : Int) else n) = ((min n.toNat xs.length : Nat) : Int) := by
      split <;> omega
    rw [hj]
    refine ⟨by omega, by omega, ?_⟩
    rw [Int.toNat_natCast]
    refine forR_it (walk_range (lo := 0) (n := min n.toNat xs.length)) (fun i σ H3 => ∃ x5 ys rs bx', σ = [some (.ref b), some (.ref a), some (.int n), some (.ref l), some (.ref p), x5] ∧ H3 l = some (.lst (rs.map V.str)) ∧ H3 p = some (.lst (ys.map V.str)) ∧ H3 b = some (.lst bx') ∧ BoxL bx' (N + i) ∧ (ys ++ rs).Perm xs ∧ ys.length = i ∧ Same (cutS [b] H) H3)
      ⟨_, [], xs, bx, rfl, hl2, hp2, s12 _ _ hb, hB, List.Perm.refl _, rfl, cutS_le.trans s12⟩ (fun _ _ _ _ _ => trivial) (fun i v σ H3 H3' hi h y => ?_) (fun σ H3 h => ?_)
    · obtain ⟨x5, ys, rs, bx', rfl, h1, h2, h3, h4, h5, h6, h7⟩ := h
      obtain ⟨rfl, rfl⟩ := y
      have hlen := h5.length_eq
      rw [List.length_append] at hlen
      have hL : SqL K H3' l (rs.map V.str) := sql_of h1
      have hPl : SqL K H3' p (ys.map V.str) := sql_of h2
      walk_at "ev"
      have hrl : ((rs.map V.str).length : Int) = rs.length := by rw [List.length_map]
      have hr1 : 1 ≤ rs.length := by omega
      refine ⟨b, _, bx', N + i, rfl, h3, h4, by omega, by omega, small8000 (by rw [hrl]; omega), fun r bx2 r0 r1 hB2 => ?_⟩
      rw [hrl] at r1
      obtain ⟨k, rfl⟩ : ∃ k : Nat, r = (k : Int) := ⟨r.toNat, by omega⟩
      have hk : k < rs.length := by omega
      have hsi : seqIndex? (k : Int) (rs.map V.str).length = some k := (ixN_seq (ixN_nat (by rw [List.length_map]; exact hk))).1
      have h1' : (upd H3' b (.lst bx2)) l = some (.lst (rs.map V.str)) := by
        rw [upd_ne nbl]
        exact h1
      refine ⟨l, _, (k : Int), k, .str rs[k], rfl, rfl, h1', by omega, by omega, hsi, by rw [List.getElem?_map, List.getElem?_eq_getElem hk]; rfl, ?_⟩
      have h2' : (upd (upd H3' b (.lst bx2)) l (.lst ((rs.map V.str).eraseIdx k))) p = some (.lst (ys.map V.str)) := by
        rw [upd_ne hpl, upd_ne hpb]
        exact h2
      refine ⟨p, _, _, rfl, rfl, h2', ?_, ?_⟩
      · rw [List.length_map]
        exact sz_lt (by omega)
      · refine ⟨_, ys ++ [rs[k]], rs.eraseIdx k, bx2, rfl, ?_, ?_, ?_, hB2, ?_, ?_, ?_⟩
        · rw [upd_ne hpl.symm, upd_same, era_map]
        · rw [upd_same, List.map_append]
          rfl
        · rw [upd_ne hpb.symm, upd_ne nbl.symm, upd_same]
        · refine List.Perm.trans ?_ h5
          rw [List.append_assoc]
          exact List.Perm.append_left ys (era_perm rs k hk)
        · rw [List.length_append, h6]
          rfl
        · intro x o hx
          obtain ⟨g1, g2⟩ := cutS_some hx
          have gb : x ≠ b := fun z => g1 (by rw [z]; exact List.mem_cons_self)
          have gl : x ≠ l := ne_of_none g2 hl
          have gp : x ≠ p := ne_of_none g2 hp0
          rw [upd_ne gp, upd_ne gl, upd_ne gb]
          exact h7 x o hx
    · obtain ⟨x5, ys, rs, bx', rfl, h1, h2, h3, h4, h5, h6, h7⟩ := h
      refine ⟨_, rfl, ?_⟩
      refine q H3 p ys rs bx' h5 h6 hp0 h2 h3 (by rw [h6]; exact h4) fun x o hx => ?_
      obtain ⟨g1, g2⟩ := cutS_some hx
      rw [cutS_out g1]
      exact h7 x o hx
end
end Jl

set_option Elab.async false
set_option linter.all false
set_option maxRecDepth 100000
set_option maxHeartbeats 4000000
set_option pp.maxSteps 900
namespace Jl
open PySem PySem.Spec PyProof.Rows L2
open Evl (sz_of sz_lt)
local macro_rules | `(tactic| walk_at "at") => `(tactic| first | exact box0 | exact box1 | exact box2)
local macro_rules | `(tactic| walk_at "sq") => `(tactic| first | (show SqL _ _ _ _; assumption) | (show SqT _ _ _ _; assumption) | (show _ = some _; assumption))
local macro_rules | `(tactic| walk_at "side") => `(tactic| first
  | (show (0 : Int) < _; decide)
  | (show (0 : Int) < _; omega)
  | exact ⟨by decide, by decide, by decide⟩
  | exact sz_of (Nat.le_of_ble_eq_true rfl)
  | exact rfl
  | exact Or.inl (by decide)
  | exact Or.inr (by decide)
  | exact Or.inr ⟨by omega, by omega⟩
  | exact Or.inl ⟨by omega, by omega⟩
  | exact ⟨by decide, by decide +kernel⟩)
local macro_rules | `(tactic| walk_at "ev1") => `(tactic| first
  | refine ⟨_, rfl, ?_⟩
  | refine ⟨_, _, rfl, rfl, ?_⟩
  | refine ⟨_, _, _, _, rfl, rfl, (by walk_at "sq"), (by walk_at "at"), ?_⟩
  | refine ⟨_, _, rfl, (by walk_at "sq"), ?_⟩
  | refine ⟨_, _, rfl, Or.inl (by walk_at "sq"), ?_⟩
  | refine ⟨_, _, rfl, Or.inr (by walk_at "sq"), ?_⟩
  | refine Or.inl ⟨_, rfl, ?_⟩
  | refine Or.inr ⟨_, rfl, ?_⟩
  | refine ⟨(by walk_at "side"), ?_⟩
  | refine ⟨.inl ⟨rfl, _, (by walk_at "sq")⟩, ?_⟩
  | refine ⟨_, _, rfl, ?_⟩)
local macro_rules | `(tactic| walk_at "nrm") => `(tactic| dsimp only [tNil, tCons, tC, tCB])
local macro_rules | `(tactic| walk_at "ev") => `(tactic| repeat (walk_at "ev1"))
/-! ### range(n) as a value, list of it -/
section
variable {X : Cx}
theorem cr_range1 : CallR X (.type "range") (fun vs H Q => ∃ j, vs = [V.int j] ∧ ∀ p, H p = none → Q (.ref p) (upd H p (.rng 0 j))) := fun pins s σ H vs us Q I r h => by
  obtain ⟨j, rfl, q⟩ := h
  obtain ⟨u, rfl, ru⟩ := vals1 r
  obtain ⟨t, rfl⟩ := ru
  exact call_range_1 ⟨.ref _, _, I.laid (o := .rng 0 j) (t' := s.toks + 1 + 1) (fun _ _ e => Heap.get?_push_of_some _ e) (Nat.le_refl _) ⟨_, _, _, Heap.get?_push_size _ rfl⟩, rfl, q _ (I.hok.fresh (Nat.le_refl _))⟩
theorem vals_from {f : Nat → V} : ∀ {us : List Value} (k : Nat), (∀ i v, us[i]? = some v → RelV (f (k + i)) v) → Vals ((List.range us.length).map fun i => f (k + i)) us
  | [], _, _ => .nil
  | u :: us, k, h => by
    rw [List.length_cons, List.range_succ_eq_map, List.map_cons, List.map_map]
    refine .cons (h 0 u rfl) ?_
    have := vals_from (f := f) (us := us) (k + 1) fun i v hv => by
      have q := h (i + 1) v (by simpa using hv)
      have e : k + (i + 1) = k + 1 + i := by omega
      rw [e] at q
      exact q
    have e : ((fun i => f (k + i)) ∘ Nat.succ) = fun i => f (k + 1 + i) := by
      funext i
      show f (k + (i + 1)) = f (k + 1 + i)
      congr 1
      omega
    rw [e]
    exact this
theorem call_list_rng (hc : X.calm = true) : CallR X (.type "list") (fun xs H Q => ∃ (r : Addr) (n : Nat), xs = [.ref r] ∧ H r = some (.rng 0 (n : Int)) ∧ n ≤ 1000 ∧ ∀ p, H p = none → Q (.ref p) (upd H p (.lst ((List.range n).map fun i => V.int ((i : Nat) : Int))))) := fun pins s σ H xs us Q I r h => by
  obtain ⟨a, n, rfl, ha, hn, q⟩ := h
  obtain ⟨u, rfl, ru⟩ := vals1 r
  cases ru
  obtain ⟨t, u, v, ho⟩ := I.hok _ _ ha
  refine call_list_range (n := n) (I.ok.hd hc) (show IsRange s.heap a 0 (n : Int) 1 t u v from ho) (small_one (by omega) (by omega) (by omega) (by omega)) ?_ (by omega) fun h' tk acc c hk hS hi => ?_
  · rw [rangeSize_one]
    by_cases h0 : (0 : Int) < n
    · rw [if_pos h0]
      omega
    · rw [if_neg h0]
      omega
  · obtain ⟨h1, h2⟩ := hi
    have hl : acc.toList.length = n := by rw [Array.length_toList]; exact h1
    have hv : Vals ((List.range n).map fun i => V.int ((i : Nat) : Int)) acc.toList := by
      rw [← hl]
      have g := vals_from (f := fun i => V.int ((i : Nat) : Int)) (us := acc.toList) 0 fun i v hv => by
        have hi : i < n := by
          rw [← hl]
          exact (List.getElem?_eq_some_iff.mp hv).1
        obtain ⟨t, e2⟩ := h2 i v (by simpa using hv)
        refine ⟨t, ?_⟩
        rw [e2]
        congr 1
        omega
      have e : (fun i => V.int (((0 + i : Nat)) : Int)) = fun i => V.int ((i : Nat) : Int) := by
        funext i
        rw [Nat.zero_add]
      rw [e] at g
      exact g
    exact ⟨.ref _, _, I.laid (o := .lst ((List.range n).map fun i => V.int ((i : Nat) : Int))) (t' := tk) hk (Nat.le_refl _) ⟨by rw [List.length_map, List.length_range]; exact sz_of (by omega), acc.toList, c, hv, by simpa using hS⟩, rfl, q _ (I.hok.fresh (Nat.le_refl _))⟩
/-! ### a method of a tuple whose object is known -/
/-- the place of a tuple whose object is known -/
def TupO (H : Hp) (x : V) : Prop := ∃ (p : Addr) (ob : Obj) (xs : List V), x = .ref p ∧ H p = some (.frz ob (.tup xs)) ∧ ob.cls = .type "tuple" ∧ ob.dict = none
def tBMT (r : V → List V → Hp → VK → Prop) (to : TE) (t : TA) : TE := fun σ H Q => to σ H fun x H1 => TupO H1 x ∧ t σ H1 fun xs H2 => r x xs H2 Q
theorem pe_tm {o e : Expr} {es : List Expr} {to : TE} {t : TA} {name : Str} {apos cpos : Pos} {id : String} {r : V → List V → Hp → VK → Prop} (slot : Slot "tuple" name id) (hty : typeOf (.builtin id) = pure (.type "method_descriptor")) (hm : MtR X id r) (ho : PE X o to) (ha : PA X (e :: es) t)
    (h1 : attributeBase o name X.env (eval o X.env) = eval o X.env := by rfl)
    (h2 : ((backTo cpos (starEach (e :: es) X.env)).all (fun x => !x.1) && (backToKw cpos (keywordEach [] X.env)).all (fun x => x.1.isSome)
      && decide ((e :: es).length + ([] : List Keyword).length + (if ([] : List Keyword).isEmpty then 0 else 1) < 30)) = true := by rfl)
    (h3 : (apos.endLine == cpos.line) = true := by rfl) (h4 : starEach (e :: es) X.env = (false, eval e X.env) :: starEach es X.env := by rfl) (h5 : (backTo cpos (starEach es X.env)).any (·.1) = false := by rfl) :
    PE X (.Call (.Attribute o name apos) (e :: es) [] cpos) (tBMT r to t) := ⟨fun pins s σ H Q I h => wpAny_Call_method_late h1 h2 h3 rfl (thn (ho.run pins s σ H _ I h) fun v s1 ⟨x, H1, I1, r1, ⟨p, ob, xs, ex, hp, hc, hd⟩, q1⟩ => by
  subst ex
  obtain rfl : v = Value.ref p := r1
  have hob : s1.heap.get? p = some ob := (I1.hok p _ hp).1
  refine ⟨"tuple", id, PySem.F.plainAttrs_tuple, slot, hty, ⟨ob, hob, hc⟩, fun a ea => ?_, ?_⟩
  · cases ea
    exact ⟨ob, hob, hd⟩
  · have g := ha.run cpos pins s1 σ H1 _ I1 q1
    rw [h4] at g ⊢
    have h6 : ((false, eval e X.env) :: backTo cpos (starEach es X.env)).any (·.1) = false := by
      rw [List.any_cons, h5]
      rfl
    exact Calls.callWith_builtin h6 (Calls.evalArgs_plain (thn g fun us s2 ⟨vs, H2, I2, r2, q2⟩ => hm pins s2 σ H2 (.ref p) vs _ us Q I2 rfl r2 q2)))⟩
/-- tuple(a list): a tuple whose object is known -/
def rTupF (K : PySem.W.Frag) : List V → Hp → VK → Prop := fun xs H Q => ∃ (p : Addr) (ys : List V), xs = [.ref p] ∧ SqL K H p ys ∧ ∀ (l : Addr) (ob : Obj), H l = none → ob.cls = .type "tuple" → ob.dict = none → Q (.ref l) (upd H l (.frz ob (.tup ys)))
theorem call_tupF : CallR X (.type "tuple") (rTupF X.K) := fun pins s σ H xs us Q I r h => by
  obtain ⟨p, ys, rfl, hq, q⟩ := h
  obtain ⟨u, rfl, rx⟩ := vals1 r
  cases rx
  obtain ⟨its, rv, pl, hz⟩ := I.list hq
  have hlen := rv.length
  refine call_tuple_list pl.isList (fun h' kp => ?_) (by rw [List.size_toArray]; omega)
  have I1 : Inv X pins σ H { s with heap := h' } := I.kept (t' := s.toks) kp
  have hget : (h'.push { cls := .type "tuple", data := .seq its.toArray }).get? h'.objs.size = some { cls := .type "tuple", data := .seq its.toArray } := Heap.get?_push_size _ rfl
  exact ⟨.ref h'.objs.size, _, I1.laid (o := .frz { cls := .type "tuple", data := .seq its.toArray } (.tup ys)) (t' := s.toks) (fun b o e => Heap.get?_push_of_some _ e) (Nat.le_refl _) ⟨hget, hz, its, rv, ⟨_, hget, rfl, _, rfl⟩⟩, rfl, q _ _ (I1.hok.fresh (Nat.le_refl _)) rfl rfl⟩
end
end Jl

set_option Elab.async false
set_option linter.all false
set_option maxRecDepth 100000
set_option maxHeartbeats 4000000
set_option pp.maxSteps 900
namespace Jl
open PySem PySem.Spec PyProof.Rows L2
open Evl (sz_of sz_lt)
local macro_rules | `(tactic| walk_at "at") => `(tactic| first | exact box0 | exact box1 | exact box2)
local macro_rules | `(tactic| walk_at "sq") => `(tactic| first | (show SqL _ _ _ _; assumption) | (show SqT _ _ _ _; assumption) | (show _ = some _; assumption))
local macro_rules | `(tactic| walk_at "side") => `(tactic| first
  | (show (0 : Int) < _; decide)
  | (show (0 : Int) < _; omega)
  | exact ⟨by decide, by decide, by decide⟩
  | exact sz_of (Nat.le_of_ble_eq_true rfl)
  | exact rfl
  | exact Or.inl (by decide)
  | exact Or.inr (by decide)
  | exact Or.inr ⟨by omega, by omega⟩
  | exact Or.inl ⟨by omega, by omega⟩
  | exact ⟨by decide, by decide +kernel⟩)
local macro_rules | `(tactic| walk_at "ev1") => `(tactic| first
  | refine ⟨_, rfl, ?_⟩
  | refine ⟨_, _, rfl, rfl, ?_⟩
  | refine ⟨_, _, _, _, rfl, rfl, (by walk_at "sq"), (by walk_at "at"), ?_⟩
  | refine ⟨_, _, rfl, (by walk_at "sq"), ?_⟩
  | refine ⟨_, _, rfl, Or.inl (by walk_at "sq"), ?_⟩
  | refine ⟨_, _, rfl, Or.inr (by walk_at "sq"), ?_⟩
  | refine Or.inl ⟨_, rfl, ?_⟩
  | refine Or.inr ⟨_, rfl, ?_⟩
  | refine ⟨(by walk_at "side"), ?_⟩
  | refine ⟨.inl ⟨rfl, _, (by walk_at "sq")⟩, ?_⟩
  | refine ⟨_, _, rfl, ?_⟩)
local macro_rules | `(tactic| walk_at "nrm") => `(tactic| dsimp only [tNil, tCons, tC, tCB])
local macro_rules | `(tactic| walk_at "ev") => `(tactic| repeat (walk_at "ev1"))

abbrev sc_w_web_N : List Str := ["_law_box_here", "_law_size_so", "_law_most", "_law_high", "_law_tags", "_law_marks", "_law_found", "_law_mark", "_law_one", "_law_two", "_law_space"]
abbrev s_w_web : Stmt := topS 15
theorem sc_w_web : FnScope ["_law_box_here", "_law_size_so", "_law_most", "_law_high", "_law_tags", "_law_marks", "_law_found", "_law_mark", "_law_one", "_law_two", "_law_space"] ["_law_box_here", "_law_size_so", "_law_most", "_law_high"] (defScope s_w_web) := ⟨rfl, rfl, rfl, by decide +kernel, rfl, by decide +kernel, by decide +kernel⟩
/-- the first row of a pair stands as a tuple whose object is known -/
def TupW (H : Hp) (v : V) (xs : List V) : Prop := ∃ (a0 a1 a2 : Addr) (ob : Obj), v = .ref a0 ∧ H a0 = some (.tup [.ref a1, .ref a2]) ∧ H a1 = some (.frz ob (.tup xs)) ∧ ob.cls = .type "tuple" ∧ ob.dict = none
/-! ### nets as data -/
structure QD where
  nm : Str
  st : Str
  en : Str
  room : Int
  gap : Int
def QD.d (f : Bool) (q : QD) : PyData := seqD f [.str q.nm, .str q.st, .str q.en, .int q.room, .int q.gap]
def netD (f : Bool) (ws : List Str) (qs : List QD) : PyData := seqD f [seqD f (ws.map PyData.str), seqD f (qs.map (QD.d f))]
def poolW : List Str := [Str.ofString "a", Str.ofString "b", Str.ofString "c.x", Str.ofString "d2", Str.ofString "k", Str.ofString "node", Str.ofString "s", Str.ofString "t", Str.ofString "w.1", Str.ofString "z"]
def poolQ : List Str := [Str.ofString "a", Str.ofString "d2", Str.ofString "e", Str.ofString "f1", Str.ofString "in.a", Str.ofString "k", Str.ofString "m", Str.ofString "out", Str.ofString "p", Str.ofString "q", Str.ofString "s", Str.ofString "v", Str.ofString "x", Str.ofString "z"]
structure GoodNet (s m : Nat) (h : Int) (ws : List Str) (qs : List QD) : Prop where
  wn : ws.Nodup
  wo : sortedS ws = true
  w2 : 2 ≤ ws.length
  wl : ws.length ≤ s
  wp : ∀ x ∈ ws, x ∈ poolW
  qn : ∃ l : List Str, l.Nodup ∧ sortedS l = true ∧ (∀ x ∈ l, x ∈ poolQ) ∧ ∃ k, qs.map QD.nm = l.take k
  q1 : 1 ≤ qs.length
  ql : qs.length ≤ m
  qq : ∀ q ∈ qs, q.st ∈ ws ∧ q.en ∈ ws ∧ q.st ≠ q.en ∧ 1 ≤ q.gap ∧ q.gap ≤ q.room ∧ q.room ≤ h
theorem cutS_at {S : List Addr} {H : Hp} {a : Addr} {o : HO} (h : H a = some o) (n : a ∉ S) : cutS S H a = some o := by
  rw [cutS_out n]
  exact h
theorem not1 {a b : Addr} (h : a ≠ b) : a ∉ [b] := fun z => h (List.mem_singleton.mp z)
theorem not2 {a b c : Addr} (h : a ≠ b) (h2 : a ≠ c) : a ∉ [b, c] := fun z => by
  rcases List.mem_cons.mp z with e | e
  · exact h e
  · exact h2 (List.mem_singleton.mp e)
theorem cutV_map {α : Type} {f : α → V} {xs : List α} {k : Nat} : cutV (xs.map f) none (some (k : Int)) = (xs.take k).map f := by
  unfold cutV
  rw [List.length_map, show HT.sIx xs.length 0 none = 0 from HT.sIx_none _ _, show HT.sIx xs.length xs.length (some (k : Int)) = min k xs.length from HT.sIx_nat _ _ _, Nat.sub_zero, List.drop_zero, ← List.map_take]
  congr 1
  by_cases h : k ≤ xs.length
  · rw [Nat.min_eq_left h]
  · rw [Nat.min_eq_right (by omega), List.take_of_length_le (by omega), List.take_of_length_le (by omega)]
/-- where the loop of _law_web stands -/
structure WSt (K : PySem.W.Frag) (b p7 p9 : Addr) (H3 : Hp) (ls fs : List V) (ds : List PyData) (Hc : Hp) (bx : List V) (n : Nat) : Prop where
  hb : Hc b = some (.lst bx)
  hB : BoxL bx n
  hf : Hc p7 = some (.lst fs)
  hd : DpAll K (cutS [p7, b] Hc) fs ds
  hS : Same (cutS [b] H3) (cutS [p7, b] Hc)
  h9 : cutS [p7, b] Hc p9 = some (.lst ls)
theorem WSt.take {K : PySem.W.Frag} {b p7 p9 : Addr} {H3 : Hp} {ls fs : List V} {ds : List PyData} {Hc : Hp} {bx bx' : List V} {n : Nat} (w : WSt K b p7 p9 H3 ls fs ds Hc bx n) (n7 : p7 ≠ b) (h : BoxL bx' (n + 1)) : WSt K b p7 p9 H3 ls fs ds (upd Hc b (.lst bx')) bx' (n + 1) := by
  have e : cutS [p7, b] (upd Hc b (.lst bx')) = cutS [p7, b] Hc := cutS_upd (List.mem_cons_of_mem _ List.mem_cons_self)
  exact ⟨upd_same, h, by rw [upd_ne n7]; exact w.hf, by rw [e]; exact w.hd, by rw [e]; exact w.hS, by rw [e]; exact w.h9⟩
theorem WSt.same {K : PySem.W.Frag} {b p7 p9 : Addr} {H3 : Hp} {ls fs : List V} {ds : List PyData} {Hc Hd : Hp} {bx : List V} {n : Nat} (w : WSt K b p7 p9 H3 ls fs ds Hc bx n) (e : Same Hc Hd) : WSt K b p7 p9 H3 ls fs ds Hd bx n :=
  ⟨e _ _ w.hb, w.hB, e _ _ w.hf, (cutS_mono e).dpa w.hd, w.hS.trans (cutS_mono e), cutS_mono e _ _ w.h9⟩
theorem WSt.push {K : PySem.W.Frag} {b p7 p9 : Addr} {H3 : Hp} {ls fs : List V} {ds : List PyData} {Hc : Hp} {bx : List V} {n : Nat} {v : V} {d : PyData} (w : WSt K b p7 p9 H3 ls fs ds Hc bx n) (n7 : p7 ≠ b) (h : Dp K (cutS [p7, b] Hc) v d) :
    WSt K b p7 p9 H3 ls (fs ++ [v]) (ds ++ [d]) (upd Hc p7 (.lst (fs ++ [v]))) bx n := by
  have e : cutS [p7, b] (upd Hc p7 (.lst (fs ++ [v]))) = cutS [p7, b] Hc := cutS_upd List.mem_cons_self
  exact ⟨by rw [upd_ne n7.symm]; exact w.hb, w.hB, upd_same, by rw [e]; exact dpa_app w.hd (dpa_one h), by rw [e]; exact w.hS, by rw [e]; exact w.h9⟩
theorem WSt.mono {K : PySem.W.Frag} {b p7 p9 : Addr} {H3 : Hp} {ls fs : List V} {ds : List PyData} {Hc : Hp} {bx : List V} {n n' : Nat} (w : WSt K b p7 p9 H3 ls fs ds Hc bx n) (h : n ≤ n') : WSt K b p7 p9 H3 ls fs ds Hc bx n' := ⟨w.hb, w.hB.mono h, w.hf, w.hd, w.hS, w.h9⟩
theorem apart (L r1 r2 : Int) (h1 : 0 ≤ r1) (h2 : r1 < L) (h3 : 0 ≤ r2) (h4 : r2 < L - 1) : 0 ≤ (r1 + 1 + r2) % L ∧ (r1 + 1 + r2) % L < L ∧ (r1 + 1 + r2) % L ≠ r1 := by
  refine ⟨Int.emod_nonneg _ (by omega), Int.emod_lt_of_pos _ (by omega), ?_⟩
  by_cases h : r1 + 1 + r2 < L
  · rw [Int.emod_eq_of_lt (by omega) h]
    omega
  · rw [← Int.sub_emod_right (r1 + 1 + r2) L, Int.emod_eq_of_lt (by omega) (by omega)]
    omega
section
variable {P : Program} {w : World} {K : PySem.W.Frag} {mg : Str → Option Value} {base : Heap}
/-- _law_web(box, size, most, high): a drawn net -/
def spWeb (K : PySem.W.Frag) : Sp := fun vs H Q _ => ∃ (b : Addr) (s m : Nat) (h : Int) (bx : List V) (N : Nat), vs = [.ref b, .int (s : Int), .int (m : Int), .int h] ∧ H b = some (.lst bx) ∧ BoxL bx N ∧ N < 2 ^ 50 ∧ 2 ≤ s ∧ s ≤ 10 ∧ 1 ≤ m ∧ m ≤ 14 ∧ 1 ≤ h ∧ h ≤ 10 ^ 50 ∧
  ∀ (H' : Hp) (v : V) (ws : List Str) (qs : List QD) (bx' : List V), GoodNet s m h ws qs → Dp K (cutS [b] H') v (netD true ws qs) → TupW (cutS [b] H') v (ws.map V.str) → H' b = some (.lst bx') → BoxL bx' (N + 200) → Same (cutS [b] H) (cutS [b] H') → Q v H'
theorem ok_web {f fT fP : Addr} {fd fdT fdP : FuncData} {k : Nat} (F : Fun K "_law_web" "_law_web" s_w_web f fd) (G_w_take : FnOk P w K mg base CX0 k fT fdT ["_law_box_here", "_law_below"] spTake2) (g_w_take : mg "_law_take" = some (.ref fT)) (F_w_take : Fun K "_law_take" "_law_take" s_w_take fT fdT) (b_w_take : Binds K fdT ["_law_box_here", "_law_below"] [])
    (G_w_pick : FnOk P w K mg base CX0 k fP fdP ["_law_box_here", "_law_pool", "_law_size_so"] (spPick K)) (g_w_pick : mg "_law_pick" = some (.ref fP)) (F_w_pick : Fun K "_law_pick" "_law_pick" s_w_pick fP fdP) (b_w_pick : Binds K fdP ["_law_box_here", "_law_pool", "_law_size_so"] [])
    (m_sorted : mg "sorted" = none) (m_len : mg "len" = none) (m_int : mg "int" = none) (m_tuple : mg "tuple" = none) : FnOk P w K mg base CX0 (k + 1) f fd ["_law_box_here", "_law_size_so", "_law_most", "_law_high"] (spWeb K) := by
  refine F.ok sc_w_web (fun vs H Q E h => ?_) (fun cdv A outer s0 H vs Q E hr h => ?_)
  · obtain ⟨b, s, m, h, bx, N, rfl, _⟩ := h
    rfl
  · obtain ⟨b, s, m, h, bx, N, rfl, hb, hB, hN, s1, s2, m1, m2, h1, h2, q⟩ := h
    refine ⟨_, (pss_cons (ps_set (i := 4) sc_w_web.nd rfl (Or.inl rfl) (pe_call G_w_pick hr (by rfl) g_w_pick F_w_pick.kp b_w_pick .nil pass0 (pa_cons (pv 0) (pa_cons (pe_lst (pa_cons pe_str (pa_cons pe_str (pa_cons pe_str (pa_cons pe_str (pa_cons pe_str (pa_cons pe_str (pa_cons pe_str (pa_cons pe_str (pa_cons pe_str (pa_cons pe_str pa_nil))))))))))) (pa_cons (pe_op op_add pe_int (pe_call G_w_take hr (by rfl) g_w_take F_w_take.kp b_w_take .nil pass0 (pa_cons (pv 0) (pa_cons (pe_op op_sub (pv 1) pe_int) pa_nil)))) pa_nil))))) 
    (pss_cons (ps_set (i := 5) sc_w_web.nd rfl (Or.inl rfl) (pe_callB cr_sortedS (by rfl) m_sorted (by decide +kernel) (pa_cons (pe_call G_w_pick hr (by rfl) g_w_pick F_w_pick.kp b_w_pick .nil pass0 (pa_cons (pv 0) (pa_cons (pe_lst (pa_cons pe_str (pa_cons pe_str (pa_cons pe_str (pa_cons pe_str (pa_cons pe_str (pa_cons pe_str (pa_cons pe_str (pa_cons pe_str (pa_cons pe_str (pa_cons pe_str (pa_cons pe_str (pa_cons pe_str (pa_cons pe_str (pa_cons pe_str pa_nil))))))))))))))) (pa_cons (pv 2) pa_nil)))) pa_nil))) 
    (pss_cons (ps_set (i := 6) sc_w_web.nd rfl (Or.inl rfl) (pe_lst pa_nil)) 
    (pss_cons (ps_forX (ps_for PassesOwn.never rfl (pi_list (pe_slice sl_list (pv 5) po_none (po_some (pe_op op_add pe_int (pe_call G_w_take hr (by rfl) g_w_take F_w_take.kp b_w_take .nil pass0 (pa_cons (pv 0) (pa_cons (pv 2) pa_nil))))))) (pg_name (i := 7) sc_w_web.nd rfl (Or.inl rfl)) 
      (pss_cons (ps_set (i := 8) sc_w_web.nd rfl (Or.inl rfl) (pe_call G_w_take hr (by rfl) g_w_take F_w_take.kp b_w_take .nil pass0 (pa_cons (pv 0) (pa_cons (pe_callB call_len_seq (by rfl) m_len PySem.boot_len (pa_cons (pv 4) pa_nil)) pa_nil)))) 
      (pss_cons (ps_set (i := 9) sc_w_web.nd rfl (Or.inl rfl) (pe_op op_mod (pe_callTy call_int1 (by rfl) m_int (by decide +kernel) (pa_cons (pe_op op_add (pe_op op_add (pv 8) pe_int) (pe_call G_w_take hr (by rfl) g_w_take F_w_take.kp b_w_take .nil pass0 (pa_cons (pv 0) (pa_cons (pe_op op_sub (pe_callB call_len_seq (by rfl) m_len PySem.boot_len (pa_cons (pv 4) pa_nil)) pe_int) pa_nil)))) pa_nil)) (pe_callB call_len_seq (by rfl) m_len PySem.boot_len (pa_cons (pv 4) pa_nil)))) 
      (Evl.pss_cut (ps_if (PW.pt (pw_and (pt_cmpR op_gt (pv 8) (pv 9) (nomark _)) (pw_and1 (pt_cmpR op_gt (pe_call G_w_take hr (by rfl) g_w_take F_w_take.kp b_w_take .nil pass0 (pa_cons (pv 0) (pa_cons pe_int pa_nil))) pe_int (nomark _))))) (pss_one (ps_par (i := 8) (j := 9) (by rfl) sc_w_web.nd rfl rfl (by decide) rfl rfl (pa_cons (pv 9) (pa_cons (pv 8) pa_nil)) (by rfl))) pss_nil) 
      (pss_cons (ps_set (i := 10) sc_w_web.nd rfl (Or.inl rfl) (pe_op op_add pe_int (pe_call G_w_take hr (by rfl) g_w_take F_w_take.kp b_w_take .nil pass0 (pa_cons (pv 0) (pa_cons (pv 3) pa_nil))))) 
      (pss_one (ps_expr (pe_bm PySem.F.plainAttrs_list PySem.F.slot_list_append PySem.F.type_list_append mt_append (pv 6) (pa_cons (pe_tup (pa_cons (pv 7) (pa_cons (pe_ix ix_list (pv 4) (pv 8) (fun _ _ => rfl)) (pa_cons (pe_ix ix_list (pv 4) (pv 9) (fun _ _ => rfl)) (pa_cons (pv 10) (pa_cons (pe_op op_add pe_int (pe_call G_w_take hr (by rfl) g_w_take F_w_take.kp b_w_take .nil pass0 (pa_cons (pv 0) (pa_cons (pv 10) pa_nil)))) pa_nil)))))) pa_nil)))))))))) 
    (pss_one (ps_ret (pe_tup (pa_cons (pe_callTy call_tupF (by rfl) m_tuple (by decide +kernel) (pa_cons (pe_callB cr_sortedS (by rfl) m_sorted (by decide +kernel) (pa_cons (pv 4) pa_nil)) pa_nil)) (pa_cons (pe_callTy call_tuple_of (by rfl) m_tuple (by decide +kernel) (pa_cons (pv 6) pa_nil)) pa_nil))))))))), ?_⟩
    have t0 : Trk [b] H := Trk.cons Trk.nil hb
    walk_at "ev"
    intro p1 hp1
    have n1 : p1 ≠ b := fun z => by
      rw [z, hb] at hp1
      cases hp1
    have hb1 : (upd H p1 (.lst (poolW.map V.str))) b = some (.lst bx) := (Same.upd hp1) _ _ hb
    have hS1 : Same (cutS [b] H) (cutS [b] (upd H p1 (.lst (poolW.map V.str)))) := cutS_mono (.upd hp1)
    have hq1 : (upd H p1 (.lst (poolW.map V.str))) p1 = some (.lst (poolW.map V.str)) := upd_same
    show tCons _ _ _ (upd H p1 (.lst (poolW.map V.str))) _
    generalize upd H p1 (.lst (poolW.map V.str)) = H1 at hb1 hS1 hq1 ⊢
    walk_at "ev"
    refine ⟨b, (s : Int) - 1, bx, N, rfl, hb1, hB, by omega, by omega, small8000 (by omega), fun r bx1 r0 r1 hB1 => ?_⟩
    walk_at "ev"
    have hb2 : (upd H1 b (.lst bx1)) b = some (.lst bx1) := upd_same
    have hq2 : (upd H1 b (.lst bx1)) p1 = some (.lst (poolW.map V.str)) := by
      rw [upd_ne n1]
      exact hq1
    have hS2 : Same (cutS [b] H) (cutS [b] (upd H1 b (.lst bx1))) := by
      rw [cutS_upd List.mem_cons_self]
      exact hS1
    refine ⟨b, p1, 2 + r, bx1, N + 1, poolW, rfl, hb2, hB1, by show N + 1 + 10 < 2 ^ 60; omega, sql_of hq2, by decide, by omega, by omega, fun H3 p3 ts rs bx3 hperm hlen hp3 hq3 hb3 hB3 hS3 => ?_⟩
    have tl : ts.length = (2 + r).toNat := by
      rw [hlen]
      show min _ 10 = _
      omega
    have hS3' := hS2.trans hS3
    have n3 : p3 ≠ b := fun z => by
      rw [z, hb2] at hp3
      cases hp3
    have htn : ts.Nodup ∧ ∀ x ∈ ts, x ∈ poolW := by
      have hn : (ts ++ rs).Nodup := hperm.nodup_iff.mpr (by decide +kernel)
      exact ⟨(List.nodup_append.mp hn).1, fun x hx => hperm.mem_iff.mp (List.mem_append_left _ hx)⟩
    have hB3' : BoxL bx3 (N + 20) := hB3.mono (by omega)
    clear hlen hperm hB3 hS3 hB1 hB hq2 hq1 hb1 hS1 hS2 hp3 hb2
    show gName 4 (.ref p3) _ H3 _
    clear hp1 n1
    have hT3 : cutS [b] H3 p3 = some (.lst (ts.map V.str)) := cutS_at hq3 (not1 n3)
    have t3 : Trk [b] H3 := Trk.cons Trk.nil hb3
    walk_at "ev"
    intro p4 hp4
    have n4 : p4 ≠ b := fun z => by
      rw [z, hb3] at hp4
      cases hp4
    have hb4 : (upd H3 p4 (.lst (poolQ.map V.str))) b = some (.lst bx3) := (Same.upd hp4) _ _ hb3
    have hS4 : Same (cutS [b] H3) (cutS [b] (upd H3 p4 (.lst (poolQ.map V.str)))) := cutS_mono (.upd hp4)
    have hq4 : (upd H3 p4 (.lst (poolQ.map V.str))) p4 = some (.lst (poolQ.map V.str)) := upd_same
    show tCons _ _ _ (upd H3 p4 (.lst (poolQ.map V.str))) _
    generalize upd H3 p4 (.lst (poolQ.map V.str)) = H4 at hb4 hS4 hq4 ⊢
    walk_at "ev"
    refine ⟨b, p4, (m : Int), bx3, N + 20, poolQ, rfl, hb4, hB3', by show N + 20 + 14 < 2 ^ 60; omega, sql_of hq4, by decide, by omega, by omega, fun H5 p5 ms rs2 bx5 hperm2 hlen2 hp5 hq5 hb5 hB5 hS5 => ?_⟩
    have ml : ms.length = m := by
      rw [hlen2]
      show min _ 14 = _
      omega
    have hS5' := hS4.trans hS5
    have hmn : ms.Nodup ∧ ∀ x ∈ ms, x ∈ poolQ := by
      have hn : (ms ++ rs2).Nodup := hperm2.nodup_iff.mpr (by decide +kernel)
      exact ⟨(List.nodup_append.mp hn).1, fun x hx => hperm2.mem_iff.mp (List.mem_append_left _ hx)⟩
    have hB5' : BoxL bx5 (N + 40) := hB5.mono (by omega)
    clear hlen2 hperm2 hB5 hS5 hq4 hb4 hS4 hp5
    walk_at "ev"
    refine ⟨p5, ms, rfl, sql_of hq5, by omega, fun zs p6 hz1 hz2 hp6 => ?_⟩
    have zl : zs.length = m := by rw [hz1.length_eq, ml]
    have hzn : zs.Nodup ∧ ∀ x ∈ zs, x ∈ poolQ := ⟨hz1.nodup_iff.mpr hmn.1, fun x hx => hmn.2 x (hz1.mem_iff.mp hx)⟩
    have hb6 : (upd H5 p6 (.lst (zs.map V.str))) b = some (.lst bx5) := (Same.upd hp6) _ _ hb5
    have hS6 : Same (cutS [b] H3) (cutS [b] (upd H5 p6 (.lst (zs.map V.str)))) := hS5'.trans (cutS_mono (.upd hp6))
    have hq6 : (upd H5 p6 (.lst (zs.map V.str))) p6 = some (.lst (zs.map V.str)) := upd_same
    have n6 : p6 ≠ b := fun z => by
      rw [z, hb5] at hp6
      cases hp6
    clear hmn hz1 hq5 hp6 hS5' ml
    show gName 5 (.ref p6) _ (upd H5 p6 (.lst (zs.map V.str))) _
    generalize upd H5 p6 (.lst (zs.map V.str)) = H6 at hb6 hS6 hq6 ⊢
    clear hb5 hp4 n4
    walk_at "ev"
    intro p7 hp7
    have n7 : p7 ≠ b := fun z => by
      rw [z, hb6] at hp7
      cases hp7
    have hb7 : (upd H6 p7 (.lst [])) b = some (.lst bx5) := (Same.upd hp7) _ _ hb6
    have hq7 : (upd H6 p7 (.lst [])) p7 = some (.lst []) := upd_same
    have hS7 : Same (cutS [b] H3) (cutS [p7, b] (upd H6 p7 (.lst []))) := hS6.trans (cutS_cons hp7)
    have hM7 : cutS [p7, b] (upd H6 p7 (.lst [])) p6 = some (.lst (zs.map V.str)) := (cutS_cons (S := [b]) (o := .lst []) hp7) _ _ (cutS_at hq6 (not1 n6))
    show gName 6 (.ref p7) _ (upd H6 p7 (.lst [])) _
    generalize upd H6 p7 (.lst []) = H7 at hb7 hS7 hq7 hM7 ⊢
    clear hb6 hS6 hq6 hp7
    refine for_of ?_
    walk_at "ev"
    refine ⟨b, (m : Int), bx5, N + 40, rfl, hb7, hB5', by omega, by omega, small8000 (by omega), fun r8 bx8 r80 r81 hB8 => ?_⟩
    have hq8 : (upd H7 b (.lst bx8)) p7 = some (.lst []) := by
      rw [upd_ne n7]
      exact hq7
    have hb8 : (upd H7 b (.lst bx8)) b = some (.lst bx8) := upd_same
    have eS8 : cutS [p7, b] (upd H7 b (.lst bx8)) = cutS [p7, b] H7 := cutS_upd (List.mem_cons_of_mem _ List.mem_cons_self)
    rw [← eS8] at hS7 hM7
    generalize upd H7 b (.lst bx8) = H8 at hb8 hS7 hq8 hM7 ⊢
    clear hb7 hq7 eS8 hB5'
    have hSl8 : SqL K H8 p6 (zs.map V.str) := sql_of (cutS_le _ _ hM7)
    walk_at "ev"
    intro p9 hp9
    obtain ⟨k, hk⟩ : ∃ k : Nat, 1 + r8 = (k : Int) := ⟨(1 + r8).toNat, by omega⟩
    rw [hk, cutV_map]
    have kl : k ≤ zs.length := by omega
    have w0 : WSt K b p7 p9 H3 ((zs.take k).map V.str) [] [] (upd H8 p9 (.lst ((zs.take k).map V.str))) bx8 (N + 41) :=
      ⟨(Same.upd hp9) _ _ hb8, hB8, (Same.upd hp9) _ _ hq8, .nil, hS7.trans (cutS_mono (.upd hp9)), cutS_new (Trk.cons (Trk.cons Trk.nil hb8) hq8) hp9⟩
    generalize upd H8 p9 (.lst ((zs.take k).map V.str)) = H9 at w0 ⊢
    clear hp9 hb8 hS7 hq8 hM7 hSl8 hB8
    refine ⟨p9, rfl, ⟨_, sql_of (cutS_le _ _ w0.h9)⟩, ?_⟩
    refine forR_it (walk_list (K := K) (a := p9) (xs := (zs.take k).map V.str)) (fun i σ Hc => ∃ (x7 x8 x9 x10 : Option V) (fs : List V) (qs : List QD) (bxc : List V), σ = [some (.ref b), some (.int (s : Int)), some (.int (m : Int)), some (.int h), some (.ref p3), some (.ref p6), some (.ref p7), x7, x8, x9, x10] ∧
        WSt K b p7 p9 H3 ((zs.take k).map V.str) fs (qs.map (QD.d true)) Hc bxc (N + 41 + 6 * i) ∧ qs.map QD.nm = zs.take i ∧ qs.length = i ∧ ∀ q ∈ qs, q.st ∈ ts ∧ q.en ∈ ts ∧ q.st ≠ q.en ∧ 1 ≤ q.gap ∧ q.gap ≤ q.room ∧ q.room ≤ h)
      ⟨_, _, _, _, [], [], bx8, rfl, w0, rfl, rfl, fun _ hx => absurd hx List.not_mem_nil⟩ (fun i σ Hc _ hh => ?_) (fun i v σ Hc Hc' hi hh y => ?_) (fun σ Hc hh => ?_)
    · obtain ⟨_, _, _, _, _, _, _, _, hw, _⟩ := hh
      exact sql_of (cutS_le _ _ hw.h9)
    · obtain ⟨x7, x8, x9, x10, fs, qs, bxc, rfl, hw, hqn, hql, hqq⟩ := hh
      obtain ⟨rfl, hv⟩ := y
      rw [List.length_map, List.length_take, Nat.min_eq_left kl] at hi
      have hzi : i < zs.length := by omega
      have ev : v = .str zs[i] := by
        rw [List.getElem?_map, List.getElem?_take_of_lt hi, List.getElem?_eq_getElem hzi] at hv
        exact (Option.some.inj hv).symm
      subst ev
      have hTc : SqL K Hc' p3 (ts.map V.str) := sql_of (cutS_le _ _ (hw.hS _ _ hT3))
      have hTl : (ts.map V.str).length = ts.length := List.length_map ..
      walk_at "ev"
      refine ⟨b, _, bxc, _, rfl, hw.hb, hw.hB, by omega, by omega, small8000 (by omega), fun r1 bx1 r10 r11 hB1 => ?_⟩
      have w1 := hw.take n7 hB1
      have hT1 : SqL K _ p3 (ts.map V.str) := sql_of (cutS_le _ _ (w1.hS _ _ hT3))
      generalize upd Hc' b (.lst bx1) = Ha at w1 hT1 ⊢
      walk_at "ev"
      refine ⟨b, _, bx1, _, rfl, w1.hb, w1.hB, by omega, by omega, small8000 (by omega), fun r2 bx2 r20 r21 hB2 => ?_⟩
      have w2 := w1.take n7 hB2
      have hT2 : SqL K _ p3 (ts.map V.str) := sql_of (cutS_le _ _ (w2.hS _ _ hT3))
      generalize upd Ha b (.lst bx2) = Hb at w2 hT2 ⊢
      clear hw w1 hTc hT1 hB1 hB2
      walk_at "ev"
      obtain ⟨ap1, ap2, ap3⟩ := apart (ts.map V.str).length r1 r2 r10 r11 r20 r21
      refine ⟨fun σ Hd => ∃ (o t : Nat) (x10' : Option V) (bxd : List V), σ = [some (.ref b), some (.int (s : Int)), some (.int (m : Int)), some (.int h), some (.ref p3), some (.ref p6), some (.ref p7), some (.str zs[i]), some (.int (o : Int)), some (.int (t : Int)), x10'] ∧
        o < ts.length ∧ t < ts.length ∧ o ≠ t ∧ WSt K b p7 p9 H3 ((zs.take k).map V.str) fs (qs.map (QD.d true)) Hd bxd (N + 41 + 6 * i + 1 + 1 + 1), ?_, ?_⟩
      · walk_at "ev"
        obtain ⟨o, rfl⟩ : ∃ o : Nat, r1 = (o : Int) := ⟨r1.toNat, by omega⟩
        obtain ⟨t, ht⟩ : ∃ t : Nat, ((o : Int) + 1 + r2) % ((ts.map V.str).length : Int) = (t : Int) := ⟨(((o : Int) + 1 + r2) % ((ts.map V.str).length : Int)).toNat, by omega⟩
        rw [ht] at ap1 ap2 ap3
        refine ite2 (fun e => ?_) (fun e => ?_)
        · walk_at "ev"
          refine ⟨b, _, bx2, _, rfl, w2.hb, w2.hB, by omega, by omega, small8000 (by omega), fun r3 bx3' r30 r31 hB3 => ?_⟩
          have w3 := w2.take n7 hB3
          walk_at "ev"
          refine ite2 (fun e2 => ?_) (fun e2 => ?_)
          · walk_at "ev"
            exact ⟨t, o, _, bx3', by rw [← ht]; rfl, by omega, by omega, by omega, w3⟩
          · exact ⟨o, t, _, bx3', by rw [← ht]; rfl, by omega, by omega, by omega, w3⟩
        · refine iteF ?_
          exact ⟨o, t, _, bx2, by rw [← ht]; rfl, by omega, by omega, by omega, ⟨w2.hb, w2.hB.mono (by omega), w2.hf, w2.hd, w2.hS, w2.h9⟩⟩
      · rintro σ Hd ⟨o, t, x10', bxd, rfl, ho, ht, hot, w3⟩
        walk_at "ev"
        refine ⟨b, h, bxd, _, rfl, w3.hb, w3.hB, by omega, by omega, small8000 (by omega), fun r5 bx5' r50 r51 hB5 => ?_⟩
        have w5 := w3.take n7 hB5
        have hT5 : SqL K _ p3 (ts.map V.str) := sql_of (cutS_le _ _ (w5.hS _ _ hT3))
        have hF5 : SqL K _ p7 fs := sql_of w5.hf
        generalize upd Hd b (.lst bx5') = He at w5 hT5 hF5 ⊢
        walk_at "ev"
        have a1 : atI (ts.map V.str) (o : Int) = some (.str ts[o]) := at_of rfl (by rw [List.getElem?_map, List.getElem?_eq_getElem ho]; rfl)
        have a2 : atI (ts.map V.str) (t : Int) = some (.str ts[t]) := at_of rfl (by rw [List.getElem?_map, List.getElem?_eq_getElem ht]; rfl)
        refine ⟨_, _, _, _, rfl, rfl, hT5, a1, ?_⟩
        walk_at "ev"
        refine ⟨_, _, _, _, rfl, rfl, hT5, a2, ?_⟩
        walk_at "ev"
        refine ⟨b, 1 + r5, bx5', _, rfl, w5.hb, w5.hB, by omega, by omega, small8000 (by omega), fun r6 bx6' r60 r61 hB6 => ?_⟩
        have w6 := w5.take n7 hB6
        generalize upd He b (.lst bx6') = Hf at w6 ⊢
        walk_at "ev"
        intro pt hpt
        have w7 := w6.same (.upd (o := .tup [V.str zs[i], V.str ts[o], V.str ts[t], V.int (1 + r5), V.int (1 + r6)]) hpt)
        have hpt2 : cutS [p7, b] (upd Hf pt (.tup [V.str zs[i], V.str ts[o], V.str ts[t], V.int (1 + r5), V.int (1 + r6)])) pt = some (.tup [V.str zs[i], V.str ts[o], V.str ts[t], V.int (1 + r5), V.int (1 + r6)]) :=
          cutS_new (Trk.cons (Trk.cons Trk.nil w6.hb) w6.hf) hpt
        have fl : fs.length = qs.length := by rw [dpa_len w7.hd, List.length_map]
        have w8 := w7.push n7 (v := .ref pt) (d := QD.d true ⟨zs[i], ts[o], ts[t], 1 + r5, 1 + r6⟩) (.tup (sqt_of hpt2) (.cons (.str _) (.cons (.str _) (.cons (.str _) (.cons (.int _) (.cons (.int _) .nil))))))
        refine ⟨p7, fs, .ref pt, rfl, rfl, w7.hf, sz_lt (by omega), ?_⟩
        refine ⟨_, _, _, _, fs ++ [.ref pt], qs ++ [⟨zs[i], ts[o], ts[t], 1 + r5, 1 + r6⟩], bx6', rfl, ?_, ?_, ?_, ?_⟩
        · rw [List.map_append]
          exact w8.mono (by omega)
        · rw [List.map_append, hqn, List.take_add_one, List.getElem?_eq_getElem hzi]
          rfl
        · rw [List.length_append, hql]
          rfl
        · intro x hx
          rcases List.mem_append.mp hx with hx | hx
          · exact hqq x hx
          · rw [List.mem_singleton.mp hx]
            refine ⟨List.getElem_mem ho, List.getElem_mem ht, fun e => hot (nd_ix htn.1 (List.getElem?_eq_getElem ho) (by rw [List.getElem?_eq_getElem ht]; exact congrArg some e.symm)), by show 1 ≤ 1 + r6; omega, by show 1 + r6 ≤ 1 + r5; omega, by show 1 + r5 ≤ h; omega⟩
    · obtain ⟨x7, x8, x9, x10, fs, qs, bxc, rfl, hw, hqn, hql, hqq⟩ := hh
      rw [List.length_map, List.length_take, Nat.min_eq_left kl] at hw hqn hql
      have hTc : SqL K Hc p3 (ts.map V.str) := sql_of (cutS_le _ _ (hw.hS _ _ hT3))
      walk_at "ev"
      refine ⟨by omega, fun us p10 hu1 hu2 hp10 => ?_⟩
      have w10 := hw.same (.upd (o := .lst (us.map V.str)) hp10)
      refine ⟨p10, _, rfl, sql_of upd_same, fun p11 ob hp11 hoc hod => ?_⟩
      have w11 := w10.same (.upd (o := .frz ob (.tup (us.map V.str))) hp11)
      have n11 : p11 ≠ b := fun z => by
        rw [z, w10.hb] at hp11
        cases hp11
      have g11 : cutS [b] _ p11 = some (.frz ob (.tup (us.map V.str))) := cutS_at (upd_same (H := upd Hc p10 (.lst (us.map V.str))) (a := p11) (o := .frz ob (.tup (us.map V.str)))) (not1 n11)
      generalize upd (upd Hc p10 (.lst (us.map V.str))) p11 (.frz ob (.tup (us.map V.str))) = H11 at w11 g11 ⊢
      walk_at "ev"
      refine ⟨p7, fs, rfl, .inl ⟨sql_of w11.hf, fun p12 hp12 => ?_⟩⟩
      have w12 := w11.same (.upd (o := .tup fs) hp12)
      have n12 : p12 ≠ b := fun z => by
        rw [z, w11.hb] at hp12
        cases hp12
      have g12 : cutS [b] _ p12 = some (.tup fs) := cutS_at (upd_same (H := H11) (a := p12) (o := .tup fs)) (not1 n12)
      have g11' := cutS_mono (S := [b]) (.upd (o := .tup fs) hp12) _ _ g11
      generalize upd H11 p12 (.tup fs) = H12 at w12 g12 g11' ⊢
      walk_at "ev"
      intro p13 hp13
      have w13 := w12.same (.upd (o := .tup [.ref p11, .ref p12]) hp13)
      have n13 : p13 ≠ b := fun z => by
        rw [z, w12.hb] at hp13
        cases hp13
      have e13 : Same (cutS [b] H12) (cutS [b] (upd H12 p13 (.tup [.ref p11, .ref p12]))) := cutS_mono (.upd hp13)
      have htl : ts.length = us.length := hu1.length_eq.symm
      have hus : us.Nodup ∧ ∀ x, x ∈ us ↔ x ∈ ts := ⟨hu1.nodup_iff.mpr htn.1, fun x => hu1.mem_iff⟩
      refine q _ (.ref p13) us qs bxc ⟨hus.1, hu2, by omega, by omega, fun x hx => htn.2 x ((hus.2 x).mp hx), ⟨zs, hzn.1, hz2, hzn.2, k, hqn⟩, by omega, by omega, fun x hx => ?_⟩ ?_ ⟨p13, p11, p12, ob, rfl, cutS_at upd_same (not1 n13), e13 _ _ g11', hoc, hod⟩ w13.hb (w13.hB.mono (by omega)) ?_
      · obtain ⟨q1, q2, q3⟩ := hqq x hx
        exact ⟨(hus.2 _).mpr q1, (hus.2 _).mpr q2, q3⟩
      · exact .tup (sqt_of (cutS_at upd_same (not1 n13))) (.cons (.tup (.inl (.inr ⟨ob, e13 _ _ g11'⟩)) dpa_strs) (.cons (.tup (sqt_of (e13 _ _ g12)) (cutS_tail.dpa w13.hd)) .nil))
      · exact hS3'.trans (w13.hS.trans cutS_tail)
end
end Jl

set_option Elab.async false
set_option linter.all false
set_option maxRecDepth 100000
set_option maxHeartbeats 4000000
set_option pp.maxSteps 900
namespace Jl
open PySem PySem.Spec PyProof.Rows L2
open Evl (sz_of sz_lt)
local macro_rules | `(tactic| walk_at "at") => `(tactic| first | exact box0 | exact box1 | exact box2)
local macro_rules | `(tactic| walk_at "sq") => `(tactic| first | (show SqL _ _ _ _; assumption) | (show SqT _ _ _ _; assumption) | (show _ = some _; assumption))
local macro_rules | `(tactic| walk_at "side") => `(tactic| first
  | (show (0 : Int) < _; decide)
  | (show (0 : Int) < _; omega)
  | exact ⟨by decide, by decide, by decide⟩
  | exact sz_of (Nat.le_of_ble_eq_true rfl)
  | exact rfl
  | exact Or.inl (by decide)
  | exact Or.inr (by decide)
  | exact Or.inr ⟨by omega, by omega⟩
  | exact Or.inl ⟨by omega, by omega⟩
  | exact ⟨by decide, by decide +kernel⟩)
local macro_rules | `(tactic| walk_at "ev1") => `(tactic| first
  | refine ⟨_, rfl, ?_⟩
  | refine ⟨_, _, rfl, rfl, ?_⟩
  | refine ⟨_, _, _, _, rfl, rfl, (by walk_at "sq"), (by walk_at "at"), ?_⟩
  | refine ⟨_, _, rfl, (by walk_at "sq"), ?_⟩
  | refine ⟨_, _, rfl, Or.inl (by walk_at "sq"), ?_⟩
  | refine ⟨_, _, rfl, Or.inr (by walk_at "sq"), ?_⟩
  | refine Or.inl ⟨_, rfl, ?_⟩
  | refine Or.inr ⟨_, rfl, ?_⟩
  | refine ⟨(by walk_at "side"), ?_⟩
  | refine ⟨.inl ⟨rfl, _, (by walk_at "sq")⟩, ?_⟩
  | refine ⟨_, _, rfl, ?_⟩)
local macro_rules | `(tactic| walk_at "nrm") => `(tactic| dsimp only [tNil, tCons, tC, tCB])
local macro_rules | `(tactic| walk_at "ev") => `(tactic| repeat (walk_at "ev1"))

/-! ### dict comprehensions by a walk -/
section
variable {X : Cx}
inductive DcP (wi : TI) (g : TG) (tt : TT) (tk tv : TE) (vs : List Nat) (σ : L2.St) (H : Hp) (Q : VK) : Prop
  | yes (h : tDc wi g tt tk tv vs σ H Q)
  | no (h : False)
def tDcX (wi : TI) (g : TG) (tt : TT) (tk tv : TE) (vs : List Nat) : TE := fun σ H Q => DcP wi g tt tk tv vs σ H Q
theorem pe_dcX {e : Expr} {wi : TI} {g : TG} {tt : TT} {tk tv : TE} {vs : List Nat} (h : PE X e (tDc wi g tt tk tv vs)) : PE X e (tDcX wi g tt tk tv vs) := ⟨fun pins s σ H Q I q => by
  cases q with
  | yes q => exact h.run pins s σ H Q I q
  | no q => exact q.elim⟩
theorem swd_true {kx vx : Expr} {gs : List Comprehension} {scope : Scope} {pos py : Pos} {y : Str} {l : Nat} {env : Env} (h1 : env.scope.kind = .function) (h2 : env.scope.names.lookup y = some .local) (h3 : (py.line == pos.line) = true)
    (h4 : (scope.names.any fun (n, k) => n == y && (k == .local || k == .cell)) = false) : swapsWith (.DictComp kx vx gs scope pos) (some (.Name y py)) l env = pure true := by
  have g1 : env.blockKind = .function := by
    unfold Env.blockKind
    rw [h1]
    rfl
  have g2 : env.kindOf y = some .local := h2
  unfold swapsWith
  simp only [g1, g2, h4, Expr.pos, h3]
  rfl
/-- y = {k: v for ..}: the name is stored within the comprehension's block -/
theorem ps_setDc {i : Nat} {y : Str} {py : Pos} {kx vx tg iter : Expr} {ifs : List Expr} {scope : Scope} {own : List (Str × Nat)} {pos spos : Pos} {wi : TI} {g : TG} {tt : TT} {tk tv : TE} (hc : X.calm = true) (hN : X.N.Nodup) (hy : X.N[i]? = some y) (hyl : X.env.scope.names.lookup y = some .local)
    (hsw : swapsWith (.DictComp kx vx [⟨tg, iter, ifs, 0⟩] scope pos) (some (.Name y py)) spos.line X.env = pure true) (hi : PI X tg iter wi) (ok : BlkOk X.N X.env.scope scope own)
    (hg : ∀ (s : Shared) (H : Hp) (C : Addr) (cl : List (Str × Addr)) (fp : List Addr), PG (X.blk s H scope (compEnvC scope cl C X.env) fp) tg g) (ht : ∀ (s : Shared) (H : Hp) (C : Addr) (cl : List (Str × Addr)) (fp : List Addr), PTs (X.blk s H scope (compEnvC scope cl C X.env) fp) ifs tt)
    (hk : ∀ (s : Shared) (H : Hp) (C : Addr) (cl : List (Str × Addr)) (fp : List Addr), PE (X.blk s H scope (compEnvC scope cl C X.env) fp) kx tk)
    (he : ∀ (s : Shared) (H : Hp) (C : Addr) (cl : List (Str × Addr)) (fp : List Addr), PE (X.blk s H scope (compEnvC scope cl C X.env) fp) vx tv) (hs : ∀ x, foldedSetIterable iter X.env x = pure x := by intro _; rfl) :
    PS X (.Assign [.Name y py] (.DictComp kx vx [⟨tg, iter, ifs, 0⟩] scope pos) spos) (tAsg (tDc wi g tt tk tv (own.map (·.2))) (gName i)) := ⟨fun pins s σ H D I h => by
  rw [exec_Assign_Name_used _ _ _ _ hsw]
  have h' : tDc wi g tt tk tv (own.map (·.2)) σ H (fun x H1 => gName i x σ H1 D.nx) := h
  have core := dc_core (pos := pos) (pos' := firstIterPos [⟨tg, iter, ifs, 0⟩] pos) (use := some (assign (.Name y py) X.env)) (Qf := fun _ s' => SP X pins D .next s') hc hN I hi ok hg ht hk he hs h' (fun L C s' m H' I' q hn f => by
    obtain ⟨f0, f1, f2, f3, f4, f5⟩ := f
    show wpAny _ _ (assign (.Name y py) X.env (.ref L)) _ _ _
    exact wpAny_assign_Name (store_ok2 (v := V.ref L) I' hN hy (.inl hyl) rfl (fun s2 I2 ⟨a, sb, ha⟩ => ⟨m, hn.sameBut sb (by
      rcases ha with z | z
      · rw [z]
        exact f1
      · exact fun e => f4 y a z e.symm), fun h3 sb3 => ⟨_, H', I2.turned (t' := s2.toks) (fun b o hb e => (sb3.2 b hb).trans e) f0 f1 f3 f4 f5, q⟩⟩) (.inr hyl)))
  exact wpAny_bind (wpAny_standAt (wpAny_bind (wpAny_bind (thn core fun _ s' hq => wpAny_pure (wpAny_pure hq)))))⟩
theorem ps_setDcX {st : Stmt} {i : Nat} {wi : TI} {g : TG} {tt : TT} {tk tv : TE} {vs : List Nat} (h : PS X st (tAsg (tDc wi g tt tk tv vs) (gName i))) : PS X st (tAsg (tDcX wi g tt tk tv vs) (gName i)) := ⟨fun pins s σ H D I q => by
  have q : DcP wi g tt tk tv vs σ H (fun x H1 => gName i x σ H1 D.nx) := q
  cases q with
  | yes q => exact h.run pins s σ H D I q
  | no q => exact q.elim⟩
theorem dc_of {wi : TI} {g : TG} {tt : TT} {tk tv : TE} {vs : List Nat} {σ : L2.St} {H : Hp} {Q : VK} (q : tDc wi g tt tk tv vs σ H Q) : tDcX wi g tt tk tv vs σ H Q := .yes q
end
/-- {x: f x for x in a row of texts} -/
theorem dc_strs {K : PySem.W.Frag} {tl tk tv : TE} {j : Nat} {vs : List Nat} {σ : L2.St} {H H0 : Hp} {Q : VK} {a : Addr} {fb : Bool} {xs : List Str} (f : Str → V) (hn : xs.Nodup)
    (ht : ∀ R' : VK, R' (.ref a) H0 → tl σ H R') (hs : SqF fb K H0 a (xs.map V.str)) (hl : xs.length ≤ 1000) (hw : ∀ x, wipe ((wipe σ vs).set j (some x)) vs = wipe σ vs)
    (hk : ∀ (x : Str) (H1 : Hp) (Q' : VK), Q' (.str x) H1 → tk ((wipe σ vs).set j (some (.str x))) H1 Q') (hv : ∀ (x : Str) (H1 : Hp) (Q' : VK), Q' (f x) H1 → tv ((wipe σ vs).set j (some (.str x))) H1 Q')
    (q : ∀ D, H0 D = none → Q (.ref D) (upd H0 D (.dK (xs.map fun x => (.inr x, f x))))) : tDcX (iSeq K tl) (gName j) tYes tk tv vs σ H Q := by
  refine dc_of ?_
  refine iSeq_at ht hs fun J w D hD => ?_
  refine ⟨fun i m H1 => m = xs.length - i ∧ i ≤ xs.length ∧ H1 = upd H0 D (.dK ((xs.take i).map fun x => (.inr x, f x))), ⟨_, rfl, Nat.zero_le _, rfl⟩, fun i m H1 hW => ?_⟩
  obtain ⟨rfl, hi, rfl⟩ := hW
  have hG : SqF fb K (upd H0 D (.dK ((xs.take i).map fun x => (.inr x, f x)))) a (xs.map V.str) := (Same.upd hD).sqF hs
  have hxl : (xs.map V.str).length = xs.length := List.length_map ..
  by_cases hlt : i < xs.length
  · refine .inr ⟨w.goes i _ (by omega) hG, fun H2 => H2 = upd H0 D (.dK ((xs.take (i + 1)).map fun x => (.inr x, f x))), fun H2 e => ⟨xs.length - (i + 1), by omega, rfl, hlt, e⟩, fun x H2 y => ?_⟩
    obtain ⟨rfl, hx⟩ := w.yields i _ x H2 (by omega) hG y
    rw [List.getElem?_map, List.getElem?_eq_getElem hlt] at hx
    cases hx
    refine ⟨hw _, ?_⟩
    dsimp only [tYes]
    rw [if_pos rfl]
    refine hk _ _ _ (hv _ _ _ ⟨_, .inr xs[i], rfl, upd_same, ?_, ?_⟩)
    · rw [List.length_map, List.length_take]
      exact sz_lt (by omega)
    · rw [upd_upd, List.take_add_one, List.getElem?_eq_getElem hlt, List.map_append, putK_new]
      · rfl
      · have hno : ∀ ys : List Str, xs[i] ∉ ys → valV (ys.map fun x => ((.inr x : Key), f x)) (.inr xs[i]) = none := by
          intro ys
          induction ys with
          | nil => exact fun _ => rfl
          | cons y ys ih =>
            intro hy
            rw [List.map_cons, valV_neg (fun e => hy (by rw [← Sum.inr.inj e]; exact List.mem_cons_self))]
            exact ih fun h => hy (List.mem_cons_of_mem _ h)
        refine hno _ fun hm => ?_
        obtain ⟨k, hk1, hk2⟩ := List.mem_take_iff_getElem.mp hm
        have := nd_ix hn (List.getElem?_eq_getElem hlt) (by rw [List.getElem?_eq_getElem (show k < xs.length by omega)]; exact congrArg some hk2)
        omega
  · have e : i = xs.length := by omega
    subst e
    refine .inl ⟨?_, ?_⟩
    · have := w.stops _ hG
      rw [hxl] at this
      exact this
    · rw [List.take_length]
      exact q D hD
/-- tuple(x) of a list or a tuple -/
def rTupOf (K : PySem.W.Frag) : List V → Hp → VK → Prop := fun xs H Q => ∃ p ys, xs = [.ref p] ∧ ((SqL K H p ys ∧ ∀ l, H l = none → Q (.ref l) (upd H l (.tup ys))) ∨ (SqT K H p ys ∧ Q (.ref p) H))
theorem call_tup_of {X : Cx} : CallR X (.type "tuple") (rTupOf X.K) := call_tuple_of
/-! ### sorted of data -/
def rSortD (K : PySem.W.Frag) : List V → Hp → VK → Prop := fun vs H Q => ∃ (a : Addr) (bs : List (V × PyData)), vs = [.ref a] ∧ SqL K H a (bs.map (·.1)) ∧ (∀ b ∈ bs, Dp K H b.1 b.2) ∧ PySem.W.AllAlike (bs.map (·.2)) ∧ PySem.W.Sortable (bs.map (·.2)) ∧ (∀ b ∈ bs, b.2.depth ≤ 30) ∧
  ∀ p, H p = none → Q (.ref p) (upd H p (.lst ((bs.mergeSort (PySem.W.dataLe false (·.2))).map (·.1))))
section
variable {X : Cx}
theorem each_vals : ∀ {us : List Value} {bs : List (V × PyData)}, Vals (bs.map (·.1)) us → PySem.W.EachIs (fun u b => RelV b.1 u) us bs
  | _, [], .nil => .nil
  | _, _ :: _, .cons r t => .cons r (each_vals t)
theorem vals_each : ∀ {us : List Value} {bs : List (V × PyData)}, PySem.W.EachIs (fun u b => RelV b.1 u) us bs → Vals (bs.map (·.1)) us
  | _, _, .nil => .nil
  | _, _, .cons r t => .cons r (vals_each t)
theorem cr_sortedD (hc : X.calm = true) (hu : X.A.units + 64 < cLine) : CallR X (.builtin "sorted") (rSortD X.K) := by
  intro pins s σ H vs us Q I r h
  obtain ⟨a, bs, rfl, hs, hd, hal, hso, hdp, q⟩ := h
  obtain ⟨its, rv, hl, hz⟩ := I.list hs
  rw [Vals.ref1 r]
  have he := each_vals rv
  have hr : ∀ (us : List Value) (bs : List (V × PyData)), (∀ b ∈ bs, Dp X.K H b.1 b.2) → PySem.W.EachIs (fun u b => RelV b.1 u) us bs → PySem.W.EachIs (fun u b => ∃ as, Reads s.heap u b.2 as) us bs := by
    intro us bs hd he
    induction he with
    | nil => exact .nil
    | @cons u b us bs h1 h2 ih => exact .cons (Dp.reads I b.2 b.1 u (hd b List.mem_cons_self) h1) (ih fun b hb => hd b (List.mem_cons_of_mem _ hb))
  have hlen : bs.length = its.length := by have := rv.length; rw [List.length_map] at this; exact this
  refine PySem.W.sorted_data (enc := (·.2)) hl.isList he (hr _ _ hd he) hal hso (by rw [List.length_map] at hz; exact hz) (fun b hb => by have := hdp b hb; omega) fun out hol ho => ?_
  obtain ⟨ep, he'⟩ := PyProof.Rows.sortedAll_at s.heap its out.toArray
  have hlen2 : ((bs.mergeSort (PySem.W.dataLe false (·.2))).map (·.1)).length ≤ sizeLine := by
    rw [List.length_map, List.length_mergeSort]
    rw [List.length_map] at hz
    exact hz
  exact ⟨.ref _, upd H (s.heap.objs.size + 1) (.lst _), I.laid (t' := s.toks) (fun _ _ => PyProof.Rows.sortedAll_old) (Nat.le_succ _) ⟨hlen2, out, ep, vals_each ho, he'⟩, rfl, q _ (I.hok.fresh (Nat.le_succ _))⟩
end
end Jl

set_option Elab.async false
set_option linter.all false
set_option maxRecDepth 100000
set_option maxHeartbeats 4000000
set_option pp.maxSteps 900
namespace Jl
open PySem PySem.Spec PyProof.Rows L2
open Evl (sz_of sz_lt)
local macro_rules | `(tactic| walk_at "at") => `(tactic| first | exact box0 | exact box1 | exact box2)
local macro_rules | `(tactic| walk_at "sq") => `(tactic| first | (show SqL _ _ _ _; assumption) | (show SqT _ _ _ _; assumption) | (show _ = some _; assumption))
local macro_rules | `(tactic| walk_at "side") => `(tactic| first
  | (show (0 : Int) < _; decide)
  | (show (0 : Int) < _; omega)
  | exact ⟨by decide, by decide, by decide⟩
  | exact sz_of (Nat.le_of_ble_eq_true rfl)
  | exact rfl
  | exact Or.inl (by decide)
  | exact Or.inr (by decide)
  | exact Or.inr ⟨by omega, by omega⟩
  | exact Or.inl ⟨by omega, by omega⟩
  | exact ⟨by decide, by decide +kernel⟩)
local macro_rules | `(tactic| walk_at "ev1") => `(tactic| first
  | refine ⟨_, rfl, ?_⟩
  | refine ⟨_, _, rfl, rfl, ?_⟩
  | refine ⟨_, _, _, _, rfl, rfl, (by walk_at "sq"), (by walk_at "at"), ?_⟩
  | refine ⟨_, _, rfl, (by walk_at "sq"), ?_⟩
  | refine ⟨_, _, rfl, Or.inl (by walk_at "sq"), ?_⟩
  | refine ⟨_, _, rfl, Or.inr (by walk_at "sq"), ?_⟩
  | refine Or.inl ⟨_, rfl, ?_⟩
  | refine Or.inr ⟨_, rfl, ?_⟩
  | refine ⟨(by walk_at "side"), ?_⟩
  | refine ⟨.inl ⟨rfl, _, (by walk_at "sq")⟩, ?_⟩
  | refine ⟨_, _, rfl, ?_⟩)
local macro_rules | `(tactic| walk_at "nrm") => `(tactic| dsimp only [tNil, tCons, tC, tCB])
local macro_rules | `(tactic| walk_at "ev") => `(tactic| repeat (walk_at "ev1"))

theorem vals_app : ∀ {vs : List V} {us : List Value} {zs : List V} {ws : List Value}, Vals vs us → Vals zs ws → Vals (vs ++ zs) (us ++ ws)
  | _, _, _, _, .nil, h => h
  | _, _, _, _, .cons r t, h => .cons r (vals_app t h)
section
variable {X : Cx} {CX : CXT} {k : Nat} {f : Addr} {fd : FuncData} {ps ks : List Str} {sp : Sp} {E : XK} {x : Str} {p pos : Pos} {kws : List Keyword} {tk : TA} {g : List Value → List Value → List Value} {gV : List V → List V → List V}
def tCallK0 (sp : Sp) (gV : List V → List V → List V) (E : XK) (tk : TA) : TE := fun σ H Q => tk σ H fun zs H2 => sp (gV [] zs) H2 Q E
/-- f(k = e, ..), nothing by position -/
theorem pe_callK0 (F : FnOk X.prog X.w X.K X.mg X.base CX k f fd ps sp) (hr : Room k X.A) (hg : Gl X x) (hm : X.mg x = some (.ref f)) (hk : PySem.W.keepIn X.K (.ref f) = true) (hb : KBinds X.K fd ps ks g gV) (hx : Passes CX X E)
    (hkw : PK X kws tk) (hall : (backToKw pos (keywordEach kws X.env)).all (·.1.isSome) = true := by rfl) (hks : (backToKw pos (keywordEach kws X.env)).filterMap (·.1) = ks := by rfl)
    (hdb : (x == ("__debug__" : Str)) = false := by decide) (hpl : ((backTo pos (starEach [] X.env)).any (·.1) || (backToKw pos (keywordEach kws X.env)).any (·.1.isNone)) = false := by rfl) :
    PE X (.Call (.Name x p) [] kws pos) (tCallK0 sp gV E tk) := by
  refine ⟨fun pins s σ H Q I h => ?_⟩
  refine wpAny_Call_Name_kw (ld_glob I hg hm ?_ hdb)
  refine PySem.W.callWith_KW0 (h₀ := X.base) I.ok.mod.kin hk hall (thn (hkw.run pos pins s σ H _ I h) fun ws s2 ⟨zs, H2, I2, rz, q2⟩ => ⟨I2.kIn, ?_⟩) hpl
  rw [hks]
  exact run_fnk (us := []) (vs := []) F hr hb hx I2 .nil rz q2
end
/-! ### data of nets: shape, depth -/
theorem canAll : ∀ {ds : List PyData}, (∀ d ∈ ds, d.canLay0 = true) → PyData.canLayAll0 ds = true
  | [], _ => by simp [PyData.canLayAll0]
  | d :: ds, h => by
    rw [PyData.canLayAll0, h d List.mem_cons_self, canAll fun e he => h e (List.mem_cons_of_mem _ he)]
    rfl
theorem depAll {n : Nat} : ∀ {ds : List PyData}, (∀ d ∈ ds, d.depth ≤ n) → PyData.depthAll ds ≤ n
  | [], _ => by simp [PyData.depthAll]
  | d :: ds, h => by
    rw [PyData.depthAll]
    exact Nat.max_le.mpr ⟨h d List.mem_cons_self, depAll fun e he => h e (List.mem_cons_of_mem _ he)⟩
theorem poolW_ok : ∀ x ∈ poolW, PyData.strOk x = true := by decide +kernel
theorem poolQ_ok : ∀ x ∈ poolQ, PyData.strOk x = true := by decide +kernel
theorem GoodNet.nm_ok {s m : Nat} {h : Int} {ws : List Str} {qs : List QD} (g : GoodNet s m h ws qs) : ∀ q ∈ qs, PyData.strOk q.nm = true := fun q hq => by
  obtain ⟨l, _, _, hl, k, e⟩ := g.qn
  have : q.nm ∈ l.take k := by
    rw [← e]
    exact List.mem_map.mpr ⟨q, hq, rfl⟩
  exact poolQ_ok _ (hl _ (List.mem_of_mem_take this))
theorem can_seq {f : Bool} {ds : List PyData} (h : ∀ d ∈ ds, d.canLay0 = true) : (seqD f ds).canLay0 = true := by
  cases f with
  | true =>
    show (PyData.tuple ds).canLay0 = true
    rw [PyData.canLay0]
    exact canAll h
  | false =>
    show (PyData.list ds).canLay0 = true
    rw [PyData.canLay0]
    exact canAll h
theorem dep_seq {f : Bool} {n : Nat} {ds : List PyData} (h : ∀ d ∈ ds, d.depth ≤ n) : (seqD f ds).depth ≤ n + 1 := by
  cases f with
  | true =>
    show (PyData.tuple ds).depth ≤ n + 1
    rw [PyData.depth]
    have := depAll h
    omega
  | false =>
    show (PyData.list ds).depth ≤ n + 1
    rw [PyData.depth]
    have := depAll h
    omega
theorem mem2 {α : Type} {a b x : α} (h : x ∈ [a, b]) : x = a ∨ x = b := by simpa using h
theorem mem5 {α : Type} {a b c d e x : α} (h : x ∈ [a, b, c, d, e]) : x = a ∨ x = b ∨ x = c ∨ x = d ∨ x = e := by simpa using h
theorem net_shaped {f : Bool} {s m : Nat} {h : Int} {ws : List Str} {qs : List QD} (g : GoodNet s m h ws qs) : SeqAt.shaped (netD f ws qs) = true := by
  have c1 : ∀ x ∈ ws, (PyData.str x).canLay0 = true := fun x hx => by
    rw [PyData.canLay0]
    exact poolW_ok x (g.wp x hx)
  have h1 : (netD f ws qs).canLay0 = true := can_seq fun d hd => by
    rcases mem2 hd with rfl | rfl
    · refine can_seq fun d hd => ?_
      obtain ⟨x, hx, rfl⟩ := List.mem_map.mp hd
      exact c1 x hx
    · refine can_seq fun d hd => ?_
      obtain ⟨q, hq, rfl⟩ := List.mem_map.mp hd
      refine can_seq fun d hd => ?_
      have hw := g.qq q hq
      rcases mem5 hd with rfl | rfl | rfl | rfl | rfl
      · rw [PyData.canLay0]
        exact g.nm_ok q hq
      · exact c1 _ hw.1
      · exact c1 _ hw.2.1
      · simp [PyData.canLay0]
      · simp [PyData.canLay0]
  have h2 : (netD f ws qs).depth ≤ 3 := dep_seq (n := 2) fun d hd => by
    rcases mem2 hd with rfl | rfl
    · refine dep_seq (n := 1) fun d hd => ?_
      obtain ⟨x, hx, rfl⟩ := List.mem_map.mp hd
      simp [PyData.depth]
    · refine dep_seq (n := 1) fun d hd => ?_
      obtain ⟨q, hq, rfl⟩ := List.mem_map.mp hd
      refine dep_seq (n := 0) fun d hd => ?_
      rcases mem5 hd with rfl | rfl | rfl | rfl | rfl <;> simp [PyData.depth]
  unfold SeqAt.shaped
  rw [h1, decide_eq_true (show (netD f ws qs).depth ≤ 64 by omega)]
  rfl
theorem okD_str {n : Nat} {x : Str} : okD (n + 1) (.str x) := trivial
theorem okD_int {n : Nat} {i : Int} : okD (n + 1) (.int i) := trivial
theorem net_okD {f : Bool} {ws : List Str} {qs : List QD} (h1 : ws.length ≤ 60) (h2 : qs.length ≤ 60) : okD 4 (netD f ws qs) :=
  okD_seq.mpr ⟨by show 2 ≤ 1000; decide, fun d hd => by
    rcases mem2 hd with rfl | rfl
    · refine okD_seq.mpr ⟨by rw [List.length_map]; omega, fun d hd => ?_⟩
      obtain ⟨x, hx, rfl⟩ := List.mem_map.mp hd
      exact okD_str
    · refine okD_seq.mpr ⟨by rw [List.length_map]; omega, fun d hd => ?_⟩
      obtain ⟨q, hq, rfl⟩ := List.mem_map.mp hd
      refine okD_seq.mpr ⟨by show 5 ≤ 1000; decide, fun d hd => ?_⟩
      rcases mem5 hd with rfl | rfl | rfl | rfl | rfl
      · exact okD_str
      · exact okD_str
      · exact okD_str
      · exact okD_int
      · exact okD_int⟩
theorem net_lists {f : Bool} {ws : List Str} {qs : List QD} : listsD (netD f ws qs) = netD false ws qs := by
  unfold netD
  rw [listsD_seq]
  show PyData.list [listsD _, listsD _] = PyData.list [_, _]
  rw [listsD_seq, listsD_seq, List.map_map, List.map_map]
  have e1 : ws.map (listsD ∘ PyData.str) = ws.map PyData.str := List.map_congr_left fun _ _ => rfl
  have e2 : qs.map (listsD ∘ QD.d f) = qs.map (QD.d false) := List.map_congr_left fun q _ => by
    show listsD (seqD f _) = _
    rw [listsD_seq]
    rfl
  rw [e1, e2]
  rfl
/-- a new tuple of data -/
theorem dp_tup {K : PySem.W.Frag} {S : List Addr} {H : Hp} {p : Addr} {xs : List V} {ds : List PyData} (t : Trk S H) (hp : H p = none) (h : DpAll K (cutS S H) xs ds) : Dp K (cutS S (upd H p (.tup xs))) (.ref p) (.tuple ds) :=
  .tup (sqt_of (cutS_new t hp)) ((cutS_mono (.upd hp)).dpa h)
theorem dp_lst {K : PySem.W.Frag} {S : List Addr} {H : Hp} {p : Addr} {xs : List V} {ds : List PyData} (t : Trk S H) (hp : H p = none) (h : DpAll K (cutS S H) xs ds) : Dp K (cutS S (upd H p (.lst xs))) (.ref p) (.list ds) :=
  .lst (sql_of (cutS_new t hp)) ((cutS_mono (.upd hp)).dpa h)
theorem TupW.mono {H H' : Hp} {v : V} {xs : List V} (h : TupW H v xs) (e : Same H H') : TupW H' v xs := by
  obtain ⟨a0, a1, a2, ob, rfl, h0, h1, h2, h3⟩ := h
  exact ⟨a0, a1, a2, ob, rfl, e _ _ h0, e _ _ h1, h2, h3⟩
theorem mem3 {α : Type} {a b c x : α} (h : x ∈ [a, b, c]) : x = a ∨ x = b ∨ x = c := by simpa using h
theorem dpn_tup {K : PySem.W.Frag} {H : Hp} {p : Addr} {xs : List V} {ds : List PyData} (hp : H p = none) (h : DpAll K H xs ds) : Dp K (upd H p (.tup xs)) (.ref p) (.tuple ds) := .tup (sqt_of upd_same) ((Same.upd hp).dpa h)
theorem dpn_lst {K : PySem.W.Frag} {H : Hp} {p : Addr} {xs : List V} {ds : List PyData} (hp : H p = none) (h : DpAll K H xs ds) : Dp K (upd H p (.lst xs)) (.ref p) (.list ds) := .lst (sql_of upd_same) ((Same.upd hp).dpa h)
theorem dpn_row {K : PySem.W.Frag} {H : Hp} {p : Addr} {a b c : Str} {r g : Int} (hp : H p = none) : Dp K (upd H p (.tup [.str a, .str b, .str c, .int r, .int g])) (.ref p) (QD.d true ⟨a, b, c, r, g⟩) :=
  dpn_tup hp (.cons (.str _) (.cons (.str _) (.cons (.str _) (.cons (.int _) (.cons (.int _) .nil)))))
section
variable {K : PySem.W.Frag}
/-- a net as it is read: a list or a tuple, its rows -/
structure NetAt (K : PySem.W.Frag) (H : Hp) (fb : Bool) (a0 a1 a2 : Addr) (ws : List Str) (qs : List QD) (xq : List V) : Prop where
  h0 : SqF fb K H a0 [.ref a1, .ref a2]
  h1 : SqF fb K H a1 (ws.map V.str)
  h2 : SqF fb K H a2 xq
  hq : ∀ (i : Nat) (v : V), xq[i]? = some v → ∃ (q : QD) (a : Addr), qs[i]? = some q ∧ v = .ref a ∧ SqF fb K H a [.str q.nm, .str q.st, .str q.en, .int q.room, .int q.gap]
  ll : xq.length = qs.length
theorem NetAt.same {H H' : Hp} {fb : Bool} {a0 a1 a2 : Addr} {ws : List Str} {qs : List QD} {xq : List V} (n : NetAt K H fb a0 a1 a2 ws qs xq) (e : Same H H') : NetAt K H' fb a0 a1 a2 ws qs xq :=
  ⟨e.sqF n.h0, e.sqF n.h1, e.sqF n.h2, fun i v h => by
    obtain ⟨q, a, g1, g2, g3⟩ := n.hq i v h
    exact ⟨q, a, g1, g2, e.sqF g3⟩, n.ll⟩
theorem netAt {H : Hp} {fb : Bool} {v : V} {ws : List Str} {qs : List QD} (h : Dp K H v (netD fb ws qs)) : ∃ a0 a1 a2 xq, v = .ref a0 ∧ NetAt K H fb a0 a1 a2 ws qs xq := by
  obtain ⟨a0, x0, rfl, h0, hx⟩ := Dp.seq_of h
  cases hx with
  | cons d1 hx =>
    cases hx with
    | cons d2 hx =>
      cases hx
      obtain ⟨a1, x1, rfl, h1, hx1⟩ := Dp.seq_of d1
      obtain ⟨a2, x2, rfl, h2, hx2⟩ := Dp.seq_of d2
      rw [dpa_strs_of hx1] at h1
      refine ⟨a0, a1, a2, x2, rfl, h0, h1, h2, fun i v hv => ?_, by rw [dpa_len hx2, List.length_map]⟩
      obtain ⟨d, hd, hvd⟩ := dpa_get hx2 hv
      rw [List.getElem?_map] at hd
      cases e : qs[i]? with
      | none =>
        rw [e] at hd
        cases hd
      | some q =>
        rw [e] at hd
        cases hd
        obtain ⟨a, x, rfl, g1, g2⟩ := Dp.seq_of hvd
        cases g2 with
        | cons c1 g2 =>
          cases g2 with
          | cons c2 g2 =>
            cases g2 with
            | cons c3 g2 =>
              cases g2 with
              | cons c4 g2 =>
                cases g2 with
                | cons c5 g2 =>
                  cases g2
                  cases c1
                  cases c2
                  cases c3
                  cases c4
                  cases c5
                  exact ⟨q, a, rfl, rfl, g1⟩
end
end Jl

set_option Elab.async false
set_option linter.all false
set_option maxRecDepth 100000
set_option maxHeartbeats 4000000
set_option pp.maxSteps 900
namespace Jl
open PySem PySem.Spec PyProof.Rows L2
open Evl (sz_of sz_lt)
local macro_rules | `(tactic| walk_at "at") => `(tactic| first | exact box0 | exact box1 | exact box2)
local macro_rules | `(tactic| walk_at "sq") => `(tactic| first | (show SqL _ _ _ _; assumption) | (show SqT _ _ _ _; assumption) | (show _ = some _; assumption))
local macro_rules | `(tactic| walk_at "side") => `(tactic| first
  | (show (0 : Int) < _; decide)
  | (show (0 : Int) < _; omega)
  | exact ⟨by decide, by decide, by decide⟩
  | exact sz_of (Nat.le_of_ble_eq_true rfl)
  | exact rfl
  | exact Or.inl (by decide)
  | exact Or.inr (by decide)
  | exact Or.inr ⟨by omega, by omega⟩
  | exact Or.inl ⟨by omega, by omega⟩
  | exact ⟨by decide, by decide +kernel⟩)
local macro_rules | `(tactic| walk_at "ev1") => `(tactic| first
  | refine ⟨_, rfl, ?_⟩
  | refine ⟨_, _, rfl, rfl, ?_⟩
  | refine ⟨_, _, _, _, rfl, rfl, (by walk_at "sq"), (by walk_at "at"), ?_⟩
  | refine ⟨_, _, rfl, (by walk_at "sq"), ?_⟩
  | refine ⟨_, _, rfl, Or.inl (by walk_at "sq"), ?_⟩
  | refine ⟨_, _, rfl, Or.inr (by walk_at "sq"), ?_⟩
  | refine Or.inl ⟨_, rfl, ?_⟩
  | refine Or.inr ⟨_, rfl, ?_⟩
  | refine ⟨(by walk_at "side"), ?_⟩
  | refine ⟨.inl ⟨rfl, _, (by walk_at "sq")⟩, ?_⟩
  | refine ⟨_, _, rfl, ?_⟩)
local macro_rules | `(tactic| walk_at "nrm") => `(tactic| dsimp only [tNil, tCons, tC, tCB])
local macro_rules | `(tactic| walk_at "ev") => `(tactic| repeat (walk_at "ev1"))

/-! ### kinds of data -/
def isI : PyData → Bool
  | .int _ => true
  | .bool _ => true
  | _ => false
def isB : PyData → Bool
  | .bool _ => true
  | _ => false
def isT : PyData → Bool
  | .tuple _ => true
  | _ => false
def isS : PyData → Bool
  | .str _ => true
  | _ => false
theorem kI {K : PySem.W.Frag} (d : PyData) : PySem.W.kitOne K (.type (tyD d)) (.type "int") = some (isI d) := by
  cases d with
  | none => exact kit_ty (a := "NoneType") (b := "int") (r := false) (by decide +kernel)
  | bool _ => exact kit_ty (a := "bool") (b := "int") (r := true) (by decide +kernel)
  | int _ => exact kit_ty (a := "int") (b := "int") (r := true) (by decide +kernel)
  | str _ => exact kit_ty (a := "str") (b := "int") (r := false) (by decide +kernel)
  | list _ => exact kit_ty (a := "list") (b := "int") (r := false) (by decide +kernel)
  | tuple _ => exact kit_ty (a := "tuple") (b := "int") (r := false) (by decide +kernel)
  | dict _ => exact kit_ty (a := "dict") (b := "int") (r := false) (by decide +kernel)
theorem kB {K : PySem.W.Frag} (d : PyData) : PySem.W.kitOne K (.type (tyD d)) (.type "bool") = some (isB d) := by
  cases d with
  | none => exact kit_ty (a := "NoneType") (b := "bool") (r := false) (by decide +kernel)
  | bool _ => exact kit_ty (a := "bool") (b := "bool") (r := true) (by decide +kernel)
  | int _ => exact kit_ty (a := "int") (b := "bool") (r := false) (by decide +kernel)
  | str _ => exact kit_ty (a := "str") (b := "bool") (r := false) (by decide +kernel)
  | list _ => exact kit_ty (a := "list") (b := "bool") (r := false) (by decide +kernel)
  | tuple _ => exact kit_ty (a := "tuple") (b := "bool") (r := false) (by decide +kernel)
  | dict _ => exact kit_ty (a := "dict") (b := "bool") (r := false) (by decide +kernel)
theorem kT {K : PySem.W.Frag} (d : PyData) : PySem.W.kitOne K (.type (tyD d)) (.type "tuple") = some (isT d) := by
  cases d with
  | none => exact kit_ty (a := "NoneType") (b := "tuple") (r := false) (by decide +kernel)
  | bool _ => exact kit_ty (a := "bool") (b := "tuple") (r := false) (by decide +kernel)
  | int _ => exact kit_ty (a := "int") (b := "tuple") (r := false) (by decide +kernel)
  | str _ => exact kit_ty (a := "str") (b := "tuple") (r := false) (by decide +kernel)
  | list _ => exact kit_ty (a := "list") (b := "tuple") (r := false) (by decide +kernel)
  | tuple _ => exact kit_ty (a := "tuple") (b := "tuple") (r := true) (by decide +kernel)
  | dict _ => exact kit_ty (a := "dict") (b := "tuple") (r := false) (by decide +kernel)
theorem kS {K : PySem.W.Frag} (d : PyData) : PySem.W.kitOne K (.type (tyD d)) (.type "str") = some (isS d) := by
  cases d with
  | none => exact kit_ty (a := "NoneType") (b := "str") (r := false) (by decide +kernel)
  | bool _ => exact kit_ty (a := "bool") (b := "str") (r := false) (by decide +kernel)
  | int _ => exact kit_ty (a := "int") (b := "str") (r := false) (by decide +kernel)
  | str _ => exact kit_ty (a := "str") (b := "str") (r := true) (by decide +kernel)
  | list _ => exact kit_ty (a := "list") (b := "str") (r := false) (by decide +kernel)
  | tuple _ => exact kit_ty (a := "tuple") (b := "str") (r := false) (by decide +kernel)
  | dict _ => exact kit_ty (a := "dict") (b := "str") (r := false) (by decide +kernel)
/-- a number, l or more -/
def numD (l : Int) : PyData → Bool
  | .int i => decide (l ≤ i)
  | _ => false
def spNum (K : PySem.W.Frag) : Sp := fun vs H Q _ => ∃ (v : V) (l : Int) (d : PyData), vs = [v, .int l] ∧ Dp K H v d ∧ Q (.bl (numD l d)) H

abbrev sc_is_number_N : List Str := ["thing", "least"]
abbrev s_is_number : Stmt := topS 1
theorem sc_is_number : FnScope ["thing", "least"] ["thing", "least"] (defScope s_is_number) := ⟨rfl, rfl, rfl, by decide +kernel, rfl, by decide +kernel, by decide +kernel⟩
section
variable {P : Program} {w : World} {K : PySem.W.Frag} {mg : Str → Option Value} {base : Heap}
abbrev FunNum (K : PySem.W.Frag) (f : Addr) (fd : FuncData) : Prop := FunD K "is_number" "is_number" (defArgs s_is_number) (defBody s_is_number) (defScope s_is_number) [.non] [] f fd
theorem ok_is_number {f : Addr} {fd : FuncData} {k : Nat} (F : FunNum K f fd) (m_isinstance : mg "isinstance" = none) (m_int : mg "int" = none) (m_bool : mg "bool" = none) : FnOk P w K mg base CX0 (k + 1) f fd ["thing", "least"] (spNum K) := by
  refine F.ok sc_is_number (fun vs H Q E h => ?_) (fun cdv A outer s0 H vs Q E hr h => ?_)
  · obtain ⟨v, l, d, rfl, _⟩ := h
    rfl
  · obtain ⟨v, l, d, rfl, hD, q⟩ := h
    refine ⟨_, (pss_cons (ps_if (PW.pt (pw_or (pt_not (pt_val (pe_callB call_isi (by rfl) m_isinstance (by decide +kernel) (pa_cons (pv 0) (pa_cons (pe_bltn (v := .ty "int") (u := .type "int") (by rfl) m_int (by decide +kernel) rfl) pa_nil))))) (pw_or1 (pt_val (pe_callB call_isi (by rfl) m_isinstance (by decide +kernel) (pa_cons (pv 0) (pa_cons (pe_bltn (v := .ty "bool") (u := .type "bool") (by rfl) m_bool (by decide +kernel) rfl) pa_nil))))))) (pss_one (ps_ret pe_bl)) pss_nil) 
    (pss_one (ps_ret (pe_or (pe_cmpR op_isN (pv 1) pe_non (nomark _)) (pe_one (pe_cmpR op_ge (pv 0) (pv 1) (nomark _))))))), ?_⟩
    walk_at "ev"
    walk_at "nrm"
    refine isi1 hD (fun t e => by rw [e]; exact kI d) ?_
    cases d with
    | int i =>
      walk_at "ev"
      walk_at "nrm"
      refine isi1 hD (fun t e => by rw [e]; exact kB (.int i)) ?_
      cases hD
      walk_at "ev"
      exact q
    | bool b =>
      walk_at "ev"
      walk_at "nrm"
      refine isi1 hD (fun t e => by rw [e]; exact kB (.bool b)) ?_
      walk_at "ev"
      exact q
    | _ =>
      walk_at "ev"
      exact q
end

abbrev sc_w_is_count_N : List Str := ["_law_matter", "_law_least"]
abbrev s_w_is_count : Stmt := topS 17
theorem sc_w_is_count : FnScope ["_law_matter", "_law_least"] ["_law_matter", "_law_least"] (defScope s_w_is_count) := ⟨rfl, rfl, rfl, by decide +kernel, rfl, by decide +kernel, by decide +kernel⟩
section
variable {P : Program} {w : World} {K : PySem.W.Frag} {mg : Str → Option Value} {base : Heap}
theorem ok_w_is_count {f : Addr} {fd : FuncData} {k : Nat} (F : Fun K "_law_is_count" "_law_is_count" s_w_is_count f fd) (m_isinstance : mg "isinstance" = none) (m_int : mg "int" = none) (m_bool : mg "bool" = none) : FnOk P w K mg base CX0 (k + 1) f fd ["_law_matter", "_law_least"] (spNum K) := by
  refine F.ok sc_w_is_count (fun vs H Q E h => ?_) (fun cdv A outer s0 H vs Q E hr h => ?_)
  · obtain ⟨v, l, d, rfl, _⟩ := h
    rfl
  · obtain ⟨v, l, d, rfl, hD, q⟩ := h
    refine ⟨_, (pss_one (ps_ret (pe_and (pe_callB call_isi (by rfl) m_isinstance (by decide +kernel) (pa_cons (pv 0) (pa_cons (pe_bltn (v := .ty "int") (u := .type "int") (by rfl) m_int (by decide +kernel) rfl) pa_nil))) (pe_and (pe_not (pe_callB call_isi (by rfl) m_isinstance (by decide +kernel) (pa_cons (pv 0) (pa_cons (pe_bltn (v := .ty "bool") (u := .type "bool") (by rfl) m_bool (by decide +kernel) rfl) pa_nil)))) (pe_one (pe_cmpR op_ge (pv 0) (pv 1) (nomark _))))))), ?_⟩
    walk_at "ev"
    walk_at "nrm"
    refine isi1 hD (fun t e => by rw [e]; exact kI d) ?_
    cases d with
    | int i =>
      walk_at "ev"
      walk_at "nrm"
      refine isi1 hD (fun t e => by rw [e]; exact kB (.int i)) ?_
      cases hD
      walk_at "ev"
      exact q
    | bool b =>
      walk_at "ev"
      walk_at "nrm"
      refine isi1 hD (fun t e => by rw [e]; exact kB (.bool b)) ?_
      walk_at "ev"
      exact q
    | _ =>
      walk_at "ev"
      exact q
end
end Jl

set_option Elab.async false
set_option linter.all false
set_option maxRecDepth 100000
set_option maxHeartbeats 4000000
set_option pp.maxSteps 900
namespace Jl
open PySem PySem.Spec PyProof.Rows L2
open Evl (sz_of sz_lt)
local macro_rules | `(tactic| walk_at "at") => `(tactic| first | exact box0 | exact box1 | exact box2)
local macro_rules | `(tactic| walk_at "sq") => `(tactic| first | (show SqL _ _ _ _; assumption) | (show SqT _ _ _ _; assumption) | (show _ = some _; assumption))
local macro_rules | `(tactic| walk_at "side") => `(tactic| first
  | (show (0 : Int) < _; decide)
  | (show (0 : Int) < _; omega)
  | exact ⟨by decide, by decide, by decide⟩
  | exact sz_of (Nat.le_of_ble_eq_true rfl)
  | exact rfl
  | exact Or.inl (by decide)
  | exact Or.inr (by decide)
  | exact Or.inr ⟨by omega, by omega⟩
  | exact Or.inl ⟨by omega, by omega⟩
  | exact ⟨by decide, by decide +kernel⟩)
local macro_rules | `(tactic| walk_at "ev1") => `(tactic| first
  | refine ⟨_, rfl, ?_⟩
  | refine ⟨_, _, rfl, rfl, ?_⟩
  | refine ⟨_, _, _, _, rfl, rfl, (by walk_at "sq"), (by walk_at "at"), ?_⟩
  | refine ⟨_, _, rfl, (by walk_at "sq"), ?_⟩
  | refine ⟨_, _, rfl, Or.inl (by walk_at "sq"), ?_⟩
  | refine ⟨_, _, rfl, Or.inr (by walk_at "sq"), ?_⟩
  | refine Or.inl ⟨_, rfl, ?_⟩
  | refine Or.inr ⟨_, rfl, ?_⟩
  | refine ⟨(by walk_at "side"), ?_⟩
  | refine ⟨.inl ⟨rfl, _, (by walk_at "sq")⟩, ?_⟩
  | refine ⟨_, _, rfl, ?_⟩)
local macro_rules | `(tactic| walk_at "nrm") => `(tactic| dsimp only [tNil, tCons, tC, tCB])
local macro_rules | `(tactic| walk_at "ev") => `(tactic| repeat (walk_at "ev1"))

abbrev sc_is_row_N : List Str := ["thing", "many"]
abbrev s_is_row : Stmt := topS 2
theorem sc_is_row : FnScope ["thing", "many"] ["thing", "many"] (defScope s_is_row) := ⟨rfl, rfl, rfl, by decide +kernel, rfl, by decide +kernel, by decide +kernel⟩
abbrev sc_ascends_N : List Str := ["row", "place"]
abbrev s_ascends : Stmt := topS 3
theorem sc_ascends : FnScope ["row", "place"] ["row"] (defScope s_ascends) := ⟨rfl, rfl, rfl, by decide +kernel, rfl, by decide +kernel, by decide +kernel⟩
theorem decV {a b : Int} : decide (V.int a = V.int b) = decide (a = b) := decide_eq_decide.mpr ⟨V.int.inj, congrArg _⟩
/-- a tuple of m things -/
def rowB (m : Int) : PyData → Bool
  | .tuple ds => decide ((ds.length : Int) = m)
  | _ => false
def ascD (ds : List PyData) : Bool := (List.range (ds.length - 1)).all fun i => PySem.W.dataLt (ds.getD i .none) (ds.getD (i + 1) .none)
section
variable {X : Cx}
/-- x < y of data alike -/
def rLtD (K : PySem.W.Frag) : R2 := fun x y H Q => ∃ d e, Dp K H x d ∧ Dp K H y e ∧ PySem.W.alike d e = true ∧ d ≠ .none ∧ d.depth ≤ 60 ∧ Q (.bl (PySem.W.dataLt d e)) H
theorem op_ltD (hu : X.A.units + 64 < cLine) : OpR X (compareOp .Lt) (rLtD X.K) := by
  intro pins s σ H x y v u Q I rx ry h
  obtain ⟨d, e, hd, he, ha, hn, hp, q⟩ := h
  obtain ⟨as, r1⟩ := Dp.reads I d x v hd rx
  obtain ⟨bs, r2⟩ := Dp.reads I e y u he ry
  exact PySem.W.lt_data r1 r2 ha hn (by have := Nat.min_le_left d.depth e.depth; omega) ⟨.bl _, H, I, rfl, q⟩
end
section
variable {P : Program} {w : World} {K : PySem.W.Frag} {mg : Str → Option Value} {base : Heap}
def spRow (K : PySem.W.Frag) : Sp := fun vs H Q _ => ∃ (v : V) (m : Int) (d : PyData), vs = [v, .int m] ∧ Dp K H v d ∧ Q (.bl (rowB m d)) H
theorem ok_is_row {f : Addr} {fd : FuncData} {k : Nat} (F : Fun K "is_row" "is_row" s_is_row f fd) (m_isinstance : mg "isinstance" = none) (m_tuple : mg "tuple" = none) (m_len : mg "len" = none) : FnOk P w K mg base CX0 (k + 1) f fd ["thing", "many"] (spRow K) := by
  refine F.ok sc_is_row (fun vs H Q E h => ?_) (fun cdv A outer s0 H vs Q E hr h => ?_)
  · obtain ⟨v, m, d, rfl, _⟩ := h
    rfl
  · obtain ⟨v, m, d, rfl, hD, q⟩ := h
    refine ⟨_, (pss_one (ps_ret (pe_and (pe_callB call_isi (by rfl) m_isinstance (by decide +kernel) (pa_cons (pv 0) (pa_cons (pe_bltn (v := .ty "tuple") (u := .type "tuple") (by rfl) m_tuple (by decide +kernel) rfl) pa_nil))) (pe_one (pe_cmpR op_eq (pe_callB call_len_seq (by rfl) m_len PySem.boot_len (pa_cons (pv 0) pa_nil)) (pv 1) (nomark _)))))), ?_⟩
    walk_at "ev"
    walk_at "nrm"
    refine isi1 hD (fun t e => by rw [e]; exact kT d) ?_
    cases d with
    | tuple ds =>
      obtain ⟨a, xs, rfl, hs, ha⟩ := Dp.seq_of (f := true) hD
      have hs : SqT K H a xs := hs
      walk_at "ev"
      rw [decV, dpa_len ha]
      exact q
    | _ =>
      walk_at "ev"
      exact q
def spAsc (K : PySem.W.Frag) : Sp := fun vs H Q _ => ∃ (v : V) (fb : Bool) (ds : List PyData), vs = [v] ∧ Dp K H v (seqD fb ds) ∧ ds.length ≤ 1000 ∧
  (∀ i d e, ds[i]? = some d → ds[i + 1]? = some e → PySem.W.alike d e = true ∧ d ≠ .none ∧ d.depth ≤ 60) ∧ ∀ H', Same H H' → Q (.bl (ascD ds)) H'
theorem ok_ascends {f : Addr} {fd : FuncData} {k : Nat} (F : Fun K "ascends" "ascends" s_ascends f fd) (m_all : mg "all" = none) (m_range : mg "range" = none) (m_len : mg "len" = none) : FnOk P w K mg base CX0 (k + 1) f fd ["row"] (spAsc K) := by
  refine F.ok sc_ascends (fun vs H Q E h => ?_) (fun cdv A outer s0 H vs Q E hr h => ?_)
  · obtain ⟨v, fb, ds, rfl, _⟩ := h
    rfl
  · obtain ⟨v, fb, ds, rfl, hD, hl, hc, q⟩ := h
    refine ⟨_, (pss_one (ps_ret (pe_callB (cr_all rfl) (by rfl) m_all (by decide +kernel) (pa_cons (pe_lcX (pe_lc (own := [("place", 1)]) (g := gName 1) (tt := tYes) (te := tOp (rLtD K) (tOp (rIxF K) (tVar 0) (tVar 1)) (tOp (rIxF K) (tVar 0) (tOp (rI0 fun i j => .int (i + j)) (tVar 1) (tC (.int 1))))) (by rfl) sc_ascends.nd (pi_range1 (by rfl) m_range (pa_cons (pe_op op_sub (pe_callB call_len_seq (by rfl) m_len PySem.boot_len (pa_cons (pv 0) pa_nil)) pe_int) pa_nil)) (blkOk_by (own := [("place", 1)]) (N := sc_ascends_N) (sc := defScope s_ascends) (by decide +kernel)) (fun _ _ _ _ _ => pg_name (i := 1) sc_ascends.nd rfl (Or.inl rfl)) (fun _ _ _ _ _ => pts_nil) (fun _ _ _ _ _ => (pe_cmpR (op_ltD hr.units) (pe_ix ix_lt (pv 0) (pv 1) (fun _ _ => rfl)) (pe_ix ix_lt (pv 0) (pe_op op_add (pv 1) pe_int) (fun _ _ => rfl)) (nomark _))))) pa_nil)))), ?_⟩
    obtain ⟨a, xs, rfl, hs, ha⟩ := Dp.seq_of hD
    have lx := dpa_len ha
    refine lc_of ?_
    walk_at "ev"
    refine ⟨a, xs, rfl, hs.or, ?_⟩
    walk_at "ev"
    refine ⟨by omega, by omega, ?_⟩
    intro D hD0
    have hn : ((xs.length : Int) - 1).toNat = ds.length - 1 := by omega
    rw [hn]
    refine lc_it (walk_range (lo := 0) (n := ds.length - 1)) (fun i H' => Same H H' ∧ H' D = some (.lst (((List.range i).map fun i => PySem.W.dataLt (ds.getD i .none) (ds.getD (i + 1) .none)).map V.bl))) ⟨.upd hD0, upd_same⟩ (fun _ _ _ _ => trivial) (fun i x H' H'' hi hh y => ?_) (fun H' hh => ?_)
    · obtain ⟨g1, g2⟩ := hh
      obtain ⟨rfl, hv⟩ := y
      have hv : x = .int (0 + (i : Int)) := hv
      rw [Int.zero_add] at hv
      subst hv
      refine ⟨rfl, ?_⟩
      dsimp only [tYes]
      rw [if_pos rfl]
      have i1 : i < xs.length := by omega
      have i2 : i + 1 < xs.length := by omega
      obtain ⟨d, hd, hd2⟩ := dpa_get ha (List.getElem?_eq_getElem i1)
      obtain ⟨e, he, he2⟩ := dpa_get ha (List.getElem?_eq_getElem i2)
      have hs2 := g1.sqF hs
      refine ⟨_, rfl, ?_⟩
      refine ⟨_, rfl, ?_⟩
      refine rIxF_at hs2 (atI_nat (List.getElem?_eq_getElem i1)) ?_
      refine ⟨_, rfl, ?_⟩
      walk_at "ev"
      dsimp only
      refine rIxF_at hs2 (v := xs[i + 1]) (by rw [show ((i : Int) + 1) = ((i + 1 : Nat) : Int) from by omega]; exact atI_nat (List.getElem?_eq_getElem i2)) ?_
      obtain ⟨c1, c2, c3⟩ := hc i d e hd he
      refine ⟨d, e, g1.dp hd2, g1.dp he2, c1, c2, c3, ?_⟩
      refine ⟨_, g2, by rw [List.length_map, List.length_map, List.length_range]; exact sz_lt (by omega), g1.mut hD0, ?_⟩
      rw [upd_same, List.range_succ, List.map_append, List.map_append]
      have e1 : ds.getD i .none = d := by rw [List.getD_eq_getElem?_getD, hd]; rfl
      have e2 : ds.getD (i + 1) .none = e := by rw [List.getD_eq_getElem?_getD, he]; rfl
      show _ = some (HO.lst (_ ++ [V.bl (PySem.W.dataLt (ds.getD i .none) (ds.getD (i + 1) .none))]))
      rw [e1, e2]
    · obtain ⟨g1, g2⟩ := hh
      refine ⟨D, _, rfl, sql_of g2, ?_⟩
      have e : ((List.range (ds.length - 1)).map fun i => PySem.W.dataLt (ds.getD i .none) (ds.getD (i + 1) .none)).all id = ascD ds := by
        unfold ascD
        rw [List.all_map]
        rfl
      rw [e]
      exact q _ g1
end
end Jl

set_option Elab.async false
set_option linter.all false
set_option maxRecDepth 100000
set_option maxHeartbeats 4000000
set_option pp.maxSteps 900
namespace Jl
open PySem PySem.Spec PyProof.Rows L2
open Evl (sz_of sz_lt)
local macro_rules | `(tactic| walk_at "at") => `(tactic| first | exact box0 | exact box1 | exact box2)
local macro_rules | `(tactic| walk_at "sq") => `(tactic| first | (show SqL _ _ _ _; assumption) | (show SqT _ _ _ _; assumption) | (show _ = some _; assumption))
local macro_rules | `(tactic| walk_at "side") => `(tactic| first
  | (show (0 : Int) < _; decide)
  | (show (0 : Int) < _; omega)
  | exact ⟨by decide, by decide, by decide⟩
  | exact sz_of (Nat.le_of_ble_eq_true rfl)
  | exact rfl
  | exact Or.inl (by decide)
  | exact Or.inr (by decide)
  | exact Or.inr ⟨by omega, by omega⟩
  | exact Or.inl ⟨by omega, by omega⟩
  | exact ⟨by decide, by decide +kernel⟩)
local macro_rules | `(tactic| walk_at "ev1") => `(tactic| first
  | refine ⟨_, rfl, ?_⟩
  | refine ⟨_, _, rfl, rfl, ?_⟩
  | refine ⟨_, _, _, _, rfl, rfl, (by walk_at "sq"), (by walk_at "at"), ?_⟩
  | refine ⟨_, _, rfl, (by walk_at "sq"), ?_⟩
  | refine ⟨_, _, rfl, Or.inl (by walk_at "sq"), ?_⟩
  | refine ⟨_, _, rfl, Or.inr (by walk_at "sq"), ?_⟩
  | refine Or.inl ⟨_, rfl, ?_⟩
  | refine Or.inr ⟨_, rfl, ?_⟩
  | refine ⟨(by walk_at "side"), ?_⟩
  | refine ⟨.inl ⟨rfl, _, (by walk_at "sq")⟩, ?_⟩
  | refine ⟨_, _, rfl, ?_⟩)
local macro_rules | `(tactic| walk_at "nrm") => `(tactic| dsimp only [tNil, tCons, tC, tCB])
local macro_rules | `(tactic| walk_at "ev") => `(tactic| repeat (walk_at "ev1"))

abbrev sc_is_counts_N : List Str := ["net", "thing", "count"]
abbrev s_is_counts : Stmt := topS 5
theorem sc_is_counts : FnScope ["net", "thing", "count"] ["net", "thing"] (defScope s_is_counts) := ⟨rfl, rfl, rfl, by decide +kernel, rfl, by decide +kernel, by decide +kernel⟩
abbrev sc_w_are_counts_N : List Str := ["_law_web_here", "_law_matter", "_law_bit"]
abbrev s_w_are_counts : Stmt := topS 18
theorem sc_w_are_counts : FnScope ["_law_web_here", "_law_matter", "_law_bit"] ["_law_web_here", "_law_matter"] (defScope s_w_are_counts) := ⟨rfl, rfl, rfl, by decide +kernel, rfl, by decide +kernel, by decide +kernel⟩
theorem dpa_bools {K : PySem.W.Frag} {H : Hp} {g : PyData → Bool} : ∀ {ds : List PyData} {ys : List V}, DpAll K H ys (ds.map fun d => .bool (g d)) → ys = (ds.map g).map V.bl
  | [], _, h => by
    cases h
    rfl
  | d :: ds, _, h => by
    cases h with
    | cons h1 h2 =>
      cases h1
      rw [dpa_bools h2]
      rfl
/-- a comprehension of bools over data -/
theorem lc_bools {K : PySem.W.Frag} {tl te : TE} {j : Nat} {vs : List Nat} {σ : L2.St} {H H0 : Hp} {Q : VK} {a : Addr} {fb : Bool} {xs : List V} {ds : List PyData} (g : PyData → Bool)
    (ht : ∀ R' : VK, R' (.ref a) H0 → tl σ H R') (hs : SqF fb K H0 a xs) (ha : DpAll K H0 xs ds) (hl : ds.length ≤ 1000)
    (hw : ∀ x, wipe ((wipe σ vs).set j (some x)) vs = wipe σ vs)
    (he : ∀ (x : V) (d : PyData) (H1 : Hp), d ∈ ds → Dp K H1 x d → ∀ Q' : VK, (∀ H2, Same H1 H2 → Q' (.bl (g d)) H2) → te ((wipe σ vs).set j (some x)) H1 Q')
    (q : ∀ D H', Same H0 H' → H' D = some (.lst ((ds.map g).map V.bl)) → Q (.ref D) H') : tLcX (iSeq K tl) (gName j) tYes te vs σ H Q :=
  lc_data (S := []) (fun d => .bool (g d)) ht hs (by rw [cutS_nil]; exact ha) Trk.nil hl hw (fun x d H1 T hd t1 hx Q' q' => he x d H1 hd (cutS_le.dp hx) Q' fun H2 s2 => q' H2 _ s2 (.bl _)) fun D ys H' s hD h2 h3 => q D H' s (by rw [h2, dpa_bools h3])
/-- a comprehension that keeps some of data -/
theorem lc_filt {K : PySem.W.Frag} {tl : TE} {tt : TT} {j : Nat} {vs : List Nat} {σ : L2.St} {H H0 : Hp} {Q : VK} {a : Addr} {fb : Bool} {xs : List V} {ds : List PyData} (g : PyData → Bool)
    (ht : ∀ R' : VK, R' (.ref a) H0 → tl σ H R') (hs : SqF fb K H0 a xs) (ha : DpAll K H0 xs ds) (hl : ds.length ≤ 1000)
    (hw : ∀ x, wipe ((wipe σ vs).set j (some x)) vs = wipe σ vs) (hj : ∀ x, ((wipe σ vs).set j (some x))[j]? = some (some x))
    (he : ∀ (x : V) (d : PyData) (H1 : Hp), d ∈ ds → Dp K H1 x d → ∀ Q' : Bool → Hp → Prop, (∀ H2, Same H1 H2 → Q' (g d) H2) → tt ((wipe σ vs).set j (some x)) H1 Q')
    (q : ∀ D ys H', Same H0 H' → H0 D = none → H' D = some (.lst ys) → DpAll K H' ys (ds.filter g) → Q (.ref D) H') : tLcX (iSeq K tl) (gName j) tt (tVar j) vs σ H Q := by
  have ll := dpa_len ha
  refine lc_of ?_
  refine iSeq_at ht hs fun J w D hD => ?_
  refine lc_it w (fun i H1 => ∃ ys, Same H0 H1 ∧ H1 D = some (.lst ys) ∧ DpAll K H0 ys ((ds.take i).filter g)) ⟨[], .upd hD, upd_same, .nil⟩ (fun i H1 _ p => ?_) (fun i x H1 H1' hi p y => ?_) (fun H1 p => ?_)
  · obtain ⟨ys, e1, _⟩ := p
    exact e1.sqF hs
  · obtain ⟨ys, e1, e2, e3⟩ := p
    obtain ⟨rfl, hx⟩ := y
    obtain ⟨d, hd, hxd⟩ := dpa_get ha hx
    refine ⟨hw x, ?_⟩
    refine he x d H1' (List.mem_of_getElem? hd) (e1.dp hxd) _ fun H2 s2 => ?_
    have ht2 : ds.take (i + 1) = ds.take i ++ [d] := by rw [List.take_add_one, hd]; rfl
    have yl : ys.length ≤ i := by
      rw [dpa_len e3]
      exact Nat.le_trans (List.length_filter_le _ _) (by rw [List.length_take]; omega)
    by_cases hg : g d = true
    · rw [if_pos hg]
      refine ⟨x, hj x, ys, s2 _ _ e2, sz_lt (by omega), ys ++ [x], (e1.trans s2).mut hD, upd_same, ?_⟩
      rw [ht2, List.filter_append, List.filter_cons_of_pos hg]
      exact dpa_app e3 (dpa_one hxd)
    · rw [if_neg hg]
      refine ⟨ys, e1.trans s2, s2 _ _ e2, ?_⟩
      rw [ht2, List.filter_append, List.filter_cons_of_neg hg]
      rw [List.filter_nil, List.append_nil]
      exact e3
  · obtain ⟨ys, e1, e2, e3⟩ := p
    rw [ll, List.take_length] at e3
    exact q D ys H1 e1 hD e2 (e1.dpa e3)
def cntD (n : Nat) : PyData → Bool
  | .tuple ds => decide ((ds.length : Int) = n) && ds.all (numD 0)
  | _ => false
theorem eqv_nil {ds : List PyData} : PyData.eqv (.list ds) (.list []) = ds.isEmpty := by
  cases ds with
  | nil => simp [PyData.eqv, PyData.eqvAll]
  | cons d ds => simp [PyData.eqv, PyData.eqvAll]
theorem shaped_parts {ds : List PyData} (h : SeqAt.shaped (.tuple ds) = true) : ∀ es : List PyData, (∀ e ∈ es, e ∈ ds) → SeqAt.shaped (.list es) = true := fun es hs => by
  have h1 := SeqAt.canLay_of_shaped h
  have h2 := SeqAt.depth_of_shaped h
  rw [PyData.canLay0] at h1
  rw [PyData.depth] at h2
  have allc : ∀ (ds : List PyData), PyData.canLayAll0 ds = true → ∀ d ∈ ds, d.canLay0 = true := by
    intro ds
    induction ds with
    | nil => exact fun _ d hd => absurd hd List.not_mem_nil
    | cons x ds ih =>
      intro hx d hd
      rw [PyData.canLayAll0, Bool.and_eq_true] at hx
      rcases List.mem_cons.mp hd with e | hd
      · rw [e]
        exact hx.1
      · exact ih hx.2 d hd
  have alld : ∀ (ds : List PyData), ∀ d ∈ ds, d.depth ≤ PyData.depthAll ds := by
    intro ds
    induction ds with
    | nil => exact fun d hd => absurd hd List.not_mem_nil
    | cons x ds ih =>
      intro d hd
      rw [PyData.depthAll]
      rcases List.mem_cons.mp hd with e | hd
      · rw [e]
        exact Nat.le_max_left _ _
      · exact Nat.le_trans (ih d hd) (Nat.le_max_right _ _)
  have c : (PyData.list es).canLay0 = true := by
    rw [PyData.canLay0]
    exact canAll fun e he => allc ds h1 e (hs e he)
  have dd : (PyData.list es).depth ≤ 64 := by
    rw [PyData.depth]
    have := depAll (n := PyData.depthAll ds) fun e he => alld ds e (hs e he)
    omega
  unfold SeqAt.shaped
  rw [c, decide_eq_true dd]
  rfl
theorem shaped_nil : SeqAt.shaped (.list []) = true := by
  unfold SeqAt.shaped
  simp [PyData.canLay0, PyData.canLayAll0, PyData.depth, PyData.depthAll]
theorem filt_empty {ds : List PyData} {g : PyData → Bool} : (ds.filter fun d => !g d).isEmpty = ds.all g := by
  induction ds with
  | nil => rfl
  | cons d ds ih =>
    cases hg : g d with
    | true =>
      rw [List.filter_cons_of_neg (by rw [hg]; exact Bool.false_ne_true), ih, List.all_cons, hg]
      rfl
    | false =>
      rw [List.filter_cons_of_pos (by rw [hg]; rfl), List.all_cons, hg]
      rfl
section
variable {P : Program} {w : World} {K : PySem.W.Frag} {mg : Str → Option Value} {base : Heap}
def spCnt (K : PySem.W.Frag) : Sp := fun vs H Q _ => ∃ (v : V) (fb : Bool) (ws : List Str) (qs : List QD) (t : V) (d : PyData), vs = [v, t] ∧ Dp K H v (netD fb ws qs) ∧ Dp K H t d ∧ okD 6 d ∧ SeqAt.shaped d = true ∧ ∀ H', Same H H' → Q (.bl (cntD ws.length d)) H'
theorem ok_is_counts {f fR fN : Addr} {fd fdR fdN : FuncData} {k : Nat} (F : Fun K "is_counts" "is_counts" s_is_counts f fd)
    (G_is_row : FnOk P w K mg base CX0 k fR fdR ["thing", "many"] (spRow K)) (g_is_row : mg "is_row" = some (.ref fR)) (F_is_row : Fun K "is_row" "is_row" s_is_row fR fdR) (b_is_row : Binds K fdR ["thing", "many"] [])
    (G_is_number : FnOk P w K mg base CX0 k fN fdN ["thing", "least"] (spNum K)) (g_is_number : mg "is_number" = some (.ref fN)) (F_is_number : FunNum K fN fdN) (b_is_number : Binds K fdN ["thing", "least"] [])
    (m_all : mg "all" = none) (m_len : mg "len" = none) : FnOk P w K mg base CX0 (k + 1) f fd ["net", "thing"] (spCnt K) := by
  refine F.ok sc_is_counts (fun vs H Q E h => ?_) (fun cdv A outer s0 H vs Q E hr h => ?_)
  · obtain ⟨v, fb, ws, qs, t, d, rfl, _⟩ := h
    rfl
  · obtain ⟨v, fb, ws, qs, t, d, rfl, hV, hD, hk, hsh, q⟩ := h
    refine ⟨_, (pss_one (ps_ret (pe_and (pe_call G_is_row hr (by rfl) g_is_row F_is_row.kp b_is_row .nil pass0 (pa_cons (pv 1) (pa_cons (pe_callB call_len_seq (by rfl) m_len PySem.boot_len (pa_cons (pe_ix ix_lt (pv 0) pe_int (fun _ _ => rfl)) pa_nil)) pa_nil))) (pe_one (pe_callB (cr_all rfl) (by rfl) m_all (by decide +kernel) (pa_cons (pe_lcX (pe_lc (own := [("count", 2)]) (g := gName 2) (tt := tYes) (te := tCall (spNum K) [] E0 (tCons (tVar 2) (tCons (tC (.int 0)) tNil))) (by rfl) sc_is_counts.nd (pi_seq (pv 1)) (blkOk_by (own := [("count", 2)]) (N := sc_is_counts_N) (sc := defScope s_is_counts) (by decide +kernel)) (fun _ _ _ _ _ => pg_name (i := 2) sc_is_counts.nd rfl (Or.inl rfl)) (fun _ _ _ _ _ => pts_nil) (fun _ _ _ _ _ => (pe_call G_is_number hr (by rfl) g_is_number F_is_number.kp b_is_number .nil pass0 (pa_cons (pv 2) (pa_cons pe_int pa_nil)))))) pa_nil)))))), ?_⟩
    obtain ⟨a0, a1, a2, xq, rfl, N0⟩ := netAt hV
    have i0 : atI [V.ref a1, V.ref a2] 0 = some (.ref a1) := atI_nat (j := 0) rfl
    walk_at "ev"
    try dsimp only [tC, tNil]
    refine rIxF_at N0.h0 i0 ?_
    walk_at "ev"
    refine ⟨a1, _, rfl, N0.h1.or, ?_⟩
    walk_at "ev"
    refine ⟨t, _, d, rfl, hD, ?_⟩
    rw [List.length_map]
    cases d with
    | tuple ds =>
      obtain ⟨b, xs, rfl, hs, ha⟩ := Dp.seq_of (f := true) hD
      obtain ⟨hk1, hk2⟩ := (okD_seq (n := 5) (f := true)).mp hk
      refine ⟨_, rfl, ?_⟩
      have e0 : cntD ws.length (.tuple ds) = (rowB ws.length (.tuple ds) && ds.all (numD 0)) := rfl
      rw [e0] at q
      cases hb : rowB ws.length (.tuple ds) with
      | false =>
        rw [hb] at q
        exact iteF (q H fun _ _ e => e)
      | true =>
        rw [hb] at q
        refine iteT ?_
        refine lc_bools (numD 0) (fun R' r => ⟨_, rfl, r⟩) hs ha hk1 (fun x => rfl) (fun x d H1 hd hx Q' q' => ?_) (fun D H' s1 h1 => ?_)
        · exact ⟨_, rfl, x, 0, d, rfl, hx, q' H1 fun _ _ e => e⟩
        · refine ⟨D, _, rfl, sql_of h1, ?_⟩
          have e1 : (ds.map (numD 0)).all id = (true && ds.all (numD 0)) := by
            rw [List.all_map]
            rfl
          rw [e1]
          exact q H' s1
    | _ => exact ⟨_, rfl, iteF (q H fun _ _ e => e)⟩
theorem ok_w_are_counts {f fN : Addr} {fd fdN : FuncData} {k : Nat} (F : Fun K "_law_are_counts" "_law_are_counts" s_w_are_counts f fd)
    (G_w_is_count : FnOk P w K mg base CX0 k fN fdN ["_law_matter", "_law_least"] (spNum K)) (g_w_is_count : mg "_law_is_count" = some (.ref fN)) (F_w_is_count : Fun K "_law_is_count" "_law_is_count" s_w_is_count fN fdN) (b_w_is_count : Binds K fdN ["_law_matter", "_law_least"] [])
    (m_isinstance : mg "isinstance" = none) (m_tuple : mg "tuple" = none) (m_len : mg "len" = none) : FnOk P w K mg base CX0 (k + 1) f fd ["_law_web_here", "_law_matter"] (spCnt K) := by
  refine F.ok sc_w_are_counts (fun vs H Q E h => ?_) (fun cdv A outer s0 H vs Q E hr h => ?_)
  · obtain ⟨v, fb, ws, qs, t, d, rfl, _⟩ := h
    rfl
  · obtain ⟨v, fb, ws, qs, t, d, rfl, hV, hD, hk, hsh, q⟩ := h
    refine ⟨_, (pss_cons (ps_if (PW.pt (pw_or (pt_not (pt_val (pe_callB call_isi (by rfl) m_isinstance (by decide +kernel) (pa_cons (pv 1) (pa_cons (pe_bltn (v := .ty "tuple") (u := .type "tuple") (by rfl) m_tuple (by decide +kernel) rfl) pa_nil))))) (pw_or1 (pt_cmpR op_ne (pe_callB call_len_seq (by rfl) m_len PySem.boot_len (pa_cons (pv 1) pa_nil)) (pe_callB call_len_seq (by rfl) m_len PySem.boot_len (pa_cons (pe_ix ix_lt (pv 0) pe_int (fun _ _ => rfl)) pa_nil)) (nomark _))))) (pss_one (ps_ret pe_bl)) pss_nil) 
    (pss_one (ps_ret (pe_cmpR (op_eqD hr.units) (pe_lcX (pe_lc (own := [("_law_bit", 2)]) (g := gName 2) (tt := tNot (tB (tCall (spNum K) [] E0 (tCons (tVar 2) (tCons (tC (.int 0)) tNil))))) (te := tVar 2) (by rfl) sc_w_are_counts.nd (pi_seq (pv 1)) (blkOk_by (own := [("_law_bit", 2)]) (N := sc_w_are_counts_N) (sc := defScope s_w_are_counts) (by decide +kernel)) (fun _ _ _ _ _ => pg_name (i := 2) sc_w_are_counts.nd rfl (Or.inl rfl)) (fun _ _ _ _ _ => (pts_one (pt_not (pt_val (pe_call G_w_is_count hr (by rfl) g_w_is_count F_w_is_count.kp b_w_is_count .nil pass0 (pa_cons (pv 2) (pa_cons pe_int pa_nil))))))) (fun _ _ _ _ _ => (pv 2)))) (pe_lst pa_nil) (nomark _))))), ?_⟩
    obtain ⟨a0, a1, a2, xq, rfl, N0⟩ := netAt hV
    have i0 : atI [V.ref a1, V.ref a2] 0 = some (.ref a1) := atI_nat (j := 0) rfl
    walk_at "ev"
    walk_at "nrm"
    refine isi1 hD (fun t e => by rw [e]; exact kT d) ?_
    cases d with
    | tuple ds =>
      obtain ⟨b, xs, rfl, hs, ha⟩ := Dp.seq_of (f := true) hD
      have hs' : SqT K H b xs := hs
      obtain ⟨hk1, hk2⟩ := (okD_seq (n := 5) (f := true)).mp hk
      walk_at "ev"
      try dsimp only [tC, tNil]
      refine rIxF_at N0.h0 i0 ?_
      walk_at "ev"
      refine ⟨a1, _, rfl, N0.h1.or, ?_⟩
      walk_at "ev"
      rw [decV, List.length_map, dpa_len ha]
      have e0 : cntD ws.length (.tuple ds) = (decide ((ds.length : Int) = ws.length) && ds.all (numD 0)) := rfl
      rw [e0] at q
      cases hb : decide ((ds.length : Int) = ws.length) with
      | false =>
        rw [hb] at q
        exact iteT (q H fun _ _ e => e)
      | true =>
        rw [hb] at q
        refine iteF ?_
        walk_at "ev"
        refine lc_filt (fun d => !numD 0 d) (fun R' r => ⟨_, rfl, r⟩) hs ha hk1 (fun x => rfl) (fun x => rfl) (fun x d H1 hd hx Q' q' => ?_) (fun D ys H' s1 hD0 h1 h2 => ?_)
        · exact ⟨_, rfl, x, 0, d, rfl, hx, _, rfl, q' H1 fun _ _ e => e⟩
        · walk_at "ev"
          intro N hN
          have s2 := Same.upd (o := .lst []) hN
          refine ⟨.list (ds.filter fun d => !numD 0 d), .list [], .lst (sql_of (s2 _ _ h1)) (s2.dpa h2), .lst (sql_of upd_same) .nil, shaped_parts hsh _ fun e he => (List.mem_filter.mp he).1, shaped_nil, ?_⟩
          rw [eqv_nil, filt_empty]
          exact q _ (s1.trans s2)
    | _ =>
      walk_at "ev"
      exact q H fun _ _ e => e
end
end Jl

set_option Elab.async false
set_option linter.all false
set_option maxRecDepth 100000
set_option maxHeartbeats 1000000
set_option pp.maxSteps 900
namespace Jl
open PySem PySem.Spec PyProof.Rows L2
open Evl (sz_of sz_lt)
local macro_rules | `(tactic| walk_at "at") => `(tactic| first | exact box0 | exact box1 | exact box2)
local macro_rules | `(tactic| walk_at "sq") => `(tactic| first | (show SqL _ _ _ _; assumption) | (show SqT _ _ _ _; assumption) | (show _ = some _; assumption))
local macro_rules | `(tactic| walk_at "side") => `(tactic| first
  | (show (0 : Int) < _; decide)
  | (show (0 : Int) < _; omega)
  | exact ⟨by decide, by decide, by decide⟩
  | exact sz_of (Nat.le_of_ble_eq_true rfl)
  | exact rfl
  | exact Or.inl (by decide)
  | exact Or.inr (by decide)
  | exact Or.inr ⟨by omega, by omega⟩
  | exact Or.inl ⟨by omega, by omega⟩
  | exact ⟨by decide, by decide +kernel⟩)
local macro_rules | `(tactic| walk_at "ev1") => `(tactic| first
  | refine ⟨_, rfl, ?_⟩
  | refine ⟨_, _, rfl, rfl, ?_⟩
  | refine ⟨_, _, _, _, rfl, rfl, (by walk_at "sq"), (by walk_at "at"), ?_⟩
  | refine ⟨_, _, rfl, (by walk_at "sq"), ?_⟩
  | refine ⟨_, _, rfl, Or.inl (by walk_at "sq"), ?_⟩
  | refine ⟨_, _, rfl, Or.inr (by walk_at "sq"), ?_⟩
  | refine Or.inl ⟨_, rfl, ?_⟩
  | refine Or.inr ⟨_, rfl, ?_⟩
  | refine ⟨(by walk_at "side"), ?_⟩
  | refine ⟨.inl ⟨rfl, _, (by walk_at "sq")⟩, ?_⟩
  | refine ⟨_, _, rfl, ?_⟩)
local macro_rules | `(tactic| walk_at "nrm") => `(tactic| dsimp only [tNil, tCons, tC, tCB])
local macro_rules | `(tactic| walk_at "ev") => `(tactic| repeat (walk_at "ev1"))

abbrev sc_is_drops_N : List Str := ["net", "thing", "known", "queue", "number", "pair"]
abbrev s_is_drops : Stmt := topS 6
theorem sc_is_drops : FnScope ["net", "thing", "known", "queue", "number", "pair"] ["net", "thing"] (defScope s_is_drops) := ⟨rfl, rfl, rfl, by decide +kernel, rfl, by decide +kernel, by decide +kernel⟩
/-- {key: True for x in a row} -/
theorem dc_keys {K : PySem.W.Frag} {tl tk tv : TE} {j : Nat} {vs : List Nat} {σ : L2.St} {H H0 : Hp} {Q : VK} {a : Addr} {fb : Bool} {xs : List V} {ks : List Str} (hn : ks.Nodup) (hlen : xs.length = ks.length)
    (ht : ∀ R' : VK, R' (.ref a) H0 → tl σ H R') (hs : SqF fb K H0 a xs) (hl : xs.length ≤ 1000) (hw : ∀ x, wipe ((wipe σ vs).set j (some x)) vs = wipe σ vs)
    (hk : ∀ (i : Nat) (x : V) (z : Str) (H1 : Hp) (Q' : VK), xs[i]? = some x → ks[i]? = some z → Same H0 H1 → Q' (.str z) H1 → tk ((wipe σ vs).set j (some x)) H1 Q') (hv : ∀ (x : V) (H1 : Hp) (Q' : VK), Q' (.bl true) H1 → tv ((wipe σ vs).set j (some x)) H1 Q')
    (q : ∀ D, H0 D = none → Q (.ref D) (upd H0 D (.dK (ks.map fun x => (.inr x, .bl true))))) : tDcX (iSeq K tl) (gName j) tYes tk tv vs σ H Q := by
  refine dc_of ?_
  refine iSeq_at ht hs fun J w D hD => ?_
  refine ⟨fun i m H1 => m = xs.length - i ∧ i ≤ xs.length ∧ H1 = upd H0 D (.dK ((ks.take i).map fun x => (.inr x, .bl true))), ⟨_, rfl, Nat.zero_le _, rfl⟩, fun i m H1 hW => ?_⟩
  obtain ⟨rfl, hi, rfl⟩ := hW
  have hG : SqF fb K (upd H0 D (.dK ((ks.take i).map fun x => (.inr x, .bl true)))) a xs := (Same.upd hD).sqF hs
  by_cases hlt : i < xs.length
  · refine .inr ⟨w.goes i _ (by omega) hG, fun H2 => H2 = upd H0 D (.dK ((ks.take (i + 1)).map fun x => (.inr x, .bl true))), fun H2 e => ⟨xs.length - (i + 1), by omega, rfl, hlt, e⟩, fun x H2 y => ?_⟩
    obtain ⟨rfl, hx⟩ := w.yields i _ x H2 (by omega) hG y
    have hlt2 : i < ks.length := by omega
    refine ⟨hw _, ?_⟩
    dsimp only [tYes]
    rw [if_pos rfl]
    refine hk i x ks[i] _ _ hx (List.getElem?_eq_getElem hlt2) (Same.upd hD) (hv _ _ _ ⟨_, .inr ks[i], rfl, upd_same, ?_, ?_⟩)
    · rw [List.length_map, List.length_take]
      exact sz_lt (by omega)
    · rw [upd_upd, List.take_add_one, List.getElem?_eq_getElem hlt2, List.map_append, putK_new]
      · rfl
      · have hno : ∀ ys : List Str, ks[i] ∉ ys → valV (ys.map fun x => ((.inr x : Key), V.bl true)) (.inr ks[i]) = none := by
          intro ys
          induction ys with
          | nil => exact fun _ => rfl
          | cons y ys ih =>
            intro hy
            rw [List.map_cons, valV_neg (fun e => hy (by rw [← Sum.inr.inj e]; exact List.mem_cons_self))]
            exact ih fun h => hy (List.mem_cons_of_mem _ h)
        refine hno _ fun hm => ?_
        obtain ⟨k, hk1, hk2⟩ := List.mem_take_iff_getElem.mp hm
        have := nd_ix hn (List.getElem?_eq_getElem hlt2) (by rw [List.getElem?_eq_getElem (show k < ks.length by omega)]; exact congrArg some hk2)
        omega
  · have e : i = xs.length := by omega
    subst e
    refine .inl ⟨w.stops _ hG, ?_⟩
    rw [hlen, List.take_length]
    exact q D hD
theorem valV_in : ∀ {ks : List Str} {z : Str}, (valV (ks.map fun x => ((.inr x : Key), V.bl true)) (.inr z)).isSome = decide (z ∈ ks)
  | [], z => by
    rw [decide_eq_false List.not_mem_nil]
    rfl
  | y :: ks, z => by
    by_cases e : y = z
    · subst e
      rw [List.map_cons, valV_pos rfl, decide_eq_true List.mem_cons_self]
      rfl
    · rw [List.map_cons, valV_neg (fun q => e (Sum.inr.inj q)), valV_in]
      refine decide_eq_decide.mpr ⟨fun h => List.mem_cons_of_mem _ h, fun h => ?_⟩
      rcases List.mem_cons.mp h with h | h
      · exact absurd h.symm e
      · exact h
def pairB (nm : List Str) : PyData → Bool
  | .tuple [.str q, .int i] => decide (q ∈ nm) && decide (1 ≤ i)
  | _ => false
def dropsD (nm : List Str) : PyData → Bool
  | .tuple ds => ds.all (pairB nm) && ascD ds
  | _ => false
theorem pairB_of {nm : List Str} {d : PyData} (h : pairB nm d = true) : ∃ q i, d = .tuple [.str q, .int i] ∧ q ∈ nm ∧ 1 ≤ i := by
  unfold pairB at h
  split at h
  · rename_i q i
    rw [Bool.and_eq_true] at h
    exact ⟨q, i, rfl, of_decide_eq_true h.1, of_decide_eq_true h.2⟩
  · cases h
/-- a pair, place by place -/
def pairC (nm : List Str) (x y : PyData) : Bool := match x with
  | .str q => decide (q ∈ nm) && numD 1 y
  | _ => false
theorem pairB_two {nm : List Str} {x y : PyData} : pairB nm (.tuple [x, y]) = pairC nm x y := by
  cases x <;> cases y <;> simp [pairB, numD, pairC]
theorem pair_of {K : PySem.W.Frag} {H : Hp} {v : V} {d : PyData} (h : Dp K H v d) (hr : rowB 2 d = true) : ∃ (c : Addr) (u1 u2 : V) (d1 d2 : PyData), v = .ref c ∧ d = .tuple [d1, d2] ∧ SqT K H c [u1, u2] ∧ Dp K H u1 d1 ∧ Dp K H u2 d2 := by
  cases h with
  | tup hs ha =>
    rename_i a xs ds
    have hl : ds.length = 2 := by
      have : ((ds.length : Nat) : Int) = 2 := of_decide_eq_true hr
      omega
    cases ha with
    | nil => cases hl
    | cons g1 ha =>
      cases ha with
      | nil => cases hl
      | cons g2 ha =>
        cases ha with
        | nil => exact ⟨a, _, _, _, _, rfl, rfl, hs, g1, g2⟩
        | cons _ _ =>
          rw [List.length_cons, List.length_cons, List.length_cons] at hl
          omega
  | _ => cases hr
section
variable {P : Program} {w : World} {K : PySem.W.Frag} {mg : Str → Option Value} {base : Heap}
def spDrp (K : PySem.W.Frag) : Sp := fun vs H Q _ => ∃ (v : V) (fb : Bool) (ws : List Str) (qs : List QD) (t : V) (d : PyData), vs = [v, t] ∧ Dp K H v (netD fb ws qs) ∧ (qs.map QD.nm).Nodup ∧ qs.length ≤ 60 ∧ Dp K H t d ∧ okD 6 d ∧ SeqAt.shaped d = true ∧ ∀ H', Same H H' → Q (.bl (dropsD (qs.map QD.nm) d)) H'
theorem ok_is_drops {f fR fN fA : Addr} {fd fdR fdN fdA : FuncData} {k : Nat} (F : Fun K "is_drops" "is_drops" s_is_drops f fd)
    (G_is_row : FnOk P w K mg base CX0 k fR fdR ["thing", "many"] (spRow K)) (g_is_row : mg "is_row" = some (.ref fR)) (F_is_row : Fun K "is_row" "is_row" s_is_row fR fdR) (b_is_row : Binds K fdR ["thing", "many"] [])
    (G_is_number : FnOk P w K mg base CX0 k fN fdN ["thing", "least"] (spNum K)) (g_is_number : mg "is_number" = some (.ref fN)) (F_is_number : FunNum K fN fdN) (b_is_number : Binds K fdN ["thing", "least"] [])
    (G_ascends : FnOk P w K mg base CX0 k fA fdA ["row"] (spAsc K)) (g_ascends : mg "ascends" = some (.ref fA)) (F_ascends : Fun K "ascends" "ascends" s_ascends fA fdA) (b_ascends : Binds K fdA ["row"] [])
    (m_isinstance : mg "isinstance" = none) (m_tuple : mg "tuple" = none) (m_str : mg "str" = none) (m_all : mg "all" = none) : FnOk P w K mg base CX0 (k + 1) f fd ["net", "thing"] (spDrp K) := by
  refine F.ok sc_is_drops (fun vs H Q E h => ?_) (fun cdv A outer s0 H vs Q E hr h => ?_)
  · obtain ⟨v, fb, ws, qs, t, d, rfl, _⟩ := h
    rfl
  · obtain ⟨v, fb, ws, qs, t, d, rfl, hV, hnd, hql, hD, hk, hsh, q⟩ := h
    have hu := hu_of hr
    refine ⟨_, (pss_cons (ps_if (PW.pt (pw_or (pt_not (pt_val (pe_callB call_isi (by rfl) m_isinstance (by decide +kernel) (pa_cons (pv 1) (pa_cons (pe_bltn (v := .ty "tuple") (u := .type "tuple") (by rfl) m_tuple (by decide +kernel) rfl) pa_nil))))) (pw_or1 (pt_not (pt_val (pe_callB (cr_all rfl) (by rfl) m_all (by decide +kernel) (pa_cons (pe_lcX (pe_lc (own := [("pair", 5)]) (g := gName 5) (tt := tYes) (te := tCall (spRow K) [] E0 (tCons (tVar 5) (tCons (tC (.int 2)) tNil))) (by rfl) sc_is_drops.nd (pi_seq (pv 1)) (blkOk_by (own := [("pair", 5)]) (N := sc_is_drops_N) (sc := defScope s_is_drops) (by decide +kernel)) (fun _ _ _ _ _ => pg_name (i := 5) sc_is_drops.nd rfl (Or.inl rfl)) (fun _ _ _ _ _ => pts_nil) (fun _ _ _ _ _ => (pe_call G_is_row hr (by rfl) g_is_row F_is_row.kp b_is_row .nil pass0 (pa_cons (pv 5) (pa_cons pe_int pa_nil)))))) pa_nil))))))) (pss_one (ps_ret pe_bl)) pss_nil) 
    (pss_cons (ps_setDcX (ps_setDc (i := 2) (own := [("queue", 3)]) (g := gName 3) (tt := tYes) (tk := tOp (rIxF K) (tVar 3) (tC (.int 0))) rfl sc_is_drops.nd rfl rfl (swd_true rfl rfl rfl (by decide +kernel)) (pi_seq (pe_ix ix_lt (pv 0) pe_int (fun _ _ => rfl))) (blkOk_by (own := [("queue", 3)]) (N := sc_is_drops_N) (sc := defScope s_is_drops) (by decide +kernel)) (fun _ _ _ _ _ => pg_name (i := 3) sc_is_drops.nd rfl (Or.inl rfl)) (fun _ _ _ _ _ => pts_nil) (fun _ _ _ _ _ => (pe_ix ix_lt (pv 3) pe_int (fun _ _ => rfl))) (fun _ _ _ _ _ => pe_bl))) 
    (pss_cons (ps_forX (ps_for PassesOwn.never rfl (pi_seq (pv 1)) (pg_tup rfl (pgs_cons (pg_name (i := 3) sc_is_drops.nd rfl (Or.inl rfl)) (pgs_cons (pg_name (i := 4) sc_is_drops.nd rfl (Or.inl rfl)) pgs_nil))) (pss_one (ps_if (PW.pt (pw_or (pt_not (pt_val (pe_callB call_isi (by rfl) m_isinstance (by decide +kernel) (pa_cons (pv 3) (pa_cons (pe_bltn (v := .ty "str") (u := .type "str") (by rfl) m_str (by decide +kernel) rfl) pa_nil))))) (pw_or (pt_cmp (pc_dnotin hu (pv 3) (pv 2))) (pw_or1 (pt_not (pt_val (pe_call G_is_number hr (by rfl) g_is_number F_is_number.kp b_is_number .nil pass0 (pa_cons (pv 4) (pa_cons pe_int pa_nil))))))))) (pss_one (ps_ret pe_bl)) pss_nil)))) 
    (pss_one (ps_ret (pe_call G_ascends hr (by rfl) g_ascends F_ascends.kp b_ascends .nil pass0 (pa_cons (pv 1) pa_nil))))))), ?_⟩
    obtain ⟨a0, a1, a2, xq, rfl, N0⟩ := netAt hV
    have i1 : atI [V.ref a1, V.ref a2] 1 = some (.ref a2) := atI_nat (j := 1) rfl
    walk_at "ev"
    walk_at "nrm"
    refine isi1 hD (fun t e => by rw [e]; exact kT d) ?_
    cases d with
    | tuple ds =>
      obtain ⟨b, xs, rfl, hs, ha⟩ := Dp.seq_of (f := true) hD
      have hs' : SqT K H b xs := hs
      obtain ⟨hk1, hk2⟩ := (okD_seq (n := 5) (f := true)).mp hk
      walk_at "ev"
      refine lc_bools (rowB 2) (fun R' r => ⟨_, rfl, r⟩) hs ha hk1 (fun x => rfl) (fun x d H1 hd hx Q' q' => ?_) (fun D H1 s1 h1 => ?_)
      · exact ⟨_, rfl, x, 2, d, rfl, hx, q' H1 fun _ _ e => e⟩
      · refine ⟨D, _, rfl, sql_of h1, ?_⟩
        have e1 : (ds.map (rowB 2)).all id = ds.all (rowB 2) := by
          rw [List.all_map]
          rfl
        rw [e1]
        have e0 : dropsD (qs.map QD.nm) (.tuple ds) = (ds.all (pairB (qs.map QD.nm)) && ascD ds) := rfl
        cases hb : ds.all (rowB 2) with
        | false =>
          refine ⟨_, rfl, iteT ?_⟩
          refine (?_ : Q (.bl false) H1)
          have e2 : ds.all (pairB (qs.map QD.nm)) = false := by
            rw [← Bool.not_eq_true]
            intro z
            have z2 : ds.all (rowB 2) = true := List.all_eq_true.mpr fun d hd => by
              obtain ⟨q, i, rfl, _⟩ := pairB_of (List.all_eq_true.mp z d hd)
              rfl
            rw [hb] at z2
            cases z2
          rw [e0, e2] at q
          exact q H1 s1
        | true =>
          refine ⟨_, rfl, iteF ?_⟩
          have N1 := N0.same s1
          have hr2 := List.all_eq_true.mp hb
          have hkl : xq.length = (qs.map QD.nm).length := by rw [List.length_map]; exact N0.ll
          refine dc_keys hnd hkl (fun R' r => ⟨_, rfl, rIxF_at N1.h0 i1 r⟩) N1.h2 (by rw [N0.ll]; omega) (fun x => rfl) (fun i x z H2 Q' hx hz s2 q' => ?_) (fun x H2 Q' q' => q') (fun M hM => ?_)
          · obtain ⟨q1, aq, hq1, rfl, hq2⟩ := N0.hq i x hx
            rw [List.getElem?_map, hq1] at hz
            cases hz
            exact ⟨_, rfl, rIxF_at (s2.sqF (s1.sqF hq2)) (atI_nat (j := 0) rfl) q'⟩
          · have s2 : Same H (upd H1 M (.dK ((qs.map QD.nm).map fun x => (.inr x, .bl true)))) := s1.trans (.upd hM)
            have hM2 : (upd H1 M (.dK ((qs.map QD.nm).map fun x => (.inr x, .bl true)))) M = some (.dK ((qs.map QD.nm).map fun x => (.inr x, .bl true))) := upd_same
            show gName 2 (.ref M) _ (upd H1 M (.dK ((qs.map QD.nm).map fun x => (.inr x, .bl true)))) _
            generalize upd H1 M (.dK ((qs.map QD.nm).map fun x => (.inr x, .bl true))) = H2 at s2 hM2 ⊢
            refine for_of ?_
            refine iSeq_at (fun R' r => ⟨_, rfl, r⟩) (s2.sqF hs) fun J wk => ?_
            refine forR_it wk (fun i σ Hc => ∃ x3 x4, σ = [some (.ref a0), some (.ref b), some (.ref M), x3, x4, none] ∧ Same H Hc ∧ Hc M = some (.dK ((qs.map QD.nm).map fun x => (.inr x, .bl true))) ∧ ∀ d ∈ ds.take i, pairB (qs.map QD.nm) d = true) ⟨_, _, rfl, s2, hM2, fun d hd => absurd hd List.not_mem_nil⟩ (fun i σ Hc _ hh => ?_) (fun i v σ Hc Hc' hi hh y => ?_) (fun σ Hc hh => ?_)
            · obtain ⟨_, _, _, e3, _⟩ := hh
              exact e3.sqF hs
            · obtain ⟨x3, x4, rfl, e3, hMc, hall⟩ := hh
              obtain ⟨rfl, hv⟩ := y
              obtain ⟨d, hd, hvd⟩ := dpa_get ha hv
              have hdm := List.mem_of_getElem? hd
              have hrd := hr2 d hdm
              have htk : ds.take (i + 1) = ds.take i ++ [d] := by rw [List.take_add_one, hd]; rfl
              have bad : pairB (qs.map QD.nm) d = false → Q (.bl false) Hc' := fun hp => by
                have e2 : ds.all (pairB (qs.map QD.nm)) = false := by
                  rw [← Bool.not_eq_true]
                  intro z
                  have := List.all_eq_true.mp z d hdm
                  rw [hp] at this
                  cases this
                rw [e0, e2] at q
                exact q _ e3
              obtain ⟨c, u1, u2, d1, d2, rfl, rfl, hc, g1, g2⟩ := pair_of hvd hrd
              have hc' : SqT K Hc' c [u1, u2] := e3.sqT hc
              refine ⟨c, [u1, u2], rfl, hc', rfl, u1, [u2], rfl, u2, [], rfl, rfl, ?_⟩
              walk_at "ev"
              walk_at "nrm"
              refine isi1 (e3.dp g1) (fun t e => by rw [e]; exact kS d1) ?_
              rw [pairB_two] at bad
              have good : pairC (qs.map QD.nm) d1 d2 = true → ∀ d ∈ ds.take (i + 1), pairB (qs.map QD.nm) d = true := fun hg d hd => by
                rw [htk] at hd
                rcases List.mem_append.mp hd with hd | hd
                · exact hall d hd
                · rw [List.mem_singleton.mp hd, pairB_two]
                  exact hg
              cases d1 with
              | str q =>
                cases g1
                refine ⟨_, rfl, iteF ?_⟩
                refine ⟨_, rfl, _, rfl, M, _, rfl, DGet.k (k := .inr q) hMc, ?_⟩
                rw [valV_in]
                cases hq : decide (q ∈ qs.map QD.nm) with
                | false =>
                  refine ⟨_, rfl, iteT (iteT ?_)⟩
                  exact bad (by show (decide (q ∈ qs.map QD.nm) && numD 1 d2) = false; rw [hq]; rfl)
                | true =>
                  refine ⟨_, rfl, iteF ?_⟩
                  refine ⟨_, rfl, u2, 1, d2, rfl, e3.dp g2, ?_⟩
                  cases hn : numD 1 d2 with
                  | false =>
                    refine ⟨_, rfl, iteT ?_⟩
                    exact bad (by show (decide (q ∈ qs.map QD.nm) && numD 1 d2) = false; rw [hq, hn]; rfl)
                  | true =>
                    refine ⟨_, rfl, iteF ?_⟩
                    exact ⟨_, _, rfl, e3, hMc, good (by show (decide (q ∈ qs.map QD.nm) && numD 1 d2) = true; rw [hq, hn]; rfl)⟩
              | _ =>
                refine ⟨_, rfl, iteT (iteT ?_)⟩
                exact bad rfl
            · obtain ⟨x3, x4, rfl, e3, hMc, hall⟩ := hh
              rw [dpa_len ha, List.take_length] at hall
              walk_at "ev"
              refine ⟨.ref b, true, ds, rfl, Dp.seq (f := true) (e3.sqF hs) (e3.dpa ha), hk1, fun i d e hd he => ?_, fun H3 s3 => ?_⟩
              · obtain ⟨q1, i1, rfl, _⟩ := pairB_of (hall d (List.mem_of_getElem? hd))
                obtain ⟨q2, i2, rfl, _⟩ := pairB_of (hall e (List.mem_of_getElem? he))
                exact ⟨by simp [PySem.W.alike, PySem.W.alikeAll], by simp, by simp [PyData.depth, PyData.depthAll]⟩
              · rw [e0, List.all_eq_true.mpr hall] at q
                exact q _ (e3.trans s3)
    | _ =>
      walk_at "ev"
      exact q H fun _ _ e => e
end
end Jl

set_option Elab.async false
set_option linter.all false
set_option maxRecDepth 100000
set_option maxHeartbeats 1000000
set_option pp.maxSteps 900
namespace Jl
open PySem PySem.Spec PyProof.Rows L2
open Evl (sz_of sz_lt)
local macro_rules | `(tactic| walk_at "at") => `(tactic| first | exact box0 | exact box1 | exact box2)
local macro_rules | `(tactic| walk_at "sq") => `(tactic| first | (show SqL _ _ _ _; assumption) | (show SqT _ _ _ _; assumption) | (show _ = some _; assumption))
local macro_rules | `(tactic| walk_at "side") => `(tactic| first
  | (show (0 : Int) < _; decide)
  | (show (0 : Int) < _; omega)
  | exact ⟨by decide, by decide, by decide⟩
  | exact sz_of (Nat.le_of_ble_eq_true rfl)
  | exact rfl
  | exact Or.inl (by decide)
  | exact Or.inr (by decide)
  | exact Or.inr ⟨by omega, by omega⟩
  | exact Or.inl ⟨by omega, by omega⟩
  | exact ⟨by decide, by decide +kernel⟩)
local macro_rules | `(tactic| walk_at "ev1") => `(tactic| first
  | refine ⟨_, rfl, ?_⟩
  | refine ⟨_, _, rfl, rfl, ?_⟩
  | refine ⟨_, _, _, _, rfl, rfl, (by walk_at "sq"), (by walk_at "at"), ?_⟩
  | refine ⟨_, _, rfl, (by walk_at "sq"), ?_⟩
  | refine ⟨_, _, rfl, Or.inl (by walk_at "sq"), ?_⟩
  | refine ⟨_, _, rfl, Or.inr (by walk_at "sq"), ?_⟩
  | refine Or.inl ⟨_, rfl, ?_⟩
  | refine Or.inr ⟨_, rfl, ?_⟩
  | refine ⟨(by walk_at "side"), ?_⟩
  | refine ⟨.inl ⟨rfl, _, (by walk_at "sq")⟩, ?_⟩
  | refine ⟨_, _, rfl, ?_⟩)
local macro_rules | `(tactic| walk_at "nrm") => `(tactic| dsimp only [tNil, tCons, tC, tCB])
local macro_rules | `(tactic| walk_at "ev") => `(tactic| repeat (walk_at "ev1"))

abbrev sc_w_are_cuts_N : List Str := ["_law_web_here", "_law_matter", "_law_bit", "_law_k", "_law_row"]
abbrev s_w_are_cuts : Stmt := topS 19
theorem sc_w_are_cuts : FnScope ["_law_web_here", "_law_matter", "_law_bit", "_law_k", "_law_row"] ["_law_web_here", "_law_matter"] (defScope s_w_are_cuts) := ⟨rfl, rfl, rfl, by decide +kernel, rfl, by decide +kernel, by decide +kernel⟩
theorem ltI {ds : List PyData} : (((List.range (ds.length - 1)).filter fun i => !PySem.W.dataLt (ds.getD i .none) (ds.getD (i + 1) .none))).isEmpty = ascD ds := by
  unfold ascD
  generalize List.range (ds.length - 1) = l
  induction l with
  | nil => rfl
  | cons i l ih =>
    cases hg : PySem.W.dataLt (ds.getD i .none) (ds.getD (i + 1) .none) with
    | true =>
      rw [List.filter_cons_of_neg (by rw [hg]; exact Bool.false_ne_true), ih, List.all_cons, hg]
      rfl
    | false =>
      rw [List.filter_cons_of_pos (by rw [hg]; rfl), List.all_cons, hg]
      rfl
theorem shaped_ints {is : List Int} : SeqAt.shaped (.list (is.map PyData.int)) = true := by
  have c : (PyData.list (is.map PyData.int)).canLay0 = true := by
    rw [PyData.canLay0]
    exact canAll fun e he => by
      obtain ⟨i, _, rfl⟩ := List.mem_map.mp he
      simp [PyData.canLay0]
  have dd : (PyData.list (is.map PyData.int)).depth ≤ 64 := by
    rw [PyData.depth]
    have := depAll (n := 0) (ds := is.map PyData.int) fun e he => by
      obtain ⟨i, _, rfl⟩ := List.mem_map.mp he
      simp [PyData.depth]
    omega
  unfold SeqAt.shaped
  rw [c, decide_eq_true dd]
  rfl
theorem dpa_ints {K : PySem.W.Frag} {H : Hp} : ∀ {is : List Int}, DpAll K H (is.map V.int) (is.map PyData.int)
  | [] => .nil
  | i :: is => .cons (.int i) dpa_ints
theorem pairB_T {nm : List Str} {d : PyData} (h : isT d = false) : pairB nm d = false := by
  cases d <;> first | rfl | cases h
section
variable {P : Program} {w : World} {K : PySem.W.Frag} {mg : Str → Option Value} {base : Heap}
theorem ok_w_are_cuts {f fN : Addr} {fd fdN : FuncData} {k : Nat} (F : Fun K "_law_are_cuts" "_law_are_cuts" s_w_are_cuts f fd)
    (G_w_is_count : FnOk P w K mg base CX0 k fN fdN ["_law_matter", "_law_least"] (spNum K)) (g_w_is_count : mg "_law_is_count" = some (.ref fN)) (F_w_is_count : Fun K "_law_is_count" "_law_is_count" s_w_is_count fN fdN) (b_w_is_count : Binds K fdN ["_law_matter", "_law_least"] [])
    (m_isinstance : mg "isinstance" = none) (m_tuple : mg "tuple" = none) (m_str : mg "str" = none) (m_len : mg "len" = none) (m_range : mg "range" = none) : FnOk P w K mg base CX0 (k + 1) f fd ["_law_web_here", "_law_matter"] (spDrp K) := by
  refine F.ok sc_w_are_cuts (fun vs H Q E h => ?_) (fun cdv A outer s0 H vs Q E hr h => ?_)
  · obtain ⟨v, fb, ws, qs, t, d, rfl, _⟩ := h
    rfl
  · obtain ⟨v, fb, ws, qs, t, d, rfl, hV, hnd, hql, hD, hk, hsh, q⟩ := h
    refine ⟨_, (pss_cons (ps_if (pt_not (pt_val (pe_callB call_isi (by rfl) m_isinstance (by decide +kernel) (pa_cons (pv 1) (pa_cons (pe_bltn (v := .ty "tuple") (u := .type "tuple") (by rfl) m_tuple (by decide +kernel) rfl) pa_nil))))) (pss_one (ps_ret pe_bl)) pss_nil) 
    (pss_cons (ps_forX (ps_for PassesOwn.never rfl (pi_seq (pv 1)) (pg_name (i := 2) sc_w_are_cuts.nd rfl (Or.inl rfl)) 
      (pss_cons (ps_if (PW.pt (pw_or (pt_not (pt_val (pe_callB call_isi (by rfl) m_isinstance (by decide +kernel) (pa_cons (pv 2) (pa_cons (pe_bltn (v := .ty "tuple") (u := .type "tuple") (by rfl) m_tuple (by decide +kernel) rfl) pa_nil))))) (pw_or (pt_cmpR op_ne (pe_callB call_len_seq (by rfl) m_len PySem.boot_len (pa_cons (pv 2) pa_nil)) pe_int (nomark _)) (pw_or1 (pt_not (pt_val (pe_callB call_isi (by rfl) m_isinstance (by decide +kernel) (pa_cons (pe_ix ix_lt (pv 2) pe_int (fun _ _ => rfl)) (pa_cons (pe_bltn (v := .ty "str") (u := .type "str") (by rfl) m_str (by decide +kernel) rfl) pa_nil))))))))) (pss_one (ps_ret pe_bl)) pss_nil) 
      (pss_one (ps_if (PW.pt (pw_or (pt_cmpR op_notIn_seq (pe_ix ix_lt (pv 2) pe_int (fun _ _ => rfl)) (pe_lcX (pe_lc (own := [("_law_row", 4)]) (g := gName 4) (tt := tYes) (te := tOp (rIxF K) (tVar 4) (tC (.int 0))) (by rfl) sc_w_are_cuts.nd (pi_seq (pe_ix ix_lt (pv 0) pe_int (fun _ _ => rfl))) (blkOk_by (own := [("_law_row", 4)]) (N := sc_w_are_cuts_N) (sc := defScope s_w_are_cuts) (by decide +kernel)) (fun _ _ _ _ _ => pg_name (i := 4) sc_w_are_cuts.nd rfl (Or.inl rfl)) (fun _ _ _ _ _ => pts_nil) (fun _ _ _ _ _ => (pe_ix ix_lt (pv 4) pe_int (fun _ _ => rfl))))) (by with_unfolding_all rfl)) (pw_or1 (pt_not (pt_val (pe_call G_w_is_count hr (by rfl) g_w_is_count F_w_is_count.kp b_w_is_count .nil pass0 (pa_cons (pe_ix ix_lt (pv 2) pe_int (fun _ _ => rfl)) (pa_cons pe_int pa_nil)))))))) (pss_one (ps_ret pe_bl)) pss_nil))))) 
    (pss_one (ps_ret (pe_cmpR (op_eqD hr.units) (pe_lcX (pe_lc (own := [("_law_k", 3)]) (g := gName 3) (tt := tNot (tTest (tOp (rLtD K) (tOp (rIxF K) (tVar 1) (tOp (rI0 fun i j => .int (i - j)) (tVar 3) (tC (.int 1)))) (tOp (rIxF K) (tVar 1) (tVar 3))))) (te := tVar 3) (by rfl) sc_w_are_cuts.nd (pi_range2 (by rfl) m_range (pa_cons pe_int (pa_cons (pe_callB call_len_seq (by rfl) m_len PySem.boot_len (pa_cons (pv 1) pa_nil)) pa_nil))) (blkOk_by (own := [("_law_k", 3)]) (N := sc_w_are_cuts_N) (sc := defScope s_w_are_cuts) (by decide +kernel)) (fun _ _ _ _ _ => pg_name (i := 3) sc_w_are_cuts.nd rfl (Or.inl rfl)) (fun _ _ _ _ _ => (pts_one (pt_not (pt_cmpR (op_ltD hr.units) (pe_ix ix_lt (pv 1) (pe_op op_sub (pv 3) pe_int) (fun _ _ => rfl)) (pe_ix ix_lt (pv 1) (pv 3) (fun _ _ => rfl)) (nomark _))))) (fun _ _ _ _ _ => (pv 3)))) (pe_lst pa_nil) (nomark _)))))), ?_⟩
    obtain ⟨a0, a1, a2, xq, rfl, N0⟩ := netAt hV
    have i1 : atI [V.ref a1, V.ref a2] 1 = some (.ref a2) := atI_nat (j := 1) rfl
    walk_at "ev"
    walk_at "nrm"
    refine isi1 hD (fun t e => by rw [e]; exact kT d) ?_
    cases d with
    | tuple ds =>
      obtain ⟨b, xs, rfl, hs, ha⟩ := Dp.seq_of (f := true) hD
      have hs' : SqT K H b xs := hs
      obtain ⟨hk1, hk2⟩ := (okD_seq (n := 5) (f := true)).mp hk
      have lx := dpa_len ha
      have e0 : dropsD (qs.map QD.nm) (.tuple ds) = (ds.all (pairB (qs.map QD.nm)) && ascD ds) := rfl
      walk_at "ev"
      refine for_of ?_
      refine iSeq_at (fun R' r => ⟨_, rfl, r⟩) hs fun J wk => ?_
      refine forR_it wk (fun i σ Hc => ∃ x2, σ = [some (.ref a0), some (.ref b), x2, none, none] ∧ Same H Hc ∧ ∀ d ∈ ds.take i, pairB (qs.map QD.nm) d = true) ⟨_, rfl, fun _ _ e => e, fun d hd => absurd hd List.not_mem_nil⟩ (fun i σ Hc _ hh => ?_) (fun i v σ Hc Hc' hi hh y => ?_) (fun σ Hc hh => ?_)
      · obtain ⟨_, _, e3, _⟩ := hh
        exact e3.sqF hs
      · obtain ⟨x2, rfl, e3, hall⟩ := hh
        obtain ⟨rfl, hv⟩ := y
        obtain ⟨d, hd, hvd⟩ := dpa_get ha hv
        have hdm := List.mem_of_getElem? hd
        have htk : ds.take (i + 1) = ds.take i ++ [d] := by rw [List.take_add_one, hd]; rfl
        have bad : pairB (qs.map QD.nm) d = false → ∀ H', Same H H' → Q (.bl false) H' := fun hp H' e => by
          have e2 : ds.all (pairB (qs.map QD.nm)) = false := by
            rw [← Bool.not_eq_true]
            intro z
            have := List.all_eq_true.mp z d hdm
            rw [hp] at this
            cases this
          rw [e0, e2] at q
          exact q _ e
        have good : pairB (qs.map QD.nm) d = true → ∀ e ∈ ds.take (i + 1), pairB (qs.map QD.nm) e = true := fun hg e he => by
          rw [htk] at he
          rcases List.mem_append.mp he with he | he
          · exact hall e he
          · rw [List.mem_singleton.mp he]
            exact hg
        have hvd' := e3.dp hvd
        walk_at "ev"
        walk_at "nrm"
        refine isi1 hvd' (fun t e => by rw [e]; exact kT d) ?_
        cases hT : isT d with
        | false =>
          refine ⟨_, rfl, iteT (iteT ?_)⟩
          exact bad (pairB_T hT) _ e3
        | true =>
          refine ⟨_, rfl, iteF ?_⟩
          obtain ⟨es, rfl⟩ : ∃ es, d = .tuple es := by
            cases d <;> first | exact ⟨_, rfl⟩ | cases hT
          obtain ⟨c, us, rfl, hc, hua⟩ := Dp.seq_of (f := true) hvd'
          have hc' : SqT K Hc' c us := hc
          walk_at "ev"
          rw [decV, dpa_len hua]
          cases hr2 : rowB 2 (.tuple es) with
          | false =>
            have hr3 : decide ((es.length : Int) = 2) = false := hr2
            rw [hr3]
            refine iteT (iteT ?_)
            refine bad ?_ _ e3
            rw [← Bool.not_eq_true]
            intro z
            obtain ⟨q1, j1, e, _⟩ := pairB_of z
            cases e
            cases hr2
          | true =>
            have hr3 : decide ((es.length : Int) = 2) = true := hr2
            rw [hr3]
            refine iteF ?_
            obtain ⟨c', u1, u2, d1, d2, ec, ed, hc2, g1, g2⟩ := pair_of hvd' hr2
            cases ec
            cases ed
            rw [pairB_two] at bad good
            walk_at "ev"
            refine rIxF_at (f := true) hc2 (atI_nat (j := 0) rfl) ?_
            walk_at "ev"
            walk_at "nrm"
            refine isi1 g1 (fun t e => by rw [e]; exact kS d1) ?_
            cases d1 with
            | str q =>
              cases g1
              refine ⟨_, rfl, iteF ?_⟩
              walk_at "ev"
              refine rIxF_at (f := true) hc2 (atI_nat (j := 0) rfl) ?_
              have N1 := N0.same e3
              refine lc_of ?_
              refine iSeq_at (fun R' r => ⟨_, rfl, rIxF_at N1.h0 i1 r⟩) N1.h2 fun J2 w2 D hD => ?_
              refine lc_it w2 (fun i H' => Same Hc' H' ∧ H' D = some (.lst ((qs.take i).map fun q => V.str q.nm))) ⟨.upd hD, upd_same⟩ (fun i H' _ p => p.1.sqF N1.h2) (fun i x H' H'' hi p y => ?_) (fun H' p => ?_)
              · obtain ⟨p1, p2⟩ := p
                obtain ⟨rfl, hx⟩ := y
                obtain ⟨q1, aq, hq1, rfl, hq2⟩ := N1.hq i x hx
                refine ⟨rfl, ?_⟩
                dsimp only [tYes]
                rw [if_pos rfl]
                refine ⟨_, rfl, ?_⟩
                refine rIxF_at (p1.sqF hq2) (v := .str q1.nm) (atI_nat (j := 0) rfl) ?_
                refine ⟨_, p2, ?_, p1.mut hD, ?_⟩
                · rw [List.length_map, List.length_take]
                  exact sz_lt (by omega)
                · rw [upd_same, List.take_add_one, hq1, List.map_append]
                  rfl
              · obtain ⟨p1, p2⟩ := p
                rw [N0.ll, List.take_length] at p2
                refine ⟨D, _, rfl, .inl (sql_of p2), rfl, ?_, ?_⟩
                · rw [List.all_map, List.all_eq_true]
                  exact fun _ _ => rfl
                · have e4 := e3.trans p1
                  have ein : inV (.str q) (qs.map fun q => V.str q.nm) = decide (q ∈ qs.map QD.nm) := by
                    unfold inV
                    rw [List.any_map, Bool.eq_iff_iff, List.any_eq_true, decide_eq_true_eq, List.mem_map]
                    refine ⟨fun ⟨r, hr, e⟩ => ⟨r, hr, ?_⟩, fun ⟨r, hr, e⟩ => ⟨r, hr, ?_⟩⟩
                    · have e : (r.nm == q) = true := e
                      exact eq_of_beq e
                    · show (r.nm == q) = true
                      rw [e]
                      exact beq_self_eq_true _
                  refine ⟨_, rfl, ?_⟩
                  rw [if_pos rfl, ein]
                  cases hq : decide (q ∈ qs.map QD.nm) with
                  | false =>
                    refine iteT (iteT ?_)
                    exact bad (by show (decide (q ∈ qs.map QD.nm) && numD 1 d2) = false; rw [hq]; rfl) _ e4
                  | true =>
                    refine iteF ?_
                    walk_at "ev"
                    refine rIxF_at (f := true) (p1.sqT hc2) (atI_nat (j := 1) rfl) ?_
                    walk_at "ev"
                    refine ⟨u2, 1, d2, rfl, p1.dp g2, ?_⟩
                    cases hn : numD 1 d2 with
                    | false =>
                      refine ⟨_, rfl, iteT ?_⟩
                      exact bad (by show (decide (q ∈ qs.map QD.nm) && numD 1 d2) = false; rw [hq, hn]; rfl) _ e4
                    | true =>
                      refine ⟨_, rfl, iteF ?_⟩
                      exact ⟨_, rfl, e4, good (by show (decide (q ∈ qs.map QD.nm) && numD 1 d2) = true; rw [hq, hn]; rfl)⟩
            | _ =>
              refine ⟨_, rfl, iteT ?_⟩
              exact bad rfl _ e3
      · obtain ⟨x2, rfl, e3, hall⟩ := hh
        rw [lx, List.take_length] at hall
        walk_at "ev"
        refine lc_of ?_
        walk_at "ev"
        refine ⟨b, xs, rfl, .inr (e3.sqT hs'), ?_⟩
        refine ⟨_, _, rfl, ⟨by omega, by omega, by omega, by omega⟩, ?_⟩
        intro D hD
        have hn : ((xs.length : Int) - 1).toNat = ds.length - 1 := by omega
        rw [hn]
        refine lc_it (walk_range (lo := 1) (n := ds.length - 1)) (fun i H' => Same Hc H' ∧ H' D = some (.lst ((((List.range i).filter fun i => !PySem.W.dataLt (ds.getD i .none) (ds.getD (i + 1) .none)).map fun (i : Nat) => (1 + (i : Int))).map V.int))) ⟨.upd hD, upd_same⟩ (fun _ _ _ _ => trivial) (fun i x H' H'' hi hh y => ?_) (fun H' hh => ?_)
        · obtain ⟨g1, g2⟩ := hh
          obtain ⟨rfl, hv⟩ := y
          have hv : x = .int (1 + (i : Int)) := hv
          subst hv
          refine ⟨rfl, ?_⟩
          have j1 : i < xs.length := by omega
          have j2 : i + 1 < xs.length := by omega
          obtain ⟨d, hd, hd2⟩ := dpa_get ha (List.getElem?_eq_getElem j1)
          obtain ⟨e, he, he2⟩ := dpa_get ha (List.getElem?_eq_getElem j2)
          obtain ⟨q1, k1, rfl, _⟩ := pairB_of (hall d (List.mem_of_getElem? hd))
          obtain ⟨q2, k2, rfl, _⟩ := pairB_of (hall e (List.mem_of_getElem? he))
          have hs2 := g1.sqF (e3.sqF hs)
          have e4 := e3.trans g1
          refine ⟨_, rfl, ?_⟩
          refine ⟨_, rfl, ?_⟩
          refine ⟨_, _, rfl, rfl, ?_⟩
          dsimp only
          refine rIxF_at hs2 (v := xs[i]) (by rw [show (1 + (i : Int) - 1) = ((i : Nat) : Int) from by omega]; exact atI_nat (List.getElem?_eq_getElem j1)) ?_
          refine ⟨_, rfl, ?_⟩
          refine ⟨_, rfl, ?_⟩
          refine rIxF_at hs2 (v := xs[i + 1]) (by rw [show (1 + (i : Int)) = ((i + 1 : Nat) : Int) from by omega]; exact atI_nat (List.getElem?_eq_getElem j2)) ?_
          refine ⟨_, _, e4.dp hd2, e4.dp he2, by simp [PySem.W.alike, PySem.W.alikeAll], by simp, by simp [PyData.depth, PyData.depthAll], ?_⟩
          refine ⟨_, rfl, ?_⟩
          have f1 : ds.getD i .none = .tuple [.str q1, .int k1] := by rw [List.getD_eq_getElem?_getD, hd]; rfl
          have f2 : ds.getD (i + 1) .none = .tuple [.str q2, .int k2] := by rw [List.getD_eq_getElem?_getD, he]; rfl
          rw [← f1, ← f2, List.range_succ, List.filter_append]
          cases hg : PySem.W.dataLt (ds.getD i .none) (ds.getD (i + 1) .none) with
          | true =>
            rw [if_neg (by decide)]
            have hf : ([i].filter fun i => !PySem.W.dataLt (ds.getD i .none) (ds.getD (i + 1) .none)) = [] := List.filter_cons_of_neg (p := fun i => !PySem.W.dataLt (ds.getD i .none) (ds.getD (i + 1) .none)) (l := []) (by show ¬ (!PySem.W.dataLt (ds.getD i .none) (ds.getD (i + 1) .none)) = true; rw [hg]; decide)
            rw [hf, List.append_nil]
            exact ⟨g1, g2⟩
          | false =>
            rw [if_pos (by decide)]
            have hf : ([i].filter fun i => !PySem.W.dataLt (ds.getD i .none) (ds.getD (i + 1) .none)) = [i] := List.filter_cons_of_pos (p := fun i => !PySem.W.dataLt (ds.getD i .none) (ds.getD (i + 1) .none)) (l := []) (by show (!PySem.W.dataLt (ds.getD i .none) (ds.getD (i + 1) .none)) = true; rw [hg]; decide)
            refine ⟨_, rfl, _, g2, ?_, g1.mut hD, ?_⟩
            · rw [List.length_map, List.length_map]
              have h1 := List.length_filter_le (fun i => !PySem.W.dataLt (ds.getD i .none) (ds.getD (i + 1) .none)) (List.range i)
              rw [List.length_range] at h1
              exact sz_lt (by omega)
            · rw [upd_same, hf, List.map_append, List.map_append]
              rfl
        · obtain ⟨g1, g2⟩ := hh
          walk_at "ev"
          intro M hM
          have s2 := Same.upd (o := .lst []) hM
          refine ⟨_, .list [], .lst (sql_of (s2 _ _ g2)) dpa_ints, .lst (sql_of upd_same) .nil, shaped_ints, shaped_nil, ?_⟩
          rw [eqv_nil, List.isEmpty_map, List.isEmpty_map, ltI]
          rw [e0, List.all_eq_true.mpr hall] at q
          exact q _ (e3.trans (g1.trans s2))
    | _ =>
      walk_at "ev"
      exact q H fun _ _ e => e
end
end Jl

set_option Elab.async false
set_option linter.all false
set_option maxRecDepth 100000
set_option maxHeartbeats 1000000
set_option pp.maxSteps 900
namespace Jl
open PySem PySem.Spec PyProof.Rows L2
open Evl (sz_of sz_lt)
local macro_rules | `(tactic| walk_at "at") => `(tactic| first | exact box0 | exact box1 | exact box2)
local macro_rules | `(tactic| walk_at "sq") => `(tactic| first | (show SqL _ _ _ _; assumption) | (show SqT _ _ _ _; assumption) | (show _ = some _; assumption))
local macro_rules | `(tactic| walk_at "side") => `(tactic| first
  | (show (0 : Int) < _; decide)
  | (show (0 : Int) < _; omega)
  | exact ⟨by decide, by decide, by decide⟩
  | exact sz_of (Nat.le_of_ble_eq_true rfl)
  | exact rfl
  | exact Or.inl (by decide)
  | exact Or.inr (by decide)
  | exact Or.inr ⟨by omega, by omega⟩
  | exact Or.inl ⟨by omega, by omega⟩
  | exact ⟨by decide, by decide +kernel⟩)
local macro_rules | `(tactic| walk_at "ev1") => `(tactic| first
  | refine ⟨_, rfl, ?_⟩
  | refine ⟨_, _, rfl, rfl, ?_⟩
  | refine ⟨_, _, _, _, rfl, rfl, (by walk_at "sq"), (by walk_at "at"), ?_⟩
  | refine ⟨_, _, rfl, (by walk_at "sq"), ?_⟩
  | refine ⟨_, _, rfl, Or.inl (by walk_at "sq"), ?_⟩
  | refine ⟨_, _, rfl, Or.inr (by walk_at "sq"), ?_⟩
  | refine Or.inl ⟨_, rfl, ?_⟩
  | refine Or.inr ⟨_, rfl, ?_⟩
  | refine ⟨(by walk_at "side"), ?_⟩
  | refine ⟨.inl ⟨rfl, _, (by walk_at "sq")⟩, ?_⟩
  | refine ⟨_, _, rfl, ?_⟩)
local macro_rules | `(tactic| walk_at "nrm") => `(tactic| dsimp only [tNil, tCons, tC, tCB])
local macro_rules | `(tactic| walk_at "ev") => `(tactic| repeat (walk_at "ev1"))

/-! ### t[::-1] of a tuple -/
section
open HT
variable {prog : Program} {w : World} {A : Around} {E : Value → Shared → Prop} {s : Shared}
theorem places_rev (n : Nat) : Builtin.Slice.slicePlaces ((n : Int) - 1) (-1) (-1) = n := by
  unfold Builtin.Slice.slicePlaces
  rw [if_neg (by decide)]
  by_cases h : (n : Int) - 1 > -1
  · rw [if_pos h, show (-(-1) : Int) = 1 from rfl, Int.ediv_one]
    omega
  · rw [if_neg h]
    omega
theorem sliceApplied_rev {sl : Addr} {vs : Value} {n : Nat} {Q : Int × Int × Nat → Shared → Prop} (hs : s.heap.IsSliceOf sl .none .none vs) (ps : IsPart vs (some (-1)))
    (h : Q ((n : Int) - 1, -1, n) s) : wpAny (model prog w) A (Builtin.Slice.sliceApplied (.ref sl) (pure (n : Int))) Q E s := by
  obtain ⟨os, hos, hcs, hds⟩ := id hs
  unfold Builtin.Slice.sliceApplied Builtin.Slice.sliceFields
  refine wpAny_bind (wpAny_bind (wpAny_field hos hds (x := .none) rfl (wpAny_bind (wpAny_field hos hds (x := .none) rfl (wpAny_bind (wpAny_field hos hds (x := vs) rfl (wpAny_pure ?_)))))))
  refine wpAny_bind (slicePart_ ps ?_)
  show wpAny _ _ (if ((-1 : Int) == 0) = true then _ else _) _ _ s
  rw [if_neg (by decide)]
  refine wpAny_bind (slicePart_none (wpAny_bind (slicePart_none (wpAny_bind (wpAny_pure ?_)))))
  show wpAny _ _ (pure ((n : Int) - 1, (-1 : Int), Builtin.Slice.slicePlaces ((n : Int) - 1) (-1) (-1))) _ _ s
  rw [places_rev]
  exact wpAny_pure h
theorem pick_rev (xs : Array Value) : ((List.range xs.size).filterMap fun (m : Nat) => xs[(((xs.size : Nat) : Int) - 1 + (m : Int) * (-1)).toNat]?).toArray = xs.toList.reverse.toArray := by
  congr 1
  have e : (fun (m : Nat) => xs[(((xs.size : Nat) : Int) - 1 + (m : Int) * (-1)).toNat]?) = (fun (i : Nat) => xs[i]?) ∘ fun (m : Nat) => (((xs.size : Nat) : Int) - 1 + (m : Int) * (-1)).toNat := rfl
  rw [e, ← List.filterMap_map]
  have e2 : (List.range xs.size).map (fun (m : Nat) => (((xs.size : Nat) : Int) - 1 + (m : Int) * (-1)).toNat) = (List.range xs.size).map fun k => xs.size - 1 - k := List.map_congr_left fun k hk => by omega
  rw [e2]
  have e3 := PySem.W.krv_range xs.size
  rw [e3, List.filterMap_reverse, PySem.W.krv_all]
theorem getItem_tuple_rev {t sl : Addr} {items : Array Value} {vs : Value} {Q : Value → Shared → Prop} (ht : IsTup s.heap t items) (hs : s.heap.IsSliceOf sl .none .none vs) (ps : IsPart vs (some (-1)))
    (h : Q (.ref s.heap.objs.size) { s with heap := s.heap.push { cls := .type "tuple", data := .seq items.toList.reverse.toArray } })
    (hsz : items.size ≤ sizeLine) : wpAny (model prog w) A (getItem (.ref t) (.ref sl)) Q E s := by
  have htake : sizeOk (.seq items.toList.reverse.toArray) := by
    show items.toList.reverse.toArray.size ≤ sizeLine
    rw [List.size_toArray, List.length_reverse, Array.length_toList]
    exact hsz
  obtain ⟨os, hos, hcs, hds⟩ := id hs
  have hTs : s.TypeIs (.ref sl) "slice" := ⟨os, hos, hcs⟩
  unfold getItem
  try with_reducible refine wpAny_holding ?_
  first | refine wpAny_bind (wpAny_pure ?_) | skip
  refine wpAny_bind (wpAny_sequenceKey ht.typeIs (by decide) ?_)
  refine wpAny_bind (wpAny_callSpecial?_slot (name := Str.ofString "__getitem__") ht.typeIs PyProof.Rows.slot_tuple_getitem
    (wpAny_call_entry PyProof.Rows.slot_tuple_getitem ht.typeIs entry_tuple_getitem ?_ (args_tuple_getitem _ _)))
  show wpAny _ _ (Builtin.Tuple.tupleItemsOf (.ref t) >>= _) _ _ s
  refine wpAny_bind (tupleItemsOf_ ht ?_)
  refine wpAny_bind (wpAny_typeOf hTs ?_)
  rw [if_pos (by decide)]
  refine wpAny_bind (sliceApplied_rev hs ps ?_)
  have hno : ¬ (((((items.size : Nat) : Int) - 1) == 0 && (-1 : Int) == 1 && items.size == items.size) = true) := by
    intro q
    rw [Bool.and_eq_true, Bool.and_eq_true] at q
    exact absurd q.1.2 (by decide)
  show wpAny _ _ (if ((((items.size : Nat) : Int) - 1) == 0 && (-1 : Int) == 1 && items.size == items.size) = true then _ else _) _ _ s
  rw [if_neg hno, pick_rev]
  first
    | exact wpAny_bind (m := Builtin.Tuple.tupleExact _) (wpAny_newObj_type (wpAny_pure ⟨_, rfl, wpAny_pure h⟩) htake)
    | exact wpAny_bind (m := Builtin.Tuple.tupleExact _) (wpAny_newObj_type (wpAny_bind (wpAny_pure (wpAny_pure ⟨_, rfl, wpAny_pure h⟩))) htake)
    | exact wpAny_bind (wpAny_bind (m := Builtin.Tuple.tupleExact _) (wpAny_newObj_type (wpAny_pure (wpAny_pure ⟨_, rfl, wpAny_pure h⟩)) htake))
    | exact wpAny_bind (wpAny_bind (m := Builtin.Tuple.tupleExact _) (wpAny_newObj_type (wpAny_pure ⟨_, rfl, wpAny_pure h⟩) htake))
end
section
variable {X : Cx}
def tRevT (K : PySem.W.Frag) (te : TE) : TE := fun σ H Q => te σ H fun x H1 => ∃ a xs, x = .ref a ∧ SqT K H1 a xs ∧ ∀ p, H1 p = none → Q (.ref p) (upd H1 p (.tup xs.reverse))
theorem pe_revT {e : Expr} {te : TE} {k : Nat} {p1 p2 p3 pos : Pos} (he : PE X e te) : PE X (.Subscript e (.Slice none none (some (.UnaryOp .USub (.Constant (.int 1) k p1) p2)) p3) pos) (tRevT X.K te) := by
  refine ⟨fun pins s σ H Q I h => ?_⟩
  refine Subscript_ (thn (he.run pins s σ H _ I h) fun v s1 ⟨x, H1, I1, r1, q1⟩ => ?_)
  obtain ⟨a, xs, ex, hx, q⟩ := q1
  subst ex
  cases r1
  have hst : PO X (some (.UnaryOp .USub (.Constant (.int 1) k p1) p2)) (tPart (tUn (rU fun i => .int (-i)) (tC (.int 1)))) := po_some (pe_un un_neg pe_int)
  refine wpAny_Slice (thn (po_none.run pins s1 σ H1 (fun o H2 => o = none ∧ H2 = H1) I1 ⟨rfl, rfl⟩) fun vl s2 ⟨l, H2, I2, pl, el, e2⟩ => ?_)
  subst el e2
  refine thn (po_none.run pins s2 σ H2 (fun o H3 => o = none ∧ H3 = H2) I2 ⟨rfl, rfl⟩) fun vu s3 ⟨u, H3, I3, pu, eu, e3⟩ => ?_
  subst eu e3
  refine thn (hst.run pins s3 σ H3 (fun o H4 => o = some (-1) ∧ H4 = H3) I3 ⟨1, rfl, -1, rfl, rfl, rfl⟩) fun vs s4 ⟨o, H4, I4, ps, eo, e4⟩ => ?_
  subst eo e4
  cases pl
  cases pu
  have I5 : Inv X pins σ H4 { s4 with heap := s4.heap.push { cls := .type "slice", data := .fields #[.none, .none, vs] } } := I4.kept (t' := s4.toks) fun b ob q => Heap.get?_push_of_some _ q
  obtain ⟨its, r, ht, hz⟩ := I5.tuple hx
  have hlen := r.length
  show wpAny (model X.prog X.w) X.A (subscriptTail e (.Slice none none (some (.UnaryOp .USub (.Constant (.int 1) k p1) p2)) p3) (.ref a) (.ref s4.heap.objs.size)) (EP X pins σ Q) X.xe { s4 with heap := s4.heap.push { cls := .type "slice", data := .fields #[.none, .none, vs] } }
  refine tail_any (ops := [.ref a, .ref s4.heap.objs.size]) ht.typeIs PyProof.Rows.slot_tuple_getitem.lookup ?_ (by with_unfolding_all rfl)
  refine getItem_tuple_rev ht (Heap.IsSliceOf.new _ .none .none vs) ps ?_ (by rw [List.size_toArray]; omega)
  refine ⟨.ref _, _, I5.laid (t' := s4.toks) (o := .tup xs.reverse) (fun b ob q => Heap.get?_push_of_some _ q) (Nat.le_refl _) ?_, rfl, q _ (I5.hok.fresh (Nat.le_refl _))⟩
  exact ⟨by rw [List.length_reverse]; exact hz, _, r.reverse, IsTup.new _ _⟩
end
end Jl

set_option Elab.async false
set_option linter.all false
set_option maxRecDepth 100000
set_option maxHeartbeats 1000000
set_option pp.maxSteps 900
namespace Jl
open PySem PySem.Spec PyProof.Rows L2
open Evl (sz_of sz_lt)
local macro_rules | `(tactic| walk_at "at") => `(tactic| first | exact box0 | exact box1 | exact box2)
local macro_rules | `(tactic| walk_at "sq") => `(tactic| first | (show SqL _ _ _ _; assumption) | (show SqT _ _ _ _; assumption) | (show _ = some _; assumption))
local macro_rules | `(tactic| walk_at "side") => `(tactic| first
  | (show (0 : Int) < _; decide)
  | (show (0 : Int) < _; omega)
  | exact ⟨by decide, by decide, by decide⟩
  | exact sz_of (Nat.le_of_ble_eq_true rfl)
  | exact rfl
  | exact Or.inl (by decide)
  | exact Or.inr (by decide)
  | exact Or.inr ⟨by omega, by omega⟩
  | exact Or.inl ⟨by omega, by omega⟩
  | exact ⟨by decide, by decide +kernel⟩)
local macro_rules | `(tactic| walk_at "ev1") => `(tactic| first
  | refine ⟨_, rfl, ?_⟩
  | refine ⟨_, _, rfl, rfl, ?_⟩
  | refine ⟨_, _, _, _, rfl, rfl, (by walk_at "sq"), (by walk_at "at"), ?_⟩
  | refine ⟨_, _, rfl, (by walk_at "sq"), ?_⟩
  | refine ⟨_, _, rfl, Or.inl (by walk_at "sq"), ?_⟩
  | refine ⟨_, _, rfl, Or.inr (by walk_at "sq"), ?_⟩
  | refine Or.inl ⟨_, rfl, ?_⟩
  | refine Or.inr ⟨_, rfl, ?_⟩
  | refine ⟨(by walk_at "side"), ?_⟩
  | refine ⟨.inl ⟨rfl, _, (by walk_at "sq")⟩, ?_⟩
  | refine ⟨_, _, rfl, ?_⟩)
local macro_rules | `(tactic| walk_at "nrm") => `(tactic| dsimp only [tNil, tCons, tC, tCB])
local macro_rules | `(tactic| walk_at "ev") => `(tactic| repeat (walk_at "ev1"))

abbrev sc_w_of_N : List Str := ["_law_box_here", "_law_some"]
abbrev s_w_of : Stmt := topS 11
theorem sc_w_of : FnScope ["_law_box_here", "_law_some"] ["_law_box_here", "_law_some"] (defScope s_w_of) := ⟨rfl, rfl, rfl, by decide +kernel, rfl, by decide +kernel, by decide +kernel⟩
abbrev sc_w_spoilt_N : List Str := ["_law_box_here", "_law_matter", "_law_pool", "_law_way_so", "_law_k"]
abbrev s_w_spoilt : Stmt := topS 20
theorem sc_w_spoilt : FnScope ["_law_box_here", "_law_matter", "_law_pool", "_law_way_so", "_law_k"] ["_law_box_here", "_law_matter", "_law_pool"] (defScope s_w_spoilt) := ⟨rfl, rfl, rfl, by decide +kernel, rfl, by decide +kernel, by decide +kernel⟩
def goodE (d : PyData) : Prop := okD 5 d ∧ d.canLay0 = true ∧ d.depth ≤ 20
def GoodV (K : PySem.W.Frag) (H : Hp) (v : V) : Prop := ∃ d, Dp K H v d ∧ goodE d
theorem GoodV.same {K : PySem.W.Frag} {H H' : Hp} {v : V} (h : GoodV K H v) (e : Same H H') : GoodV K H' v := by
  obtain ⟨d, h1, h2⟩ := h
  exact ⟨d, e.dp h1, h2⟩
theorem goods_of {K : PySem.W.Frag} {H : Hp} : ∀ {xs : List V}, (∀ x ∈ xs, GoodV K H x) → ∃ ds, DpAll K H xs ds ∧ ∀ d ∈ ds, goodE d
  | [], _ => ⟨[], .nil, fun d h => absurd h List.not_mem_nil⟩
  | x :: xs, h => by
    obtain ⟨d, h1, h2⟩ := h x List.mem_cons_self
    obtain ⟨ds, h3, h4⟩ := goods_of (xs := xs) fun y hy => h y (List.mem_cons_of_mem _ hy)
    refine ⟨d :: ds, .cons h1 h3, fun e he => ?_⟩
    rcases List.mem_cons.mp he with e1 | he
    · rw [e1]
      exact h2
    · exact h4 e he
theorem good_seq {f : Bool} {ds : List PyData} (h : ∀ d ∈ ds, goodE d) (hl : ds.length ≤ 1000) : okD 6 (seqD f ds) ∧ SeqAt.shaped (seqD f ds) = true := by
  refine ⟨okD_seq.mpr ⟨hl, fun d hd => (h d hd).1⟩, ?_⟩
  have c := can_seq (f := f) fun d hd => (h d hd).2.1
  have dd := dep_seq (f := f) (n := 20) fun d hd => (h d hd).2.2
  unfold SeqAt.shaped
  rw [c, decide_eq_true (show (seqD f ds).depth ≤ 64 by omega)]
  rfl
theorem cutV_mem {xs : List V} {lo hi : Option Int} {x : V} (h : x ∈ cutV xs lo hi) : x ∈ xs := List.mem_of_mem_drop (List.mem_of_mem_take h)
theorem slA_to {K : PySem.W.Frag} {H : Hp} {b c : Addr} {xs : List V} {lo hi : Option Int} {Q : VK} (hs : SqT K (cutS [b] H) c xs) (t : Trk [b] H) (q : ∀ H' r, Same H H' → SqT K (cutS [b] H') r (cutV xs lo hi) → Q (.ref r) H') : rSlA K (.ref c) lo hi H Q :=
  ⟨c, xs, rfl, cutS_le.sqT hs, fun ⟨w1, w2⟩ => q H c (fun _ _ e => e) (by
    have e : cutV xs lo hi = xs := by
      unfold cutV
      rw [w1, w2, Nat.sub_zero, List.drop_zero, List.take_length]
    rw [e]
    exact hs), fun _ p hp => q _ p (.upd hp) (sqt_of (cutS_new t hp))⟩
theorem catA_to {K : PySem.W.Frag} {H : Hp} {b c d : Addr} {xs ys : List V} {Q : VK} (hx : SqT K (cutS [b] H) c xs) (hy : SqT K (cutS [b] H) d ys) (t : Trk [b] H) (hl : xs.length + ys.length ≤ sizeLine)
    (q : ∀ H' r, Same H H' → SqT K (cutS [b] H') r (xs ++ ys) → Q (.ref r) H') : rCatA K (.ref c) (.ref d) H Q :=
  ⟨c, d, xs, ys, rfl, rfl, cutS_le.sqT hx, cutS_le.sqT hy, hl, fun e => q H d (fun _ _ e => e) (by rw [e]; exact hy), fun _ e => q H c (fun _ _ e => e) (by rw [e, List.append_nil]; exact hx), fun _ _ p hp => q _ p (.upd hp) (sqt_of (cutS_new t hp))⟩
section
variable {P : Program} {w : World} {K : PySem.W.Frag} {mg : Str → Option Value} {base : Heap}
/-- _law_of(box, some): one of them -/
def spOf (K : PySem.W.Frag) : Sp := fun vs H Q _ => ∃ (b a : Addr) (bx : List V) (N : Nat) (fb : Bool) (xs : List V), vs = [.ref b, .ref a] ∧ H b = some (.lst bx) ∧ BoxL bx N ∧ N < 2 ^ 60 ∧ SqF fb K (cutS [b] H) a xs ∧ 1 ≤ xs.length ∧ xs.length ≤ 1000 ∧
  ∀ v bx', v ∈ xs → BoxL bx' (N + 1) → Q v (upd H b (.lst bx'))
theorem ok_of {f fT : Addr} {fd fdT : FuncData} {k : Nat} (F : Fun K "_law_of" "_law_of" s_w_of f fd) (G_w_take : FnOk P w K mg base CX0 k fT fdT ["_law_box_here", "_law_below"] spTake2) (g_w_take : mg "_law_take" = some (.ref fT)) (F_w_take : Fun K "_law_take" "_law_take" s_w_take fT fdT) (b_w_take : Binds K fdT ["_law_box_here", "_law_below"] [])
    (m_len : mg "len" = none) : FnOk P w K mg base CX0 (k + 1) f fd ["_law_box_here", "_law_some"] (spOf K) := by
  refine F.ok sc_w_of (fun vs H Q E h => ?_) (fun cdv A outer s0 H vs Q E hr h => ?_)
  · obtain ⟨b, a, bx, N, fb, xs, rfl, _⟩ := h
    rfl
  · obtain ⟨b, a, bx, N, fb, xs, rfl, hb, hB, hN, hs, l1, l2, q⟩ := h
    refine ⟨_, (pss_one (ps_ret (pe_ix ix_lt (pv 1) (pe_call G_w_take hr (by rfl) g_w_take F_w_take.kp b_w_take .nil pass0 (pa_cons (pv 0) (pa_cons (pe_callB call_len_seq (by rfl) m_len PySem.boot_len (pa_cons (pv 1) pa_nil)) pa_nil))) (fun _ _ => rfl)))), ?_⟩
    walk_at "ev"
    refine ⟨a, xs, rfl, (cutS_le.sqF hs).or, ?_⟩
    walk_at "ev"
    refine ⟨b, _, bx, N, rfl, hb, hB, hN, by omega, small8000 (by omega), fun r bx' r0 r1 hB' => ?_⟩
    obtain ⟨i, rfl⟩ : ∃ i : Nat, r = (i : Int) := ⟨r.toNat, by omega⟩
    have hi : i < xs.length := by omega
    have ec : Same (cutS [b] (upd H b (.lst bx'))) (upd H b (.lst bx')) := cutS_le
    have hs2 : SqF fb K (upd H b (.lst bx')) a xs := ec.sqF (by rw [cutS_upd List.mem_cons_self]; exact hs)
    exact rIxF_at hs2 (atI_nat (List.getElem?_eq_getElem hi)) (q _ _ (List.getElem_mem hi) hB')
/-- _law_spoilt(box, matter, pool) -/
def spSpoilt (K : PySem.W.Frag) : Sp := fun vs H Q _ => ∃ (b c a : Addr) (bx : List V) (N : Nat) (xs ys : List V), vs = [.ref b, .ref c, .ref a] ∧ H b = some (.lst bx) ∧ BoxL bx N ∧ N < 2 ^ 59 ∧ SqT K (cutS [b] H) c xs ∧ (∀ x ∈ xs, GoodV K (cutS [b] H) x) ∧ xs.length ≤ 300 ∧
  SqL K (cutS [b] H) a ys ∧ (∀ y ∈ ys, GoodV K (cutS [b] H) y) ∧ 1 ≤ ys.length ∧ ys.length ≤ 900 ∧
  ∀ (H' : Hp) (v : V) (d : PyData) (bx' : List V), Dp K (cutS [b] H') v d → okD 6 d → SeqAt.shaped d = true → H' b = some (.lst bx') → BoxL bx' (N + 10) → Same (cutS [b] H) (cutS [b] H') → Q v H'
theorem ok_spoilt {f fT fO : Addr} {fd fdT fdO : FuncData} {k : Nat} (F : Fun K "_law_spoilt" "_law_spoilt" s_w_spoilt f fd) (G_w_take : FnOk P w K mg base CX0 k fT fdT ["_law_box_here", "_law_below"] spTake2) (g_w_take : mg "_law_take" = some (.ref fT)) (F_w_take : Fun K "_law_take" "_law_take" s_w_take fT fdT) (b_w_take : Binds K fdT ["_law_box_here", "_law_below"] [])
    (G_w_of : FnOk P w K mg base CX0 k fO fdO ["_law_box_here", "_law_some"] (spOf K)) (g_w_of : mg "_law_of" = some (.ref fO)) (F_w_of : Fun K "_law_of" "_law_of" s_w_of fO fdO) (b_w_of : Binds K fdO ["_law_box_here", "_law_some"] [])
    (m_len : mg "len" = none) (m_list : mg "list" = none) : FnOk P w K mg base CX0 (k + 1) f fd ["_law_box_here", "_law_matter", "_law_pool"] (spSpoilt K) := by
  refine F.ok sc_w_spoilt (fun vs H Q E h => ?_) (fun cdv A outer s0 H vs Q E hr h => ?_)
  · obtain ⟨b, c, a, bx, N, xs, ys, rfl, _⟩ := h
    rfl
  · obtain ⟨b, c, a, bx, N, xs, ys, rfl, hb, hB, hN, hs, hg, hl, hp, hpg, p1, p2, q⟩ := h
    refine ⟨_, (pss_cons (ps_par (i := 3) (j := 4) (by rfl) sc_w_spoilt.nd rfl rfl (by decide) rfl rfl (pa_cons (pe_call G_w_take hr (by rfl) g_w_take F_w_take.kp b_w_take .nil pass0 (pa_cons (pv 0) (pa_cons pe_int pa_nil))) (pa_cons (pe_call G_w_take hr (by rfl) g_w_take F_w_take.kp b_w_take .nil pass0 (pa_cons (pv 0) (pa_cons (pe_op op_add (pe_callB call_len_seq (by rfl) m_len PySem.boot_len (pa_cons (pv 1) pa_nil)) pe_int) pa_nil))) pa_nil)) (by rfl)) 
    (pss_cons (ps_if (pt_cmpR op_eq (pv 3) pe_int (nomark _)) (pss_one (ps_ret (pe_op op_catA (pe_slice sl_tupA (pv 1) po_none (po_some (pv 4))) (pe_slice sl_tupA (pv 1) (po_some (pe_op op_add (pv 4) pe_int)) po_none)))) pss_nil) 
    (pss_cons (ps_if (pt_cmpR op_eq (pv 3) pe_int (nomark _)) (pss_one (ps_ret (pe_op op_catA (pe_op op_catA (pe_slice sl_tupA (pv 1) po_none (po_some (pv 4))) (pe_slice sl_tupA (pv 1) (po_some (pv 4)) (po_some (pe_op op_add (pv 4) pe_int)))) (pe_slice sl_tupA (pv 1) (po_some (pv 4)) po_none)))) pss_nil) 
    (pss_cons (ps_if (pt_cmpR op_eq (pv 3) pe_int (nomark _)) (pss_one (ps_ret (pe_revT (pv 1)))) pss_nil) 
    (pss_cons (ps_if (pt_cmpR op_eq (pv 3) pe_int (nomark _)) (pss_one (ps_ret (pe_callTy call_list_of (by rfl) m_list (by decide +kernel) (pa_cons (pv 1) pa_nil)))) pss_nil) 
    (pss_one (ps_ret (pe_op op_catA (pe_op op_catA (pe_slice sl_tupA (pv 1) po_none (po_some (pv 4))) (pe_tup (pa_cons (pe_call G_w_of hr (by rfl) g_w_of F_w_of.kp b_w_of .nil pass0 (pa_cons (pv 0) (pa_cons (pv 2) pa_nil))) pa_nil))) (pe_slice sl_tupA (pv 1) (po_some (pe_op op_add (pv 4) pe_int)) po_none))))))))), ?_⟩
    walk_at "ev"
    refine ⟨b, 8, bx, N, rfl, hb, hB, by omega, by decide, small8000 (by decide), fun r bx1 r0 r1 hB1 => ?_⟩
    try dsimp only [tC, tNil]
    have ec1 : Same (cutS [b] (upd H b (.lst bx1))) (upd H b (.lst bx1)) := cutS_le
    have hs1 : SqT K (upd H b (.lst bx1)) c xs := ec1.sqT (by rw [cutS_upd List.mem_cons_self]; exact hs)
    walk_at "ev"
    refine ⟨b, _, bx1, N + 1, rfl, upd_same, hB1, by omega, by omega, small8000 (by omega), fun r2 bx2 r20 r21 hB2 => ?_⟩
    obtain ⟨k2, rfl⟩ : ∃ i : Nat, r2 = (i : Int) := ⟨r2.toNat, by omega⟩
    have eC : cutS [b] (upd (upd H b (.lst bx1)) b (.lst bx2)) = cutS [b] H := by rw [cutS_upd List.mem_cons_self, cutS_upd List.mem_cons_self]
    have hb3 : (upd (upd H b (.lst bx1)) b (.lst bx2)) b = some (.lst bx2) := upd_same
    try dsimp only [tC, tNil]
    generalize upd (upd H b (.lst bx1)) b (.lst bx2) = H3 at eC hb3 ⊢
    rw [← eC] at hs hg hp hpg q
    have t3 : Trk [b] H3 := Trk.cons Trk.nil hb3
    have fin : ∀ (H' : Hp) (v : V) (f : Bool) (c' : Addr) (zs : List V) (bx' : List V), v = .ref c' → SqF f K (cutS [b] H') c' zs → (∀ z ∈ zs, GoodV K (cutS [b] H') z) → zs.length ≤ 1000 → H' b = some (.lst bx') → BoxL bx' (N + 10) → Same (cutS [b] H3) (cutS [b] H') → Q v H' := fun H' v f c' zs bx' ev h1 h2 h3 h4 h5 h6 => by
      obtain ⟨ds, g1, g2⟩ := goods_of h2
      obtain ⟨k1, k2⟩ := good_seq (f := f) g2 (by rw [← dpa_len g1]; exact h3)
      subst ev
      exact q H' _ _ bx' (Dp.seq h1 g1) k1 k2 h4 h5 h6
    clear hs1 ec1 hB hb hB1
    refine ⟨_, _, rfl, ?_⟩
    walk_at "ev"
    refine ite2 (fun e => ?_) (fun e => ?_)
    · have S0 : Same (cutS [b] H3) (cutS [b] H3) := fun _ _ e => e
      have t := t3
      have hb := hb3
      walk_at "ev"
      try dsimp only [tC, tNil, tNoPart]
      refine slA_to hs t fun G1 c1 s1 h1 => ?_
      replace hs := (cutS_mono s1).sqT hs
      replace S0 := S0.trans (cutS_mono s1)
      replace t := t.mono s1
      replace hb := s1 _ _ hb
      walk_at "ev"
      try dsimp only [tC, tNil, tNoPart]
      refine slA_to hs t fun G2 c2 s2 h2 => ?_
      replace hs := (cutS_mono s2).sqT hs
      replace h1 := (cutS_mono s2).sqT h1
      replace S0 := S0.trans (cutS_mono s2)
      replace t := t.mono s2
      replace hb := s2 _ _ hb
      walk_at "ev"
      try dsimp only [tC, tNil, tNoPart]
      refine catA_to h1 h2 t (Nat.le_of_lt (sz_lt (by (try simp only [List.length_append]); have q1 := cutV_length xs none (some (k2 : Int)); have q2 := cutV_length xs (some ((k2 : Int) + 1)) none; have q3 := cutV_length xs (some (k2 : Int)) (some ((k2 : Int) + 1)); have q4 := cutV_length xs (some (k2 : Int)) none; (try simp only [List.length_cons, List.length_nil]); omega))) fun G3 c3 s3 h3 => ?_
      replace hs := (cutS_mono s3).sqT hs
      replace S0 := S0.trans (cutS_mono s3)
      replace t := t.mono s3
      replace hb := s3 _ _ hb
      refine fin _ _ true _ _ bx2 rfl h3 (fun z hz => ?_) (by (try simp only [List.length_append]); have q1 := cutV_length xs none (some (k2 : Int)); have q2 := cutV_length xs (some ((k2 : Int) + 1)) none; have q3 := cutV_length xs (some (k2 : Int)) (some ((k2 : Int) + 1)); have q4 := cutV_length xs (some (k2 : Int)) none; (try simp only [List.length_cons, List.length_nil]); omega) hb (hB2.mono (by omega)) S0
      rcases List.mem_append.mp hz with hz | hz
      · exact (hg z (cutV_mem hz)).same S0
      · exact (hg z (cutV_mem hz)).same S0
    · walk_at "ev"
      refine ite2 (fun e => ?_) (fun e => ?_)
      · have S0 : Same (cutS [b] H3) (cutS [b] H3) := fun _ _ e => e
        have t := t3
        have hb := hb3
        walk_at "ev"
        try dsimp only [tC, tNil, tNoPart]
        refine slA_to hs t fun G1 c1 s1 h1 => ?_
        replace hs := (cutS_mono s1).sqT hs
        replace S0 := S0.trans (cutS_mono s1)
        replace t := t.mono s1
        replace hb := s1 _ _ hb
        walk_at "ev"
        try dsimp only [tC, tNil, tNoPart]
        refine slA_to hs t fun G2 c2 s2 h2 => ?_
        replace hs := (cutS_mono s2).sqT hs
        replace h1 := (cutS_mono s2).sqT h1
        replace S0 := S0.trans (cutS_mono s2)
        replace t := t.mono s2
        replace hb := s2 _ _ hb
        walk_at "ev"
        try dsimp only [tC, tNil, tNoPart]
        refine catA_to h1 h2 t (Nat.le_of_lt (sz_lt (by (try simp only [List.length_append]); have q1 := cutV_length xs none (some (k2 : Int)); have q2 := cutV_length xs (some ((k2 : Int) + 1)) none; have q3 := cutV_length xs (some (k2 : Int)) (some ((k2 : Int) + 1)); have q4 := cutV_length xs (some (k2 : Int)) none; (try simp only [List.length_cons, List.length_nil]); omega))) fun G3 c3 s3 h3 => ?_
        replace hs := (cutS_mono s3).sqT hs
        replace S0 := S0.trans (cutS_mono s3)
        replace t := t.mono s3
        replace hb := s3 _ _ hb
        walk_at "ev"
        try dsimp only [tC, tNil, tNoPart]
        refine slA_to hs t fun G4 c4 s4 h4 => ?_
        replace hs := (cutS_mono s4).sqT hs
        replace h3 := (cutS_mono s4).sqT h3
        replace S0 := S0.trans (cutS_mono s4)
        replace t := t.mono s4
        replace hb := s4 _ _ hb
        walk_at "ev"
        try dsimp only [tC, tNil, tNoPart]
        refine catA_to h3 h4 t (Nat.le_of_lt (sz_lt (by (try simp only [List.length_append]); have q1 := cutV_length xs none (some (k2 : Int)); have q2 := cutV_length xs (some ((k2 : Int) + 1)) none; have q3 := cutV_length xs (some (k2 : Int)) (some ((k2 : Int) + 1)); have q4 := cutV_length xs (some (k2 : Int)) none; (try simp only [List.length_cons, List.length_nil]); omega))) fun G5 c5 s5 h5 => ?_
        replace hs := (cutS_mono s5).sqT hs
        replace S0 := S0.trans (cutS_mono s5)
        replace t := t.mono s5
        replace hb := s5 _ _ hb
        refine fin _ _ true _ _ bx2 rfl h5 (fun z hz => ?_) (by (try simp only [List.length_append]); have q1 := cutV_length xs none (some (k2 : Int)); have q2 := cutV_length xs (some ((k2 : Int) + 1)) none; have q3 := cutV_length xs (some (k2 : Int)) (some ((k2 : Int) + 1)); have q4 := cutV_length xs (some (k2 : Int)) none; (try simp only [List.length_cons, List.length_nil]); omega) hb (hB2.mono (by omega)) S0
        rcases List.mem_append.mp hz with hz | hz
        · rcases List.mem_append.mp hz with hz | hz
          · exact (hg z (cutV_mem hz)).same S0
          · exact (hg z (cutV_mem hz)).same S0
        · exact (hg z (cutV_mem hz)).same S0
      · walk_at "ev"
        refine ite2 (fun e => ?_) (fun e => ?_)
        · walk_at "ev"
          refine ⟨c, xs, rfl, cutS_le.sqT hs, fun p hp0 => ?_⟩
          refine fin _ _ true p _ bx2 rfl (sqt_of (cutS_new t3 hp0)) (fun z hz => (hg z (List.mem_reverse.mp hz)).same (cutS_mono (.upd hp0))) (by rw [List.length_reverse]; omega) ((Same.upd hp0) _ _ hb3) (hB2.mono (by omega)) (cutS_mono (.upd hp0))
        · walk_at "ev"
          refine ite2 (fun e => ?_) (fun e => ?_)
          · walk_at "ev"
            refine ⟨c, xs, rfl, .inr (cutS_le.sqT hs), fun p hp0 => ?_⟩
            refine fin _ _ false p _ bx2 rfl (sql_of (cutS_new t3 hp0)) (fun z hz => (hg z hz).same (cutS_mono (.upd hp0))) (by omega) ((Same.upd hp0) _ _ hb3) (hB2.mono (by omega)) (cutS_mono (.upd hp0))

          · have S0 : Same (cutS [b] H3) (cutS [b] H3) := fun _ _ e => e
            have t := t3
            have hb := hb3
            walk_at "ev"
            try dsimp only [tC, tNil, tNoPart]
            refine slA_to hs t fun G1 c1 s1 h1 => ?_
            replace hs := (cutS_mono s1).sqT hs
            replace S0 := S0.trans (cutS_mono s1)
            replace t := t.mono s1
            replace hb := s1 _ _ hb
            walk_at "ev"
            refine ⟨b, a, bx2, N + 2, false, ys, rfl, hb, hB2, by omega, (cutS_mono s1).sqL hp, p1, by omega, fun v bx3 hv hB3 => ?_⟩
            have hgv : GoodV K (cutS [b] G1) v := (hpg v hv).same S0
            have eC2 : cutS [b] (upd G1 b (.lst bx3)) = cutS [b] G1 := cutS_upd List.mem_cons_self
            have hbG : (upd G1 b (.lst bx3)) b = some (.lst bx3) := upd_same
            try dsimp only
            generalize upd G1 b (.lst bx3) = G2 at eC2 hbG ⊢
            rw [← eC2] at hs h1 S0 hgv
            replace t : Trk [b] G2 := Trk.cons Trk.nil hbG
            walk_at "ev"
            intro p hp0
            have s3 : Same G2 (upd G2 p (.tup [v])) := .upd hp0
            have h3 : SqT K (cutS [b] (upd G2 p (.tup [v]))) p [v] := sqt_of (cutS_new t hp0)
            try dsimp only
            generalize upd G2 p (.tup [v]) = G3 at s3 h3 ⊢
            replace hs := (cutS_mono s3).sqT hs
            replace h1 := (cutS_mono s3).sqT h1
            replace S0 := S0.trans (cutS_mono s3)
            replace hgv := hgv.same (cutS_mono s3)
            replace t := t.mono s3
            replace hbG := s3 _ _ hbG
            refine catA_to h1 h3 t (Nat.le_of_lt (sz_lt (by (try simp only [List.length_append]); have q1 := cutV_length xs none (some (k2 : Int)); have q2 := cutV_length xs (some ((k2 : Int) + 1)) none; have q3 := cutV_length xs (some (k2 : Int)) (some ((k2 : Int) + 1)); have q4 := cutV_length xs (some (k2 : Int)) none; (try simp only [List.length_cons, List.length_nil]); omega))) fun G4 c4 s4 h4 => ?_
            replace hs := (cutS_mono s4).sqT hs
            replace S0 := S0.trans (cutS_mono s4)
            replace hgv := hgv.same (cutS_mono s4)
            replace t := t.mono s4
            replace hbG := s4 _ _ hbG
            walk_at "ev"
            try dsimp only [tC, tNil, tNoPart]
            refine slA_to hs t fun G5 c5 s5 h5 => ?_
            replace h4 := (cutS_mono s5).sqT h4
            replace S0 := S0.trans (cutS_mono s5)
            replace hgv := hgv.same (cutS_mono s5)
            replace t := t.mono s5
            replace hbG := s5 _ _ hbG
            try dsimp only
            refine catA_to h4 h5 t (Nat.le_of_lt (sz_lt (by (try simp only [List.length_append]); have q1 := cutV_length xs none (some (k2 : Int)); have q2 := cutV_length xs (some ((k2 : Int) + 1)) none; have q3 := cutV_length xs (some (k2 : Int)) (some ((k2 : Int) + 1)); have q4 := cutV_length xs (some (k2 : Int)) none; (try simp only [List.length_cons, List.length_nil]); omega))) fun G6 c6 s6 h6 => ?_
            replace S0 := S0.trans (cutS_mono s6)
            replace hgv := hgv.same (cutS_mono s6)
            refine fin _ _ true _ _ bx3 rfl h6 (fun z hz => ?_) (by (try simp only [List.length_append]); have q1 := cutV_length xs none (some (k2 : Int)); have q2 := cutV_length xs (some ((k2 : Int) + 1)) none; have q3 := cutV_length xs (some (k2 : Int)) (some ((k2 : Int) + 1)); have q4 := cutV_length xs (some (k2 : Int)) none; (try simp only [List.length_cons, List.length_nil]); omega) (s6 _ _ hbG) (hB3.mono (by omega)) S0
            rcases List.mem_append.mp hz with hz | hz
            · rcases List.mem_append.mp hz with hz | hz
              · exact (hg z (cutV_mem hz)).same S0
              · rw [List.mem_singleton.mp hz]
                exact hgv
            · exact (hg z (cutV_mem hz)).same S0
end
end Jl

set_option Elab.async false
set_option linter.all false
set_option maxRecDepth 100000
set_option maxHeartbeats 1000000
set_option pp.maxSteps 900
namespace Jl
open PySem PySem.Spec PyProof.Rows L2
open Evl (sz_of sz_lt)
local macro_rules | `(tactic| walk_at "at") => `(tactic| first | exact box0 | exact box1 | exact box2)
local macro_rules | `(tactic| walk_at "sq") => `(tactic| first | (show SqL _ _ _ _; assumption) | (show SqT _ _ _ _; assumption) | (show _ = some _; assumption))
local macro_rules | `(tactic| walk_at "side") => `(tactic| first
  | (show (0 : Int) < _; decide)
  | (show (0 : Int) < _; omega)
  | exact ⟨by decide, by decide, by decide⟩
  | exact sz_of (Nat.le_of_ble_eq_true rfl)
  | exact rfl
  | exact Or.inl (by decide)
  | exact Or.inr (by decide)
  | exact Or.inr ⟨by omega, by omega⟩
  | exact Or.inl ⟨by omega, by omega⟩
  | exact ⟨by decide, by decide +kernel⟩)
local macro_rules | `(tactic| walk_at "ev1") => `(tactic| first
  | refine ⟨_, rfl, ?_⟩
  | refine ⟨_, _, rfl, rfl, ?_⟩
  | refine ⟨_, _, _, _, rfl, rfl, (by walk_at "sq"), (by walk_at "at"), ?_⟩
  | refine ⟨_, _, rfl, (by walk_at "sq"), ?_⟩
  | refine ⟨_, _, rfl, Or.inl (by walk_at "sq"), ?_⟩
  | refine ⟨_, _, rfl, Or.inr (by walk_at "sq"), ?_⟩
  | refine Or.inl ⟨_, rfl, ?_⟩
  | refine Or.inr ⟨_, rfl, ?_⟩
  | refine ⟨(by walk_at "side"), ?_⟩
  | refine ⟨.inl ⟨rfl, _, (by walk_at "sq")⟩, ?_⟩
  | refine ⟨_, _, rfl, ?_⟩)
local macro_rules | `(tactic| walk_at "nrm") => `(tactic| dsimp only [tNil, tCons, tC, tCB])
local macro_rules | `(tactic| walk_at "ev") => `(tactic| repeat (walk_at "ev1"))

/-! ### pairs of a text and a number, in order -/
abbrev PI := Str × Int
def pD (p : PI) : PyData := .tuple [.str p.1, .int p.2]
theorem str_ext {a b : Str} (h : a.cps.toList = b.cps.toList) : a = b := by
  cases a with
  | mk x =>
    cases b with
    | mk y =>
      have : x = y := Array.toList_inj.mp h
      rw [this]
theorem eqv_pD {a b : PI} : PyData.eqv (pD a) (pD b) = decide (a = b) := by
  obtain ⟨x, i⟩ := a
  obtain ⟨y, j⟩ := b
  rw [Bool.eq_iff_iff, decide_eq_true_eq]
  simp [pD, PyData.eqv, PyData.eqvAll]
theorem dataLt_pD {a b : PI} : PySem.W.dataLt (pD a) (pD b) = decide (a.1.cps.toList < b.1.cps.toList ∨ (a.1 = b.1 ∧ a.2 < b.2)) := by
  unfold pD
  rw [PySem.W.dataLt_pair (by simp [PySem.W.alike]) (by simp [PySem.W.alike]), PySem.W.dataLt_int, PySem.W.dataLt_str]
  simp only [PyData.eqv, beq_iff_eq]
  by_cases h1 : a.1 = b.1
  · rw [if_pos h1]
    have h0 : ¬ a.1.cps.toList < b.1.cps.toList := by rw [h1]; exact List.lt_irrefl _
    by_cases h2 : a.2 = b.2
    · rw [if_pos h2]
      exact (decide_eq_false (by rintro (h | ⟨_, h⟩); exact h0 h; omega)).symm
    · rw [if_neg h2]
      refine decide_eq_decide.mpr ⟨fun h => .inr ⟨h1, h⟩, fun h => ?_⟩
      rcases h with h | ⟨_, h⟩
      · exact absurd h h0
      · exact h
  · rw [if_neg h1]
    refine decide_eq_decide.mpr ⟨fun h => .inl h, fun h => ?_⟩
    rcases h with h | ⟨h, _⟩
    · exact h
    · exact absurd h h1
def leP (a b : PI) : Bool := !PySem.W.dataLt (pD b) (pD a)
theorem leP_iff {a b : PI} : leP a b = true ↔ a.1.cps.toList ≤ b.1.cps.toList ∧ (a.1 = b.1 → a.2 ≤ b.2) := by
  unfold leP
  rw [dataLt_pD, Bool.not_eq_true', decide_eq_false_iff_not]
  constructor
  · intro h
    refine ⟨List.not_lt.mp fun z => h (.inl z), fun e => ?_⟩
    have : ¬ b.2 < a.2 := fun z => h (.inr ⟨e.symm, z⟩)
    omega
  · rintro ⟨h1, h2⟩ (h | ⟨e, h⟩)
    · exact List.not_lt.mpr h1 h
    · have := h2 e.symm
      omega
theorem leP_trans (a b c : PI) (h1 : leP a b = true) (h2 : leP b c = true) : leP a c = true := by
  rw [leP_iff] at h1 h2 ⊢
  refine ⟨List.le_trans h1.1 h2.1, fun e => ?_⟩
  have e1 : a.1 = b.1 := str_ext (List.le_antisymm h1.1 (by rw [e]; exact h2.1))
  have := h1.2 e1
  have := h2.2 (e1.symm.trans e)
  omega
theorem leP_total (a b : PI) : (leP a b || leP b a) = true := by
  rw [Bool.or_eq_true, leP_iff, leP_iff]
  by_cases e : a.1 = b.1
  · rw [e]
    by_cases h : a.2 ≤ b.2
    · exact .inl ⟨List.le_refl _, fun _ => h⟩
    · exact .inr ⟨List.le_refl _, fun _ => by omega⟩
  · rcases List.le_total a.1.cps.toList b.1.cps.toList with h | h
    · exact .inl ⟨h, fun z => absurd z e⟩
    · exact .inr ⟨h, fun z => absurd z.symm e⟩
theorem leP_lt {a b : PI} (h : leP a b = true) (ne : a ≠ b) : PySem.W.dataLt (pD a) (pD b) = true := by
  rw [leP_iff] at h
  rw [dataLt_pD, decide_eq_true_eq]
  by_cases e : a.1 = b.1
  · refine .inr ⟨e, ?_⟩
    have := h.2 e
    have : a.2 ≠ b.2 := fun z => ne (Prod.ext e z)
    omega
  · refine .inl ?_
    rcases List.le_iff_lt_or_eq.mp h.1 with q | q
    · exact q
    · exact absurd (str_ext q) e
theorem asc_sorted {ps : List PI} (hp : ps.Pairwise fun a b => leP a b = true) (hn : ps.Nodup) : ascD (ps.map pD) = true := by
  unfold ascD
  rw [List.all_eq_true]
  intro i hi
  have hi := List.mem_range.mp hi
  rw [List.length_map] at hi
  have i1 : i < ps.length := by omega
  have i2 : i + 1 < ps.length := by omega
  have g1 : (ps.map pD).getD i .none = pD ps[i] := by rw [List.getD_eq_getElem?_getD, List.getElem?_map, List.getElem?_eq_getElem i1]; rfl
  have g2 : (ps.map pD).getD (i + 1) .none = pD ps[i + 1] := by rw [List.getD_eq_getElem?_getD, List.getElem?_map, List.getElem?_eq_getElem i2]; rfl
  rw [g1, g2]
  refine leP_lt (List.pairwise_iff_getElem.mp hp i (i + 1) i1 i2 (by omega)) fun e => ?_
  have := nd_ix hn (List.getElem?_eq_getElem i1) (by rw [List.getElem?_eq_getElem i2]; exact congrArg some e.symm)
  omega
/-- values with their pairs, sorted -/
theorem sort_pairs {K : PySem.W.Frag} {H : Hp} (cs : List (V × PI)) (hd : ∀ c ∈ cs, Dp K H c.1 (pD c.2)) (hn : (cs.map (·.2)).Nodup) :
    ∃ zs : List (V × PI), (((cs.map fun c => (c.1, pD c.2)).mergeSort (PySem.W.dataLe false (·.2))).map (·.1)) = zs.map (·.1) ∧ zs.Perm cs ∧ (zs.map (·.2)).Pairwise (fun a b => leP a b = true) ∧ (zs.map (·.2)).Nodup := by
  refine ⟨cs.mergeSort fun a b => leP a.2 b.2, ?_, List.mergeSort_perm _ _, ?_, ?_⟩
  · have e : (cs.map fun c => (c.1, pD c.2)).mergeSort (PySem.W.dataLe false (·.2)) = (cs.mergeSort fun a b => leP a.2 b.2).map fun c => (c.1, pD c.2) :=
      (List.map_mergeSort (r := fun a b => leP a.2 b.2) (s := PySem.W.dataLe false (·.2)) (f := fun c : V × PI => (c.1, pD c.2)) (l := cs) (fun a _ b _ => by
        rw [PySem.W.dataLe_eq]
        rfl)).symm
    rw [e, List.map_map]
    rfl
  · rw [List.pairwise_map]
    exact List.pairwise_mergeSort (le := fun a b : V × PI => leP a.2 b.2) (fun a b c h1 h2 => leP_trans a.2 b.2 c.2 h1 h2) (fun a b => leP_total a.2 b.2) cs
  · exact ((List.mergeSort_perm cs _).map (·.2)).nodup_iff.mpr hn
end Jl

set_option Elab.async false
set_option linter.all false
set_option maxRecDepth 100000
set_option maxHeartbeats 1000000
set_option pp.maxSteps 900
namespace Jl
open PySem PySem.Spec PyProof.Rows L2
open Evl (sz_of sz_lt)
local macro_rules | `(tactic| walk_at "at") => `(tactic| first | exact box0 | exact box1 | exact box2)
local macro_rules | `(tactic| walk_at "sq") => `(tactic| first | (show SqL _ _ _ _; assumption) | (show SqT _ _ _ _; assumption) | (show _ = some _; assumption))
local macro_rules | `(tactic| walk_at "side") => `(tactic| first
  | (show (0 : Int) < _; decide)
  | (show (0 : Int) < _; omega)
  | exact ⟨by decide, by decide, by decide⟩
  | exact sz_of (Nat.le_of_ble_eq_true rfl)
  | exact rfl
  | exact Or.inl (by decide)
  | exact Or.inr (by decide)
  | exact Or.inr ⟨by omega, by omega⟩
  | exact Or.inl ⟨by omega, by omega⟩
  | exact ⟨by decide, by decide +kernel⟩)
local macro_rules | `(tactic| walk_at "ev1") => `(tactic| first
  | refine ⟨_, rfl, ?_⟩
  | refine ⟨_, _, rfl, rfl, ?_⟩
  | refine ⟨_, _, _, _, rfl, rfl, (by walk_at "sq"), (by walk_at "at"), ?_⟩
  | refine ⟨_, _, rfl, (by walk_at "sq"), ?_⟩
  | refine ⟨_, _, rfl, Or.inl (by walk_at "sq"), ?_⟩
  | refine ⟨_, _, rfl, Or.inr (by walk_at "sq"), ?_⟩
  | refine Or.inl ⟨_, rfl, ?_⟩
  | refine Or.inr ⟨_, rfl, ?_⟩
  | refine ⟨(by walk_at "side"), ?_⟩
  | refine ⟨.inl ⟨rfl, _, (by walk_at "sq")⟩, ?_⟩
  | refine ⟨_, _, rfl, ?_⟩)
local macro_rules | `(tactic| walk_at "nrm") => `(tactic| dsimp only [tNil, tCons, tC, tCB])
local macro_rules | `(tactic| walk_at "ev") => `(tactic| repeat (walk_at "ev1"))

abbrev sc_w_cuts_N : List Str := ["_law_box_here", "_law_web_here", "_law_size_so", "_law_high", "_law_found", "_law_turn", "_law_own"]
abbrev s_w_cuts : Stmt := topS 16
theorem sc_w_cuts : FnScope ["_law_box_here", "_law_web_here", "_law_size_so", "_law_high", "_law_found", "_law_turn", "_law_own"] ["_law_box_here", "_law_web_here", "_law_size_so", "_law_high"] (defScope s_w_cuts) := ⟨rfl, rfl, rfl, by decide +kernel, rfl, by decide +kernel, by decide +kernel⟩
theorem pD_good {p : PI} (h : PyData.strOk p.1 = true) : goodE (pD p) := by
  refine ⟨(okD_seq (n := 4) (f := true) (ds := [.str p.1, .int p.2])).mpr ⟨by show 2 ≤ 1000; decide, fun d hd => ?_⟩, ?_, ?_⟩
  · rcases mem2 hd with rfl | rfl
    · exact okD_str
    · exact okD_int
  · unfold pD
    simp [PyData.canLay0, PyData.canLayAll0, h]
  · unfold pD
    simp [PyData.depth, PyData.depthAll]
theorem pD_shaped {p : PI} (h : PyData.strOk p.1 = true) : SeqAt.shaped (pD p) = true := by
  obtain ⟨_, h2, h3⟩ := pD_good h
  unfold SeqAt.shaped
  rw [h2, decide_eq_true (show (pD p).depth ≤ 64 by omega)]
  rfl
theorem pairB_pD {nm : List Str} {p : PI} (h1 : p.1 ∈ nm) (h2 : 1 ≤ p.2) : pairB nm (pD p) = true := by
  show (decide (p.1 ∈ nm) && decide (1 ≤ p.2)) = true
  rw [decide_eq_true h1, decide_eq_true h2]
  rfl
theorem any_pD {ps : List PI} {p : PI} : ((ps.map pD).any fun z => PyData.eqv z (pD p)) = decide (p ∈ ps) := by
  rw [List.any_map, Bool.eq_iff_iff, List.any_eq_true, decide_eq_true_eq]
  constructor
  · rintro ⟨q, hq, e⟩
    have e : PyData.eqv (pD q) (pD p) = true := e
    rw [eqv_pD, decide_eq_true_eq] at e
    rw [← e]
    exact hq
  · intro h
    exact ⟨p, h, by show PyData.eqv (pD p) (pD p) = true; rw [eqv_pD, decide_eq_true rfl]⟩
theorem list_shaped {ds : List PyData} (h : ∀ d ∈ ds, goodE d) : SeqAt.shaped (.list ds) = true := by
  have c := can_seq (f := false) fun d hd => (h d hd).2.1
  have dd := dep_seq (f := false) (n := 20) fun d hd => (h d hd).2.2
  have c : (PyData.list ds).canLay0 = true := c
  have dd : (PyData.list ds).depth ≤ 21 := dd
  unfold SeqAt.shaped
  rw [c, decide_eq_true (show (PyData.list ds).depth ≤ 64 by omega)]
  rfl
theorem dpa_zip {K : PySem.W.Frag} {H : Hp} : ∀ {xs : List V} {ps : List PI}, DpAll K H xs (ps.map pD) → ∀ c ∈ xs.zip ps, Dp K H c.1 (pD c.2)
  | _, [], h, c, hc => by
    rw [List.zip_nil_right] at hc
    exact absurd hc List.not_mem_nil
  | _, p :: ps, .cons h1 h2, c, hc => by
    rcases List.mem_cons.mp hc with e | hc
    · rw [e]
      exact h1
    · exact dpa_zip h2 c hc
theorem dpa_unzip {K : PySem.W.Frag} {H : Hp} : ∀ {zs : List (V × PI)}, (∀ c ∈ zs, Dp K H c.1 (pD c.2)) → DpAll K H (zs.map (·.1)) ((zs.map (·.2)).map pD)
  | [], _ => .nil
  | c :: zs, h => .cons (h c List.mem_cons_self) (dpa_unzip fun d hd => h d (List.mem_cons_of_mem _ hd))
section
variable {P : Program} {w : World} {K : PySem.W.Frag} {mg : Str → Option Value} {base : Heap}
/-- _law_cuts(box, web, size, high): drawn drops -/
def spCuts (K : PySem.W.Frag) : Sp := fun vs H Q _ => ∃ (b : Addr) (v : V) (s h : Int) (bx : List V) (N : Nat) (fb : Bool) (ws : List Str) (qs : List QD), vs = [.ref b, v, .int s, .int h] ∧ H b = some (.lst bx) ∧ BoxL bx N ∧ N < 2 ^ 58 ∧ Dp K (cutS [b] H) v (netD fb ws qs) ∧ 1 ≤ qs.length ∧ qs.length ≤ 60 ∧ (∀ q ∈ qs, PyData.strOk q.nm = true) ∧ 0 ≤ s ∧ s ≤ 50 ∧ 1 ≤ h ∧ h ≤ 10 ^ 50 ∧
  ∀ (H' : Hp) (c : Addr) (xs : List V) (ps : List PI) (bx' : List V), SqT K (cutS [b] H') c xs → DpAll K (cutS [b] H') xs (ps.map pD) → (ps.map pD).all (pairB (qs.map QD.nm)) = true → ascD (ps.map pD) = true → ps.length ≤ 50 → (∀ p ∈ ps, PyData.strOk p.1 = true) → H' b = some (.lst bx') → BoxL bx' (N + 200) → Same (cutS [b] H) (cutS [b] H') → Q (.ref c) H'
theorem ok_cuts {f fT fO : Addr} {fd fdT fdO : FuncData} {k : Nat} (F : Fun K "_law_cuts" "_law_cuts" s_w_cuts f fd) (G_w_take : FnOk P w K mg base CX0 k fT fdT ["_law_box_here", "_law_below"] spTake2) (g_w_take : mg "_law_take" = some (.ref fT)) (F_w_take : Fun K "_law_take" "_law_take" s_w_take fT fdT) (b_w_take : Binds K fdT ["_law_box_here", "_law_below"] [])
    (G_w_of : FnOk P w K mg base CX0 k fO fdO ["_law_box_here", "_law_some"] (spOf K)) (g_w_of : mg "_law_of" = some (.ref fO)) (F_w_of : Fun K "_law_of" "_law_of" s_w_of fO fdO) (b_w_of : Binds K fdO ["_law_box_here", "_law_some"] [])
    (m_range : mg "range" = none) (m_tuple : mg "tuple" = none) (m_sorted : mg "sorted" = none) : FnOk P w K mg base CX0 (k + 1) f fd ["_law_box_here", "_law_web_here", "_law_size_so", "_law_high"] (spCuts K) := by
  refine F.ok sc_w_cuts (fun vs H Q E h => ?_) (fun cdv A outer s0 H vs Q E hr h => ?_)
  · obtain ⟨b, v, s, h, bx, N, fb, ws, qs, rfl, _⟩ := h
    rfl
  · obtain ⟨b, v, s, h, bx, N, fb, ws, qs, rfl, hb, hB, hN, hV, q1, q2, hok, s0', s1, h0, h1, q⟩ := h
    have HU : (A.deeper (envOfC "_law_cuts" (defScope s_w_cuts) s0.heap.objs.size f cdv)).units + 65 < cLine := by
      have := hr.un
      omega
    refine ⟨_, (pss_cons (ps_set (i := 4) sc_w_cuts.nd rfl (Or.inl rfl) (pe_lst pa_nil)) 
    (pss_cons (ps_forX (ps_for PassesOwn.never rfl (pi_range1 (by rfl) m_range (pa_cons (pe_call G_w_take hr (by rfl) g_w_take F_w_take.kp b_w_take .nil pass0 (pa_cons (pv 0) (pa_cons (pe_op op_add (pv 2) pe_int) pa_nil))) pa_nil)) (pg_name (i := 5) sc_w_cuts.nd rfl (Or.inl rfl)) 
      (pss_cons (ps_set (i := 6) sc_w_cuts.nd rfl (Or.inl rfl) (pe_tup (pa_cons (pe_ix ix_lt (pe_call G_w_of hr (by rfl) g_w_of F_w_of.kp b_w_of .nil pass0 (pa_cons (pv 0) (pa_cons (pe_ix ix_lt (pv 1) pe_int (fun _ _ => rfl)) pa_nil))) pe_int (fun _ _ => rfl)) (pa_cons (pe_op op_add pe_int (pe_call G_w_take hr (by rfl) g_w_take F_w_take.kp b_w_take .nil pass0 (pa_cons (pv 0) (pa_cons (pv 3) pa_nil)))) pa_nil)))) 
      (pss_one (ps_if (pt_cmpR (op_notInD HU) (pv 6) (pv 4) (by with_unfolding_all rfl)) (pss_one (ps_expr (pe_bm PySem.F.plainAttrs_list PySem.F.slot_list_append PySem.F.type_list_append mt_append (pv 4) (pa_cons (pv 6) pa_nil)))) pss_nil))))) 
    (pss_one (ps_ret (pe_callTy call_tuple_of (by rfl) m_tuple (by decide +kernel) (pa_cons (pe_callB (cr_sortedD rfl hr.units) (by rfl) m_sorted (by decide +kernel) (pa_cons (pv 4) pa_nil)) pa_nil)))))), ?_⟩
    obtain ⟨a0, a1, a2, xq, rfl, N0⟩ := netAt hV
    have i1 : atI [V.ref a1, V.ref a2] 1 = some (.ref a2) := atI_nat (j := 1) rfl
    walk_at "ev"
    intro p hp
    have nbp : b ≠ p := ne_of_none hb hp
    have e1 : Same (cutS [b] H) (cutS [p, b] (upd H p (.lst []))) := cutS_into (.upd hp) hp
    have hb1 := (Same.upd (o := .lst []) hp) _ _ hb
    have hp1 : (upd H p (.lst [])) p = some (.lst []) := upd_same
    show gName 4 (.ref p) _ (upd H p (.lst [])) _
    generalize upd H p (.lst []) = H1 at e1 hb1 hp1 ⊢
    walk_at "ev"
    refine for_of ?_
    walk_at "ev"
    refine ⟨b, _, bx, N, rfl, hb1, hB, by omega, by omega, small8000 (by omega), fun r bx1 r0 r1 hB1 => ?_⟩
    have e2 : Same (cutS [b] H) (cutS [p, b] (upd H1 b (.lst bx1))) := by
      rw [cutS_upd (List.mem_cons_of_mem _ List.mem_cons_self)]
      exact e1
    have hb2 : (upd H1 b (.lst bx1)) b = some (.lst bx1) := upd_same
    have hp2 : (upd H1 b (.lst bx1)) p = some (.lst []) := by
      rw [upd_ne nbp.symm]
      exact hp1
    try dsimp only
    generalize upd H1 b (.lst bx1) = H2 at e2 hb2 hp2 ⊢
    walk_at "ev"
    refine ⟨by omega, by omega, ?_⟩
    obtain ⟨n, rfl⟩ : ∃ i : Nat, r = (i : Int) := ⟨r.toNat, by omega⟩
    rw [Int.toNat_natCast]
    have hn50 : n ≤ 50 := by omega
    refine forR_it (walk_range (lo := 0) (n := n)) (fun i σ Hc => ∃ x5 x6 bx' ps xs, σ = [some (.ref b), some (.ref a0), some (.int s), some (.int h), some (.ref p), x5, x6] ∧ Hc b = some (.lst bx') ∧ BoxL bx' (N + 1 + 2 * i) ∧ Hc p = some (.lst xs) ∧ DpAll K (cutS [p, b] Hc) xs (ps.map pD) ∧ ps.Nodup ∧ (∀ q ∈ ps, q.1 ∈ qs.map QD.nm ∧ 1 ≤ q.2 ∧ PyData.strOk q.1 = true) ∧ ps.length ≤ i ∧ Same (cutS [b] H) (cutS [p, b] Hc))
      ⟨_, _, bx1, [], [], rfl, hb2, hB1, hp2, .nil, List.nodup_nil, fun q hq => absurd hq List.not_mem_nil, Nat.le_refl _, e2⟩ (fun _ _ _ _ _ => trivial) (fun i u σ Hc Hc' hi hh y => ?_) (fun σ Hc hh => ?_)
    · obtain ⟨x5, x6, bx', ps, xs, rfl, hbc, hBc, hpc, hdp, hnd, hall, hpl, eS⟩ := hh
      obtain ⟨rfl, _⟩ := y
      have Nc := N0.same eS
      walk_at "ev"
      try dsimp only [tC, tNil]
      refine rIxF_at (cutS_le.sqF Nc.h0) i1 ?_
      walk_at "ev"
      refine ⟨b, a2, bx', N + 1 + 2 * i, fb, xq, rfl, hbc, hBc, by omega, cutS_tail.sqF Nc.h2, by rw [N0.ll]; omega, by rw [N0.ll]; omega, fun u2 bx2 hu hB2 => ?_⟩
      obtain ⟨j, hj1, hj2⟩ := List.getElem_of_mem hu
      obtain ⟨qd, aq, hqd, rfl, hrow⟩ := Nc.hq j u2 (by rw [List.getElem?_eq_getElem hj1, hj2])
      have hqm := List.mem_of_getElem? hqd
      have eC2 : cutS [p, b] (upd Hc' b (.lst bx2)) = cutS [p, b] Hc' := cutS_upd (List.mem_cons_of_mem _ List.mem_cons_self)
      have hb3 : (upd Hc' b (.lst bx2)) b = some (.lst bx2) := upd_same
      have hp3 : (upd Hc' b (.lst bx2)) p = some (.lst xs) := by
        rw [upd_ne nbp.symm]
        exact hpc
      try dsimp only
      generalize upd Hc' b (.lst bx2) = G1 at eC2 hb3 hp3 ⊢
      rw [← eC2] at hdp eS hrow
      walk_at "ev"
      try dsimp only [tC, tNil]
      refine rIxF_at (cutS_le.sqF hrow) (v := .str qd.nm) (atI_nat (j := 0) rfl) ?_
      walk_at "ev"
      refine ⟨b, h, bx2, N + 1 + 2 * i + 1, rfl, hb3, hB2, by omega, by omega, small8000 (by omega), fun r2 bx3 r20 r21 hB3 => ?_⟩
      have eC3 : cutS [p, b] (upd G1 b (.lst bx3)) = cutS [p, b] G1 := cutS_upd (List.mem_cons_of_mem _ List.mem_cons_self)
      have hb4 : (upd G1 b (.lst bx3)) b = some (.lst bx3) := upd_same
      have hp4 : (upd G1 b (.lst bx3)) p = some (.lst xs) := by
        rw [upd_ne nbp.symm]
        exact hp3
      try dsimp only
      generalize upd G1 b (.lst bx3) = G2 at eC3 hb4 hp4 ⊢
      rw [← eC3] at hdp eS
      walk_at "ev"
      intro T hT
      have t2 : Trk [p, b] G2 := Trk.cons (Trk.cons Trk.nil hb4) hp4
      have dT : Dp K (cutS [p, b] (upd G2 T (.tup [.str qd.nm, .int (1 + r2)]))) (.ref T) (pD (qd.nm, 1 + r2)) := dp_tup t2 hT (.cons (.str _) (.cons (.int _) .nil))
      have s3 := Same.upd (o := .tup [.str qd.nm, .int (1 + r2)]) hT
      try dsimp only
      generalize upd G2 T (.tup [.str qd.nm, .int (1 + r2)]) = G3 at dT s3 ⊢
      replace hdp := (cutS_mono s3).dpa hdp
      replace eS := eS.trans (cutS_mono s3)
      replace hb4 := s3 _ _ hb4
      replace hp4 := s3 _ _ hp4
      have hsk : PyData.strOk qd.nm = true := hok qd hqm
      have hgd : ∀ d ∈ ps.map pD, goodE d := fun d hd => by
        obtain ⟨q, hq, rfl⟩ := List.mem_map.mp hd
        exact pD_good (hall q hq).2.2
      walk_at "ev"
      refine ⟨pD (qd.nm, 1 + r2), ps.map pD, cutS_le.dp dT, .lst (sql_of hp4) (cutS_le.dpa hdp), pD_shaped hsk, list_shaped hgd, ?_⟩
      rw [any_pD]
      walk_at "ev"
      cases hin : decide ((qd.nm, 1 + r2) ∈ ps) with
      | true =>
        refine iteF ?_
        exact ⟨_, _, bx3, ps, xs, rfl, hb4, hB3.mono (by omega), hp4, hdp, hnd, hall, by omega, eS⟩
      | false =>
        refine iteT ?_
        have hni : (qd.nm, 1 + r2) ∉ ps := of_decide_eq_false hin
        have hq4 : SqL K G3 p xs := sql_of hp4
        walk_at "ev"
        have xl : xs.length = ps.length := by rw [dpa_len hdp, List.length_map]
        refine ⟨p, _, _, rfl, rfl, hp4, sz_lt (by omega), ?_⟩
        refine ⟨_, _, bx3, ps ++ [(qd.nm, 1 + r2)], xs ++ [.ref T], rfl, ?_, hB3.mono (by omega), upd_same, ?_, ?_, fun q hq => ?_, ?_, ?_⟩
        · rw [upd_ne nbp]
          exact hb4
        · rw [cutS_upd List.mem_cons_self, List.map_append]
          exact dpa_app hdp (dpa_one dT)
        · exact List.nodup_append.mpr ⟨hnd, by simp, fun x hx y hy => by
            rw [List.mem_singleton.mp hy]
            exact fun z => hni (by rw [← z]; exact hx)⟩
        · rcases List.mem_append.mp hq with hq | hq
          · exact hall q hq
          · rw [List.mem_singleton.mp hq]
            exact ⟨List.mem_map.mpr ⟨qd, hqm, rfl⟩, by show (1 : Int) ≤ 1 + r2; omega, hsk⟩
        · rw [List.length_append]
          show ps.length + 1 ≤ i + 1
          omega
        · rw [cutS_upd List.mem_cons_self]
          exact eS
    · obtain ⟨x5, x6, bx', ps, xs, rfl, hbc, hBc, hpc, hdp, hnd, hall, hpl, eS⟩ := hh
      walk_at "ev"
      have xl : xs.length = ps.length := by rw [dpa_len hdp, List.length_map]
      have z1 : ((xs.zip ps).map fun c => (c.1, pD c.2)).map (·.1) = xs := by
        rw [List.map_map]
        exact List.map_fst_zip (by omega)
      have z2 : (xs.zip ps).map (·.2) = ps := List.map_snd_zip (by omega)
      have hz := dpa_zip hdp
      obtain ⟨zs, g1, g2, g3, g4⟩ := sort_pairs (xs.zip ps) hz (by rw [z2]; exact hnd)
      have gp : (zs.map (·.2)).Perm ps := by
        have := g2.map (·.2)
        rw [z2] at this
        exact this
      have hmem : ∀ d ∈ ((xs.zip ps).map fun c => (c.1, pD c.2)).map (·.2), ∃ q : PI, d = pD q := fun d hd => by
        obtain ⟨c, hc, rfl⟩ := List.mem_map.mp hd
        obtain ⟨c', _, rfl⟩ := List.mem_map.mp hc
        exact ⟨c'.2, rfl⟩
      refine ⟨p, (xs.zip ps).map fun c => (c.1, pD c.2), rfl, sql_of (by rw [z1]; exact hpc), fun c hc => ?_, fun d hd e he => ?_, .inl fun d hd => ?_, fun c hc => ?_, fun L hL => ?_⟩
      · obtain ⟨c', hc', rfl⟩ := List.mem_map.mp hc
        exact cutS_le.dp (hz c' hc')
      · obtain ⟨q1, rfl⟩ := hmem d hd
        obtain ⟨q2, rfl⟩ := hmem e he
        simp [pD, PySem.W.alike, PySem.W.alikeAll]
      · obtain ⟨q1, rfl⟩ := hmem d hd
        exact ⟨_, _, rfl⟩
      · obtain ⟨c', hc', rfl⟩ := List.mem_map.mp hc
        simp [pD, PyData.depth, PyData.depthAll]
      · rw [g1]
        walk_at "ev"
        refine ⟨L, _, rfl, .inl ⟨sql_of upd_same, fun l hl => ?_⟩⟩
        have s1' := Same.upd (o := .lst (zs.map (·.1))) hL
        have s2' := Same.upd (o := .tup (zs.map (·.1))) hl
        have t3 : Trk [p, b] (upd Hc L (.lst (zs.map (·.1)))) := Trk.cons (Trk.cons Trk.nil (s1' _ _ hbc)) (s1' _ _ hpc)
        have s3 := s1'.trans s2'
        refine q _ l (zs.map (·.1)) (zs.map (·.2)) bx' (cutS_tail.sqT (sqt_of (cutS_new t3 hl))) ((Same.trans (cutS_mono s3) cutS_tail).dpa (dpa_unzip fun c hc => hz c (g2.mem_iff.mp hc))) ?_ (asc_sorted g3 g4) ?_ (fun q hq => (hall q (gp.mem_iff.mp hq)).2.2) (s3 _ _ hbc) (hBc.mono (by omega)) (eS.trans (Same.trans (cutS_mono s3) cutS_tail))
        · rw [List.all_eq_true]
          intro d hd
          obtain ⟨q, hq, rfl⟩ := List.mem_map.mp hd
          have := hall q (gp.mem_iff.mp hq)
          exact pairB_pD this.1 this.2.1
        · rw [gp.length_eq]
          omega
end
end Jl

set_option Elab.async false
set_option linter.all false
set_option maxRecDepth 100000
set_option maxHeartbeats 1000000
set_option pp.maxSteps 900
namespace Jl
open PySem PySem.Spec PyProof.Rows L2
open Evl (sz_of sz_lt)
local macro_rules | `(tactic| walk_at "at") => `(tactic| first | exact box0 | exact box1 | exact box2)
local macro_rules | `(tactic| walk_at "sq") => `(tactic| first | (show SqL _ _ _ _; assumption) | (show SqT _ _ _ _; assumption) | (show _ = some _; assumption))
local macro_rules | `(tactic| walk_at "side") => `(tactic| first
  | (show (0 : Int) < _; decide)
  | (show (0 : Int) < _; omega)
  | exact ⟨by decide, by decide, by decide⟩
  | exact sz_of (Nat.le_of_ble_eq_true rfl)
  | exact rfl
  | exact Or.inl (by decide)
  | exact Or.inr (by decide)
  | exact Or.inr ⟨by omega, by omega⟩
  | exact Or.inl ⟨by omega, by omega⟩
  | exact ⟨by decide, by decide +kernel⟩)
local macro_rules | `(tactic| walk_at "ev1") => `(tactic| first
  | refine ⟨_, rfl, ?_⟩
  | refine ⟨_, _, rfl, rfl, ?_⟩
  | refine ⟨_, _, _, _, rfl, rfl, (by walk_at "sq"), (by walk_at "at"), ?_⟩
  | refine ⟨_, _, rfl, (by walk_at "sq"), ?_⟩
  | refine ⟨_, _, rfl, Or.inl (by walk_at "sq"), ?_⟩
  | refine ⟨_, _, rfl, Or.inr (by walk_at "sq"), ?_⟩
  | refine Or.inl ⟨_, rfl, ?_⟩
  | refine Or.inr ⟨_, rfl, ?_⟩
  | refine ⟨(by walk_at "side"), ?_⟩
  | refine ⟨.inl ⟨rfl, _, (by walk_at "sq")⟩, ?_⟩
  | refine ⟨_, _, rfl, ?_⟩)
local macro_rules | `(tactic| walk_at "nrm") => `(tactic| dsimp only [tNil, tCons, tC, tCB])
local macro_rules | `(tactic| walk_at "ev") => `(tactic| repeat (walk_at "ev1"))

abbrev sc_w_hand_right_N : List Str := ["_law_web_here", "_law_some", "_law_due", "_law_own"]
abbrev s_w_hand_right : Stmt := topS 21
theorem sc_w_hand_right : FnScope ["_law_web_here", "_law_some", "_law_due", "_law_own"] [] (defScope s_w_hand_right) := ⟨rfl, rfl, rfl, by decide +kernel, rfl, by decide +kernel, by decide +kernel⟩
/-! ### data written out: what an expression makes, by its data alone -/
def Is (K : PySem.W.Frag) (H0 : Hp) (te : TE) (d : PyData) (σ : L2.St) : Prop := ∀ (H : Hp) (Q : VK), Same H0 H → (∀ H' v, Same H H' → Dp K H' v d → Q v H') → te σ H Q
def Are (K : PySem.W.Frag) (H0 : Hp) (t : TA) (ds : List PyData) (σ : L2.St) : Prop := ∀ (H : Hp) (Q : List V → Hp → Prop), Same H0 H → (∀ H' vs, Same H H' → DpAll K H' vs ds → Q vs H') → t σ H Q
section
variable {K : PySem.W.Frag} {H0 : Hp} {σ : L2.St}
theorem is_int {i : Int} : Is K H0 (tC (.int i)) (.int i) σ := fun H Q _ q => q H _ (fun _ _ e => e) (.int i)
theorem is_str {x : Str} : Is K H0 (tC (.str x)) (.str x) σ := fun H Q _ q => q H _ (fun _ _ e => e) (.str x)
theorem is_bl {b : Bool} : Is K H0 (tC (.bl b)) (.bool b) σ := fun H Q _ q => q H _ (fun _ _ e => e) (.bl b)
theorem is_non : Is K H0 (tC .non) .none σ := fun H Q _ q => q H _ (fun _ _ e => e) .non
theorem is_neg {i : Int} : Is K H0 (tUn (rU fun i => .int (-i)) (tC (.int i))) (.int (-i)) σ := fun H Q _ q => ⟨i, rfl, q H _ (fun _ _ e => e) (.int (-i))⟩
theorem is_pow {i j : Int} (h : CPow i j) : Is K H0 (tOp (rI CPow fun i j => .int (i ^ j.toNat)) (tC (.int i)) (tC (.int j))) (.int (i ^ j.toNat)) σ := fun H Q _ q => ⟨i, j, rfl, rfl, h, q H _ (fun _ _ e => e) (.int _)⟩
theorem are_nil : Are K H0 tNil [] σ := fun H Q _ q => q H _ (fun _ _ e => e) .nil
theorem are_cons {te : TE} {t : TA} {d : PyData} {ds : List PyData} (h1 : Is K H0 te d σ) (h2 : Are K H0 t ds σ) : Are K H0 (tCons te t) (d :: ds) σ := fun H Q e q =>
  h1 H _ e fun H1 v s1 d1 => h2 H1 _ (e.trans s1) fun H2 vs s2 d2 => q H2 (v :: vs) (s1.trans s2) (.cons (s2.dp d1) d2)
theorem is_tup {t : TA} {ds : List PyData} (h : Are K H0 t ds σ) (hl : ds.length ≤ 1000) : Is K H0 (tTup t) (.tuple ds) σ := fun H Q e q =>
  h H _ e fun H1 vs s1 d1 => ⟨Nat.le_of_lt (sz_lt (by rw [dpa_len d1]; omega)), fun p hp => q _ _ (s1.trans (.upd hp)) (dpn_tup hp d1)⟩
theorem is_lst {t : TA} {ds : List PyData} (h : Are K H0 t ds σ) (hl : ds.length ≤ 1000) : Is K H0 (tLst t) (.list ds) σ := fun H Q e q =>
  h H _ e fun H1 vs s1 d1 => ⟨Nat.le_of_lt (sz_lt (by rw [dpa_len d1]; omega)), fun p hp => q _ _ (s1.trans (.upd hp)) (dpn_lst hp d1)⟩
/-- a new list, tracked -/
theorem new_lst {t : TA} {ds : List PyData} {H : Hp} {Q : VK} (h : Are K H t ds σ) (hl : ds.length ≤ 1000) (q : ∀ H' p vs, Same H H' → H p = none → H' p = some (.lst vs) → DpAll K H' vs ds → Q (.ref p) H') : tLst t σ H Q :=
  h H _ (fun _ _ e => e) fun H1 vs s1 d1 => ⟨Nat.le_of_lt (sz_lt (by rw [dpa_len d1]; omega)), fun p hp => q _ p vs (s1.trans (.upd hp)) (s1.free hp) upd_same ((Same.upd hp).dpa d1)⟩
theorem new_is {te : TE} {d : PyData} {H : Hp} {Q : VK} (h : Is K H te d σ) (q : ∀ H' v, Same H H' → Dp K H' v d → Q v H') : te σ H Q := h H Q (fun _ _ e => e) q
end
local macro_rules | `(tactic| walk_at "d") => `(tactic| repeat (first
  | exact is_int
  | exact is_str
  | exact is_bl
  | exact is_non
  | exact is_neg
  | exact is_pow ⟨by decide, by decide, by decide⟩
  | exact are_nil
  | refine is_tup ?_ ?_
  | refine is_lst ?_ ?_
  | refine are_cons ?_ ?_
  | (show List.length _ ≤ 1000; decide)))
def hS : List PyData := [.tuple [.int (0), .int (0)], .tuple [.int (1000000000000000000000000000000000000000000000000000000000000), .int (1)], .tuple [.int (0)], .tuple [.int (0), .int (0), .int (0)], .tuple [.int (-1), .int (0)], .tuple [.bool true, .int (0)], .tuple [.int (0), .none], .list [.int (0), .int (0)], .tuple [], .none, .int (0), .str (Str.ofString "00")]
def hA : List PyData := [.tuple [], .tuple [.tuple [.str (Str.ofString "p"), .int (1)]], .tuple [.tuple [.str (Str.ofString "p"), .int (1)], .tuple [.str (Str.ofString "p"), .int (2)], .tuple [.str (Str.ofString "q"), .int (1)]], .tuple [.tuple [.str (Str.ofString "p"), .int (2)], .tuple [.str (Str.ofString "p"), .int (1)]], .tuple [.tuple [.str (Str.ofString "q"), .int (1)], .tuple [.str (Str.ofString "p"), .int (1)]], .tuple [.tuple [.str (Str.ofString "p"), .int (0)]]]
def hB : List PyData := [.tuple [.tuple [.str (Str.ofString "r"), .int (1)]], .tuple [.tuple [.str (Str.ofString "p"), .bool true]], .tuple [.tuple [.str (Str.ofString "p"), .int (1)], .tuple [.str (Str.ofString "p"), .int (1)]], .list [.tuple [.str (Str.ofString "p"), .int (1)]], .tuple [.list [.str (Str.ofString "p"), .int (1)]], .tuple [.tuple [.str (Str.ofString "p")]]]
def hC : List PyData := [.tuple [.tuple [.str (Str.ofString "p"), .int (1), .int (1)]]]
def hE : List PyData := [.tuple [.str (Str.ofString "p"), .int (1)], .tuple [.tuple [.str (Str.ofString "a"), .int (1)]], .tuple [.tuple [.int (1), .str (Str.ofString "p")]], .none, .str (Str.ofString ""), .int (3), .tuple [.tuple [.str (Str.ofString "p"), .int (100000000000000000000000000000000000000000000000000)]], .tuple [.str (Str.ofString "p1")]]
def hws : List Str := [Str.ofString "a", Str.ofString "b"]
def hqs : List QD := [⟨Str.ofString "p", Str.ofString "a", Str.ofString "b", 2, 1⟩, ⟨Str.ofString "q", Str.ofString "b", Str.ofString "a", 2, 1⟩]
/-- keywords only -/
def gOnly {α : Type} (us ws : List α) : List α := match us with
  | [] => ws
  | _ :: _ => []
theorem vals_only {vs : List V} {us : List Value} {zs : List V} {ws : List Value} (h : Vals vs us) (h2 : Vals zs ws) : Vals (gOnly vs zs) (gOnly us ws) := by
  cases h with
  | nil => exact h2
  | cons _ _ => exact .nil
/-- the bounds of data, counted -/
def okB : Nat → PyData → Bool
  | 0, _ => false
  | n + 1, .list ds => decide (ds.length ≤ 1000) && ds.all (okB n)
  | n + 1, .tuple ds => decide (ds.length ≤ 1000) && ds.all (okB n)
  | _ + 1, .dict _ => false
  | _ + 1, _ => true
theorem okB_ok : ∀ {n : Nat} {d : PyData}, okB n d = true → okD n d
  | n + 1, .none, _ => trivial
  | n + 1, .bool _, _ => trivial
  | n + 1, .int _, _ => trivial
  | n + 1, .str _, _ => trivial
  | n + 1, .list ds, h => by
    have h : (decide (ds.length ≤ 1000) && ds.all (okB n)) = true := h
    rw [Bool.and_eq_true, List.all_eq_true] at h
    exact ⟨of_decide_eq_true h.1, fun d hd => okB_ok (h.2 d hd)⟩
  | n + 1, .tuple ds, h => by
    have h : (decide (ds.length ≤ 1000) && ds.all (okB n)) = true := h
    rw [Bool.and_eq_true, List.all_eq_true] at h
    exact ⟨of_decide_eq_true h.1, fun d hd => okB_ok (h.2 d hd)⟩
theorem dpa_bls {K : PySem.W.Frag} {H : Hp} : ∀ {bs : List Bool}, DpAll K H (bs.map V.bl) (bs.map PyData.bool)
  | [] => .nil
  | b :: bs => .cons (.bl b) dpa_bls
/-- a comprehension of bools over data, the heap ahead of it kept -/
theorem lc_boolsS {K : PySem.W.Frag} {tl te : TE} {j : Nat} {vs : List Nat} {σ : L2.St} {H H0 : Hp} {Q : VK} {a : Addr} {fb : Bool} {xs : List V} {ds : List PyData} (g : PyData → Bool)
    (ht : ∀ R' : VK, R' (.ref a) H0 → tl σ H R') (hs : SqF fb K H0 a xs) (ha : DpAll K H0 xs ds) (hl : ds.length ≤ 1000)
    (hw : ∀ x, wipe ((wipe σ vs).set j (some x)) vs = wipe σ vs)
    (he : ∀ (x : V) (d : PyData) (H1 : Hp), d ∈ ds → Same H0 H1 → Dp K H1 x d → ∀ Q' : VK, (∀ H2, Same H1 H2 → Q' (.bl (g d)) H2) → te ((wipe σ vs).set j (some x)) H1 Q')
    (q : ∀ D H', Same H0 H' → H' D = some (.lst ((ds.map g).map V.bl)) → Q (.ref D) H') : tLcX (iSeq K tl) (gName j) tYes te vs σ H Q := by
  have ll := dpa_len ha
  refine lc_of ?_
  refine iSeq_at ht hs fun J w D hD => ?_
  refine lc_it w (fun i H1 => Same H0 H1 ∧ H1 D = some (.lst (((ds.take i).map g).map V.bl))) ⟨.upd hD, upd_same⟩ (fun i H1 _ p => p.1.sqF hs) (fun i x H1 H1' hi p y => ?_) (fun H1 p => ?_)
  · obtain ⟨e1, e2⟩ := p
    obtain ⟨rfl, hx⟩ := y
    obtain ⟨d, hd, hxd⟩ := dpa_get ha hx
    refine ⟨hw x, ?_⟩
    dsimp only [tYes]
    rw [if_pos rfl]
    refine he x d H1' (List.mem_of_getElem? hd) e1 (e1.dp hxd) _ fun H2 s2 => ?_
    refine ⟨_, s2 _ _ e2, by rw [List.length_map, List.length_map, List.length_take]; exact sz_lt (by omega), (e1.trans s2).mut hD, ?_⟩
    rw [upd_same, List.take_add_one, hd, List.map_append, List.map_append]
    rfl
  · obtain ⟨e1, e2⟩ := p
    rw [ll, List.take_length] at e2
    exact q D H1 e1 e2
/-! ### new lists out of lists -/
def MkL (K : PySem.W.Frag) (H0 : Hp) (te : TE) (ds : List PyData) (σ : L2.St) : Prop := ∀ (H : Hp) (Q : VK), Same H0 H → (∀ H' p vs, Same H H' → H' p = some (.lst vs) → DpAll K H' vs ds → Q (.ref p) H') → te σ H Q
theorem mk_lst {K : PySem.W.Frag} {H0 : Hp} {σ : L2.St} {t : TA} {ds : List PyData} (h : Are K H0 t ds σ) (hl : ds.length ≤ 1000) : MkL K H0 (tLst t) ds σ := fun H Q e q =>
  h H _ e fun H1 vs s1 d1 => ⟨Nat.le_of_lt (sz_lt (by rw [dpa_len d1]; omega)), fun p hp => q _ p vs (s1.trans (.upd hp)) upd_same ((Same.upd hp).dpa d1)⟩
theorem mk_var {K : PySem.W.Frag} {H0 : Hp} {σ : L2.St} {i : Nat} {p : Addr} {vs : List V} {ds : List PyData} (hi : σ[i]? = some (some (.ref p))) (hp : H0 p = some (.lst vs)) (hd : DpAll K H0 vs ds) : MkL K H0 (tVar i) ds σ := fun H Q e q =>
  ⟨_, hi, q H p vs (fun _ _ e => e) (e _ _ hp) (e.dpa hd)⟩
theorem mk_cat {K : PySem.W.Frag} {H0 : Hp} {σ : L2.St} {ta tb : TE} {ds es : List PyData} (h1 : MkL K H0 ta ds σ) (h2 : MkL K H0 tb es σ) (hl : ds.length + es.length ≤ 1000) : MkL K H0 (tOp rCat ta tb) (ds ++ es) σ := fun H Q e q =>
  h1 H _ e fun H1 p1 v1 s1 g1 d1 => h2 H1 _ (e.trans s1) fun H2 p2 v2 s2 g2 d2 => ⟨p1, p2, v1, v2, rfl, rfl, s2 _ _ g1, g2, Nat.le_of_lt (sz_lt (by rw [dpa_len d1, dpa_len d2]; omega)), fun p hp =>
    q _ p _ ((s1.trans s2).trans (.upd hp)) upd_same ((Same.upd hp).dpa (dpa_app (s2.dpa d1) d2))⟩
theorem dpa_rep {K : PySem.W.Frag} {H : Hp} {vs : List V} {ds : List PyData} (h : DpAll K H vs ds) : ∀ n : Nat, DpAll K H (List.replicate n vs).flatten (List.replicate n ds).flatten
  | 0 => .nil
  | n + 1 => by
    rw [List.replicate_succ, List.replicate_succ, List.flatten_cons, List.flatten_cons]
    exact dpa_app h (dpa_rep h n)
theorem mk_rep {K : PySem.W.Frag} {H0 : Hp} {σ : L2.St} {ta : TE} {ds : List PyData} {k : Int} (h1 : MkL K H0 ta ds σ) (hk : 0 ≤ k ∧ k ≤ 1000) (hl : ds.length * k.toNat ≤ 1000) : MkL K H0 (tOp rRep ta (tC (.int k))) (List.replicate k.toNat ds).flatten σ := fun H Q e q =>
  h1 H _ e fun H1 p1 v1 s1 g1 d1 => ⟨p1, k, v1, rfl, rfl, g1, by omega, by omega, Nat.le_of_lt (sz_lt (by rw [dpa_len d1]; omega)), fun p hp =>
    q _ p _ (s1.trans (.upd hp)) upd_same ((Same.upd hp).dpa (dpa_rep d1 _))⟩
def bsC : List Bool := [true, true, false, false, false, false, false, false, false, false, false, false]
def bsD : List Bool := [true, true, true, false, false, false, false, false, false, false, false, false, false, false, false, false, false, false, false, true, false]
theorem hand_c : hS.map (cntD 2) = bsC := by decide +kernel
theorem hand_d : (((hA ++ hB) ++ hC) ++ hE).map (dropsD (hqs.map QD.nm)) = bsD := by decide +kernel
theorem hand_ok1 : ∀ d ∈ hS, okB 6 d = true ∧ SeqAt.shaped d = true := by decide +kernel
theorem hand_ok2 : ∀ d ∈ ((hA ++ hB) ++ hC) ++ hE, okB 6 d = true ∧ SeqAt.shaped d = true := by decide +kernel
section
variable {P : Program} {w : World} {K : PySem.W.Frag} {mg : Str → Option Value} {base : Heap}
def spHand : Sp := fun vs H Q _ => vs = [] ∧ ∀ H', Same H H' → Q (.bl true) H'
theorem ok_hand {f fC fD fS : Addr} {fd fdC fdD fdS : FuncData} {k : Nat} (F : Fun K "_law_hand_right" "_law_hand_right" s_w_hand_right f fd)
    (G_is_counts : FnOk P w K mg base CX0 k fC fdC ["net", "thing"] (spCnt K)) (g_is_counts : mg "is_counts" = some (.ref fC)) (F_is_counts : Fun K "is_counts" "is_counts" s_is_counts fC fdC) (b_is_counts : Binds K fdC ["net", "thing"] []) (kb_is_counts : KBinds K fdC ["net", "thing"] ["net", "thing"] gOnly gOnly)
    (G_is_drops : FnOk P w K mg base CX0 k fD fdD ["net", "thing"] (spDrp K)) (g_is_drops : mg "is_drops" = some (.ref fD)) (F_is_drops : Fun K "is_drops" "is_drops" s_is_drops fD fdD) (b_is_drops : Binds K fdD ["net", "thing"] []) (kb_is_drops : KBinds K fdD ["net", "thing"] ["net", "thing"] gOnly gOnly)
    (G_w_same : FnOk P w K mg base CX0 k fS fdS ["_law_got", "_law_due"] (spSame K 4)) (g_w_same : mg "_law_same" = some (.ref fS)) (F_w_same : Fun K "_law_same" "_law_same" s_w_same fS fdS) (b_w_same : Binds K fdS ["_law_got", "_law_due"] []) : FnOk P w K mg base CX0 (k + 1) f fd [] spHand := by
  refine F.ok sc_w_hand_right (fun vs H Q E h => ?_) (fun cdv A outer s0 H vs Q E hr h => ?_)
  · obtain ⟨rfl, _⟩ := h
    rfl
  · obtain ⟨rfl, q⟩ := h
    refine ⟨_, (pss_cons (ps_set (i := 0) sc_w_hand_right.nd rfl (Or.inr rfl) (pe_tup (pa_cons (pe_tup (pa_cons pe_str (pa_cons pe_str pa_nil))) (pa_cons (pe_tup (pa_cons (pe_tup (pa_cons pe_str (pa_cons pe_str (pa_cons pe_str (pa_cons pe_int (pa_cons pe_int pa_nil)))))) (pa_cons (pe_tup (pa_cons pe_str (pa_cons pe_str (pa_cons pe_str (pa_cons pe_int (pa_cons pe_int pa_nil)))))) pa_nil))) pa_nil)))) 
    (pss_cons (ps_set (i := 1) sc_w_hand_right.nd rfl (Or.inl rfl) (pe_lst (pa_cons (pe_tup (pa_cons pe_int (pa_cons pe_int pa_nil))) (pa_cons (pe_tup (pa_cons (pe_op op_pow pe_int pe_int) (pa_cons pe_int pa_nil))) (pa_cons (pe_tup (pa_cons pe_int pa_nil)) (pa_cons (pe_tup (pa_cons pe_int (pa_cons pe_int (pa_cons pe_int pa_nil)))) (pa_cons (pe_tup (pa_cons (pe_un un_neg pe_int) (pa_cons pe_int pa_nil))) (pa_cons (pe_tup (pa_cons pe_bl (pa_cons pe_int pa_nil))) (pa_cons (pe_tup (pa_cons pe_int (pa_cons pe_non pa_nil))) (pa_cons (pe_lst (pa_cons pe_int (pa_cons pe_int pa_nil))) (pa_cons (pe_tup pa_nil) (pa_cons pe_non (pa_cons pe_int (pa_cons pe_str pa_nil)))))))))))))) 
    (pss_cons (ps_set (i := 2) sc_w_hand_right.nd rfl (Or.inl rfl) (pe_op op_cat (pe_lst (pa_cons pe_bl (pa_cons pe_bl pa_nil))) (pe_op op_rep (pe_lst (pa_cons pe_bl pa_nil)) pe_int))) 
    (pss_cons (ps_if (PW.pt (pw_or (pt_not (pt_val (pe_call G_w_same hr (by rfl) g_w_same F_w_same.kp b_w_same .nil pass0 (pa_cons (pe_lcX (pe_lc (own := [("_law_own", 3)]) (g := gName 3) (tt := tYes) (te := tCall (spCnt K) [] E0 (tCons (tVar 0) (tCons (tVar 3) tNil))) (by rfl) sc_w_hand_right.nd (pi_seq (pv 1)) (blkOk_by (own := [("_law_own", 3)]) (N := sc_w_hand_right_N) (sc := defScope s_w_hand_right) (by decide +kernel)) (fun _ _ _ _ _ => pg_name (i := 3) sc_w_hand_right.nd rfl (Or.inl rfl)) (fun _ _ _ _ _ => pts_nil) (fun _ _ _ _ _ => (pe_call G_is_counts hr (by rfl) g_is_counts F_is_counts.kp b_is_counts .nil pass0 (pa_cons (pv 0) (pa_cons (pv 3) pa_nil)))))) (pa_cons (pv 2) pa_nil))))) (pw_or1 (pt_cmpR op_notBl (pe_callK0 G_is_counts hr (by rfl) g_is_counts F_is_counts.kp kb_is_counts pass0 (pk_cons (pv 0) (pk_cons (pe_tup (pa_cons pe_int (pa_cons pe_int pa_nil))) pk_nil))) pe_bl (nomark _))))) (pss_one (ps_ret pe_bl)) pss_nil) 
    (pss_cons (ps_set (i := 1) sc_w_hand_right.nd rfl (Or.inl rfl) (pe_lst (pa_cons (pe_tup pa_nil) (pa_cons (pe_tup (pa_cons (pe_tup (pa_cons pe_str (pa_cons pe_int pa_nil))) pa_nil)) (pa_cons (pe_tup (pa_cons (pe_tup (pa_cons pe_str (pa_cons pe_int pa_nil))) (pa_cons (pe_tup (pa_cons pe_str (pa_cons pe_int pa_nil))) (pa_cons (pe_tup (pa_cons pe_str (pa_cons pe_int pa_nil))) pa_nil)))) (pa_cons (pe_tup (pa_cons (pe_tup (pa_cons pe_str (pa_cons pe_int pa_nil))) (pa_cons (pe_tup (pa_cons pe_str (pa_cons pe_int pa_nil))) pa_nil))) (pa_cons (pe_tup (pa_cons (pe_tup (pa_cons pe_str (pa_cons pe_int pa_nil))) (pa_cons (pe_tup (pa_cons pe_str (pa_cons pe_int pa_nil))) pa_nil))) (pa_cons (pe_tup (pa_cons (pe_tup (pa_cons pe_str (pa_cons pe_int pa_nil))) pa_nil)) pa_nil)))))))) 
    (pss_cons (ps_set (i := 1) sc_w_hand_right.nd rfl (Or.inl rfl) (pe_op op_cat (pv 1) (pe_lst (pa_cons (pe_tup (pa_cons (pe_tup (pa_cons pe_str (pa_cons pe_int pa_nil))) pa_nil)) (pa_cons (pe_tup (pa_cons (pe_tup (pa_cons pe_str (pa_cons pe_bl pa_nil))) pa_nil)) (pa_cons (pe_tup (pa_cons (pe_tup (pa_cons pe_str (pa_cons pe_int pa_nil))) (pa_cons (pe_tup (pa_cons pe_str (pa_cons pe_int pa_nil))) pa_nil))) (pa_cons (pe_lst (pa_cons (pe_tup (pa_cons pe_str (pa_cons pe_int pa_nil))) pa_nil)) (pa_cons (pe_tup (pa_cons (pe_lst (pa_cons pe_str (pa_cons pe_int pa_nil))) pa_nil)) (pa_cons (pe_tup (pa_cons (pe_tup (pa_cons pe_str pa_nil)) pa_nil)) pa_nil))))))))) 
    (pss_cons (ps_set (i := 1) sc_w_hand_right.nd rfl (Or.inl rfl) (pe_op op_cat (pv 1) (pe_lst (pa_cons (pe_tup (pa_cons (pe_tup (pa_cons pe_str (pa_cons pe_int (pa_cons pe_int pa_nil)))) pa_nil)) pa_nil)))) 
    (pss_cons (ps_set (i := 1) sc_w_hand_right.nd rfl (Or.inl rfl) (pe_op op_cat (pv 1) (pe_lst (pa_cons (pe_tup (pa_cons pe_str (pa_cons pe_int pa_nil))) (pa_cons (pe_tup (pa_cons (pe_tup (pa_cons pe_str (pa_cons pe_int pa_nil))) pa_nil)) (pa_cons (pe_tup (pa_cons (pe_tup (pa_cons pe_int (pa_cons pe_str pa_nil))) pa_nil)) (pa_cons pe_non (pa_cons pe_str (pa_cons pe_int (pa_cons (pe_tup (pa_cons (pe_tup (pa_cons pe_str (pa_cons (pe_op op_pow pe_int pe_int) pa_nil))) pa_nil)) (pa_cons (pe_tup (pa_cons pe_str pa_nil)) pa_nil))))))))))) 
    (pss_cons (ps_set (i := 2) sc_w_hand_right.nd rfl (Or.inl rfl) (pe_op op_cat (pe_op op_cat (pe_op op_rep (pe_lst (pa_cons pe_bl pa_nil)) pe_int) (pe_op op_rep (pe_lst (pa_cons pe_bl pa_nil)) pe_int)) (pe_lst (pa_cons pe_bl (pa_cons pe_bl pa_nil))))) 
    (pss_one (ps_ret (pe_and (pe_call G_w_same hr (by rfl) g_w_same F_w_same.kp b_w_same .nil pass0 (pa_cons (pe_lcX (pe_lc (own := [("_law_own", 3)]) (g := gName 3) (tt := tYes) (te := tCall (spDrp K) [] E0 (tCons (tVar 0) (tCons (tVar 3) tNil))) (by rfl) sc_w_hand_right.nd (pi_seq (pv 1)) (blkOk_by (own := [("_law_own", 3)]) (N := sc_w_hand_right_N) (sc := defScope s_w_hand_right) (by decide +kernel)) (fun _ _ _ _ _ => pg_name (i := 3) sc_w_hand_right.nd rfl (Or.inl rfl)) (fun _ _ _ _ _ => pts_nil) (fun _ _ _ _ _ => (pe_call G_is_drops hr (by rfl) g_is_drops F_is_drops.kp b_is_drops .nil pass0 (pa_cons (pv 0) (pa_cons (pv 3) pa_nil)))))) (pa_cons (pv 2) pa_nil))) (pe_one (pe_cmpR op_isBl (pe_callK0 G_is_drops hr (by rfl) g_is_drops F_is_drops.kp kb_is_drops pass0 (pk_cons (pv 0) (pk_cons (pe_tup (pa_cons (pe_tup (pa_cons pe_str (pa_cons pe_int pa_nil))) pa_nil)) pk_nil))) pe_bl (nomark _))))))))))))))), ?_⟩
    refine new_is (K := K) (d := netD true hws hqs) (by walk_at "d") fun H1 v1 s1 d1 => ?_
    try dsimp only [gName, tSeq, tAsg]
    refine new_lst (K := K) (ds := hS) (by walk_at "d") (by decide) fun H2 p2 vs2 s2 f2 h2 d2 => ?_
    try dsimp only [gName, tSeq, tAsg]
    refine (mk_cat (K := K) (H0 := H2) (ds := [.bool true, .bool true]) (es := (List.replicate (Int.toNat 10) [.bool false]).flatten) (mk_lst (by walk_at "d") (by decide)) (mk_rep (mk_lst (by walk_at "d") (by decide)) (by decide) (by decide)) (by decide)) H2 _ (fun _ _ e => e) fun H3 p3 vs3 s3 h3 d3 => ?_
    try dsimp only [gName, tSeq, tAsg]
    have e13 := s2.trans s3
    walk_at "ev"
    refine lc_boolsS (fb := false) (cntD 2) (fun R' r => ⟨_, rfl, r⟩) (sql_of (s3 _ _ h2)) (s3.dpa d2) (by decide) (fun x => rfl) (fun x d H4 hd e4 hx Q' q' => ?_) (fun D H4 s4 h4 => ?_)
    · obtain ⟨o1, o2⟩ := hand_ok1 d hd
      exact ⟨_, rfl, _, rfl, v1, true, hws, hqs, x, d, rfl, (e13.trans e4).dp d1, hx, okB_ok o1, o2, q'⟩
    · rw [hand_c] at h4
      refine ⟨_, rfl, ?_⟩
      try dsimp only [tNil]
      refine ⟨.ref D, .ref p3, .list (bsC.map PyData.bool), rfl, .lst (sql_of h4) dpa_bls, .lst (sql_of (s4 _ _ h3)) (s4.dpa d3), okB_ok (by decide +kernel), fun H5 s5 => ?_⟩
      refine ⟨_, rfl, ?_⟩
      refine iteF ?_
      walk_at "ev"
      intro t ht
      have dt := dpn_tup (K := K) ht (.cons (.int 3) (.cons (.int 4) .nil))
      have e15 := (e13.trans s4).trans s5
      refine ⟨v1, true, hws, hqs, .ref t, .tuple [.int 3, .int 4], rfl, (e15.trans (.upd ht)).dp d1, dt, okB_ok (by decide +kernel), by decide +kernel, fun H6 s6 => ?_⟩
      have c34 : cntD hws.length (.tuple [.int 3, .int 4]) = true := by decide +kernel
      rw [c34]
      have e16 := (e15.trans (Same.upd ht)).trans s6
      clear dt c34 h4 s4 s5 d3 h3 s6
      refine ⟨_, _, rfl, rfl, ?_⟩
      refine ⟨_, rfl, ?_⟩
      rw [decide_eq_true rfl]
      refine iteF ?_
      try dsimp only [tNext, gName, tSeq, tAsg]
      refine new_lst (K := K) (ds := hA) (by walk_at "d") (by decide) fun H7 p7 vs7 s7 f7 h7 d7 => ?_
      try dsimp only [gName, tSeq, tAsg]
      refine (mk_cat (K := K) (H0 := H7) (ds := hA) (es := hB) (mk_var rfl h7 d7) (mk_lst (by walk_at "d") (by decide)) (by decide)) H7 _ (fun _ _ e => e) fun H8 p8 vs8 s8 h8 d8 => ?_
      try dsimp only [gName, tSeq, tAsg]
      refine (mk_cat (K := K) (H0 := H8) (ds := hA ++ hB) (es := hC) (mk_var rfl h8 d8) (mk_lst (by walk_at "d") (by decide)) (by decide)) H8 _ (fun _ _ e => e) fun H9 p9 vs9 s9 h9 d9 => ?_
      try dsimp only [gName, tSeq, tAsg]
      refine (mk_cat (K := K) (H0 := H9) (ds := (hA ++ hB) ++ hC) (es := hE) (mk_var rfl h9 d9) (mk_lst (by walk_at "d") (by decide)) (by decide)) H9 _ (fun _ _ e => e) fun HA pA vsA sA hA' dA => ?_
      try dsimp only [gName, tSeq, tAsg]
      refine (mk_cat (K := K) (H0 := HA) (ds := (List.replicate (Int.toNat 3) [.bool true]).flatten ++ (List.replicate (Int.toNat 16) [.bool false]).flatten) (es := [.bool true, .bool false]) (mk_cat (mk_rep (mk_lst (by walk_at "d") (by decide)) (by decide) (by decide)) (mk_rep (mk_lst (by walk_at "d") (by decide)) (by decide) (by decide)) (by decide)) (mk_lst (by walk_at "d") (by decide)) (by decide)) HA _ (fun _ _ e => e) fun HB pB vsB sB hB' dB => ?_
      try dsimp only [gName, tSeq, tAsg]
      have e1B := e16.trans ((((s7.trans s8).trans s9).trans sA).trans sB)
      walk_at "ev"
      refine lc_boolsS (fb := false) (dropsD (hqs.map QD.nm)) (fun R' r => ⟨_, rfl, r⟩) (sql_of (sB _ _ hA')) (sB.dpa dA) (by decide) (fun x => rfl) (fun x d H4 hd e4 hx Q' q' => ?_) (fun D2 HC sC hC' => ?_)
      · obtain ⟨o1, o2⟩ := hand_ok2 d hd
        exact ⟨_, rfl, _, rfl, v1, true, hws, hqs, x, d, rfl, (e1B.trans e4).dp d1, by decide +kernel, by decide, hx, okB_ok o1, o2, q'⟩
      · rw [hand_d] at hC'
        refine ⟨_, rfl, ?_⟩
        try dsimp only [tNil]
        refine ⟨.ref D2, .ref pB, .list (bsD.map PyData.bool), rfl, .lst (sql_of hC') dpa_bls, .lst (sql_of (sC _ _ hB')) (sC.dpa dB), okB_ok (by decide +kernel), fun HD sD => ?_⟩
        refine ⟨_, rfl, ?_⟩
        refine iteT ?_
        walk_at "ev"
        intro t1 ht1
        have dt1 := dpn_tup (K := K) ht1 (.cons (.str (Str.ofString "q")) (.cons (.int 9) .nil))
        walk_at "ev"
        intro t2 ht2
        have dt2 := dpn_tup (K := K) ht2 (.cons dt1 .nil)
        have eD := (e1B.trans sC).trans sD
        have eT := (eD.trans (Same.upd (o := .tup [.str (Str.ofString "q"), .int 9]) ht1)).trans (Same.upd (o := .tup [.ref t1]) ht2)
        refine ⟨v1, true, hws, hqs, .ref t2, .tuple [.tuple [.str (Str.ofString "q"), .int 9]], rfl, eT.dp d1, by decide +kernel, by decide, dt2, okB_ok (by decide +kernel), by decide +kernel, fun HF sF => ?_⟩
        have cq : dropsD (hqs.map QD.nm) (.tuple [.tuple [.str (Str.ofString "q"), .int 9]]) = true := by decide +kernel
        rw [cq]
        refine ⟨_, _, rfl, rfl, ?_⟩
        rw [decide_eq_true rfl]
        exact q _ ((s1.trans eT).trans sF)
end
end Jl

set_option Elab.async false
set_option linter.all false
set_option maxRecDepth 100000
set_option maxHeartbeats 1000000
set_option pp.maxSteps 900
namespace Jl
open PySem PySem.Spec PyProof.Rows L2
open Evl (sz_of sz_lt)
local macro_rules | `(tactic| walk_at "at") => `(tactic| first | exact box0 | exact box1 | exact box2)
local macro_rules | `(tactic| walk_at "sq") => `(tactic| first | (show SqL _ _ _ _; assumption) | (show SqT _ _ _ _; assumption) | (show _ = some _; assumption))
local macro_rules | `(tactic| walk_at "side") => `(tactic| first
  | (show (0 : Int) < _; decide)
  | (show (0 : Int) < _; omega)
  | exact ⟨by decide, by decide, by decide⟩
  | exact sz_of (Nat.le_of_ble_eq_true rfl)
  | exact rfl
  | exact Or.inl (by decide)
  | exact Or.inr (by decide)
  | exact Or.inr ⟨by omega, by omega⟩
  | exact Or.inl ⟨by omega, by omega⟩
  | exact ⟨by decide, by decide +kernel⟩)
local macro_rules | `(tactic| walk_at "ev1") => `(tactic| first
  | refine ⟨_, rfl, ?_⟩
  | refine ⟨_, _, rfl, rfl, ?_⟩
  | refine ⟨_, _, _, _, rfl, rfl, (by walk_at "sq"), (by walk_at "at"), ?_⟩
  | refine ⟨_, _, rfl, (by walk_at "sq"), ?_⟩
  | refine ⟨_, _, rfl, Or.inl (by walk_at "sq"), ?_⟩
  | refine ⟨_, _, rfl, Or.inr (by walk_at "sq"), ?_⟩
  | refine Or.inl ⟨_, rfl, ?_⟩
  | refine Or.inr ⟨_, rfl, ?_⟩
  | refine ⟨(by walk_at "side"), ?_⟩
  | refine ⟨.inl ⟨rfl, _, (by walk_at "sq")⟩, ?_⟩
  | refine ⟨_, _, rfl, ?_⟩)
local macro_rules | `(tactic| walk_at "nrm") => `(tactic| dsimp only [tNil, tCons, tC, tCB])
local macro_rules | `(tactic| walk_at "ev") => `(tactic| repeat (walk_at "ev1"))

abbrev sc_w_right_N : List Str := ["_law_box_here", "_law_turn", "_law_web_here", "_law_some", "_law_cuts_here", "_law_part", "_law_pool", "_law_tag"]
abbrev s_w_right : Stmt := topS 22
theorem sc_w_right : FnScope ["_law_box_here", "_law_turn", "_law_web_here", "_law_some", "_law_cuts_here", "_law_part", "_law_pool", "_law_tag"] ["_law_box_here"] (defScope s_w_right) := ⟨rfl, rfl, rfl, by decide +kernel, rfl, by decide +kernel, by decide +kernel⟩
/-! ### data written out, beside a cut -/
def IsC (K : PySem.W.Frag) (S : List Addr) (H0 : Hp) (te : TE) (d : PyData) (σ : L2.St) : Prop := ∀ (H : Hp) (Q : VK), Same H0 H → Trk S H → (∀ H' v, Same H H' → Dp K (cutS S H') v d → Q v H') → te σ H Q
def AreC (K : PySem.W.Frag) (S : List Addr) (H0 : Hp) (t : TA) (ds : List PyData) (σ : L2.St) : Prop := ∀ (H : Hp) (Q : List V → Hp → Prop), Same H0 H → Trk S H → (∀ H' vs, Same H H' → DpAll K (cutS S H') vs ds → Q vs H') → t σ H Q
def RdL (K : PySem.W.Frag) (S : List Addr) (H0 : Hp) (te : TE) (ds : List PyData) (σ : L2.St) : Prop := ∀ (H : Hp) (Q : VK), Same H0 H → Trk S H → (∀ H' p vs, Same H H' → H' p = some (.lst vs) → DpAll K (cutS S H') vs ds → Q (.ref p) H') → te σ H Q
def NwL (K : PySem.W.Frag) (S : List Addr) (H0 : Hp) (te : TE) (ds : List PyData) (σ : L2.St) : Prop := ∀ (H : Hp) (Q : VK), Same H0 H → Trk S H → (∀ H' p vs, Same H H' → H p = none → H' p = some (.lst vs) → DpAll K (cutS (p :: S) H') vs ds → Q (.ref p) H') → te σ H Q
section
variable {K : PySem.W.Frag} {S : List Addr} {H0 : Hp} {σ : L2.St}
theorem ic_int {i : Int} : IsC K S H0 (tC (.int i)) (.int i) σ := fun H Q _ _ q => q H _ (fun _ _ e => e) (.int i)
theorem ic_str {x : Str} : IsC K S H0 (tC (.str x)) (.str x) σ := fun H Q _ _ q => q H _ (fun _ _ e => e) (.str x)
theorem ic_bl {b : Bool} : IsC K S H0 (tC (.bl b)) (.bool b) σ := fun H Q _ _ q => q H _ (fun _ _ e => e) (.bl b)
theorem ic_non : IsC K S H0 (tC .non) .none σ := fun H Q _ _ q => q H _ (fun _ _ e => e) .non
theorem ic_neg {i : Int} : IsC K S H0 (tUn (rU fun i => .int (-i)) (tC (.int i))) (.int (-i)) σ := fun H Q _ _ q => ⟨i, rfl, q H _ (fun _ _ e => e) (.int (-i))⟩
theorem ic_pow {i j : Int} (h : CPow i j) : IsC K S H0 (tOp (rI CPow fun i j => .int (i ^ j.toNat)) (tC (.int i)) (tC (.int j))) (.int (i ^ j.toNat)) σ := fun H Q _ _ q => ⟨i, j, rfl, rfl, h, q H _ (fun _ _ e => e) (.int _)⟩
theorem ac_nil : AreC K S H0 tNil [] σ := fun H Q _ _ q => q H _ (fun _ _ e => e) .nil
theorem ac_cons {te : TE} {t : TA} {d : PyData} {ds : List PyData} (h1 : IsC K S H0 te d σ) (h2 : AreC K S H0 t ds σ) : AreC K S H0 (tCons te t) (d :: ds) σ := fun H Q e tr q =>
  h1 H _ e tr fun H1 v s1 d1 => h2 H1 _ (e.trans s1) (tr.mono s1) fun H2 vs s2 d2 => q H2 (v :: vs) (s1.trans s2) (.cons ((cutS_mono s2).dp d1) d2)
theorem ic_tup {t : TA} {ds : List PyData} (h : AreC K S H0 t ds σ) (hl : ds.length ≤ 1000) : IsC K S H0 (tTup t) (.tuple ds) σ := fun H Q e tr q =>
  h H _ e tr fun H1 vs s1 d1 => ⟨Nat.le_of_lt (sz_lt (by rw [dpa_len d1]; omega)), fun p hp => q _ _ (s1.trans (.upd hp)) (dp_tup (tr.mono s1) hp d1)⟩
theorem ic_lst {t : TA} {ds : List PyData} (h : AreC K S H0 t ds σ) (hl : ds.length ≤ 1000) : IsC K S H0 (tLst t) (.list ds) σ := fun H Q e tr q =>
  h H _ e tr fun H1 vs s1 d1 => ⟨Nat.le_of_lt (sz_lt (by rw [dpa_len d1]; omega)), fun p hp => q _ _ (s1.trans (.upd hp)) (dp_lst (tr.mono s1) hp d1)⟩
theorem nw_lst {t : TA} {ds : List PyData} (h : AreC K S H0 t ds σ) (hl : ds.length ≤ 1000) : NwL K S H0 (tLst t) ds σ := fun H Q e tr q =>
  h H _ e tr fun H1 vs s1 d1 => ⟨Nat.le_of_lt (sz_lt (by rw [dpa_len d1]; omega)), fun p hp => q _ p vs (s1.trans (.upd hp)) (s1.free hp) upd_same ((cutS_into (.upd hp) hp).dpa d1)⟩
theorem rd_nw {te : TE} {ds : List PyData} (h : NwL K S H0 te ds σ) : RdL K S H0 te ds σ := fun H Q e tr q => h H Q e tr fun H' p vs s1 _ h1 d1 => q H' p vs s1 h1 (cutS_tail.dpa d1)
theorem rd_var {i : Nat} {p : Addr} {vs : List V} {ds : List PyData} (hi : σ[i]? = some (some (.ref p))) (hp : H0 p = some (.lst vs)) (hd : DpAll K (cutS S H0) vs ds) : RdL K S H0 (tVar i) ds σ := fun H Q e _ q =>
  ⟨_, hi, q H p vs (fun _ _ e => e) (e _ _ hp) ((cutS_mono e).dpa hd)⟩
theorem nw_cat {ta tb : TE} {ds es : List PyData} (h1 : RdL K S H0 ta ds σ) (h2 : RdL K S H0 tb es σ) (hl : ds.length + es.length ≤ 1000) : NwL K S H0 (tOp rCat ta tb) (ds ++ es) σ := fun H Q e tr q =>
  h1 H _ e tr fun H1 p1 v1 s1 g1 d1 => h2 H1 _ (e.trans s1) (tr.mono s1) fun H2 p2 v2 s2 g2 d2 => ⟨p1, p2, v1, v2, rfl, rfl, s2 _ _ g1, g2, Nat.le_of_lt (sz_lt (by rw [dpa_len d1, dpa_len d2]; omega)), fun p hp =>
    q _ p _ ((s1.trans s2).trans (.upd hp)) ((s1.trans s2).free hp) upd_same ((cutS_into (.upd hp) hp).dpa (dpa_app ((cutS_mono s2).dpa d1) d2))⟩
/-- a name of a queue: web[1][j][0] -/
theorem ic_nm {a0 a1 a2 aq : Addr} {ws : List Str} {qs : List QD} {xq : List V} {i : Nat} {j : Int} {q : QD} (N : NetAt K H0 true a0 a1 a2 ws qs xq) (hi : σ[i]? = some (some (.ref a0))) (hj : atI xq j = some (.ref aq)) (hq : SqF true K H0 aq [.str q.nm, .str q.st, .str q.en, .int q.room, .int q.gap]) :
    IsC K S H0 (tOp (rIxF K) (tOp (rIxF K) (tOp (rIxF K) (tVar i) (tC (.int 1))) (tC (.int j))) (tC (.int 0))) (.str q.nm) σ := fun H Q e _ k =>
  ⟨_, hi, rIxF_at (N.same e).h0 (atI_nat (j := 1) rfl) (rIxF_at (N.same e).h2 hj (rIxF_at (e.sqF hq) (atI_nat (j := 0) rfl) (k H _ (fun _ _ e => e) (.str _))))⟩
/-- a worker: web[0][0] -/
theorem ic_ws {a0 a1 a2 : Addr} {ws : List Str} {qs : List QD} {xq : List V} {i : Nat} {z : Str} (N : NetAt K H0 true a0 a1 a2 ws qs xq) (hi : σ[i]? = some (some (.ref a0))) (hz : ws[0]? = some z) :
    IsC K S H0 (tOp (rIxF K) (tOp (rIxF K) (tVar i) (tC (.int 0))) (tC (.int 0))) (.str z) σ := fun H Q e _ k =>
  ⟨_, hi, rIxF_at (N.same e).h0 (atI_nat (j := 0) rfl) (rIxF_at (N.same e).h1 (atI_nat (j := 0) (by rw [List.getElem?_map, hz]; rfl)) (k H _ (fun _ _ e => e) (.str _)))⟩
end
end Jl

set_option Elab.async false
set_option linter.all false
set_option maxRecDepth 100000
set_option maxHeartbeats 1000000
set_option pp.maxSteps 900
namespace Jl
open PySem PySem.Spec PyProof.Rows L2
open Evl (sz_of sz_lt)
local macro_rules | `(tactic| walk_at "at") => `(tactic| first | exact box0 | exact box1 | exact box2)
local macro_rules | `(tactic| walk_at "sq") => `(tactic| first | (show SqL _ _ _ _; assumption) | (show SqT _ _ _ _; assumption) | (show _ = some _; assumption))
local macro_rules | `(tactic| walk_at "side") => `(tactic| first
  | (show (0 : Int) < _; decide)
  | (show (0 : Int) < _; omega)
  | exact ⟨by decide, by decide, by decide⟩
  | exact sz_of (Nat.le_of_ble_eq_true rfl)
  | exact rfl
  | exact Or.inl (by decide)
  | exact Or.inr (by decide)
  | exact Or.inr ⟨by omega, by omega⟩
  | exact Or.inl ⟨by omega, by omega⟩
  | exact ⟨by decide, by decide +kernel⟩)
local macro_rules | `(tactic| walk_at "ev1") => `(tactic| first
  | refine ⟨_, rfl, ?_⟩
  | refine ⟨_, _, rfl, rfl, ?_⟩
  | refine ⟨_, _, _, _, rfl, rfl, (by walk_at "sq"), (by walk_at "at"), ?_⟩
  | refine ⟨_, _, rfl, (by walk_at "sq"), ?_⟩
  | refine ⟨_, _, rfl, Or.inl (by walk_at "sq"), ?_⟩
  | refine ⟨_, _, rfl, Or.inr (by walk_at "sq"), ?_⟩
  | refine Or.inl ⟨_, rfl, ?_⟩
  | refine Or.inr ⟨_, rfl, ?_⟩
  | refine ⟨(by walk_at "side"), ?_⟩
  | refine ⟨.inl ⟨rfl, _, (by walk_at "sq")⟩, ?_⟩
  | refine ⟨_, _, rfl, ?_⟩)
local macro_rules | `(tactic| walk_at "nrm") => `(tactic| dsimp only [tNil, tCons, tC, tCB])
local macro_rules | `(tactic| walk_at "ev") => `(tactic| repeat (walk_at "ev1"))

local macro_rules | `(tactic| walk_at "c") => `(tactic| repeat (first
  | exact ic_int
  | exact ic_str
  | exact ic_bl
  | exact ic_non
  | exact ic_neg
  | exact ic_pow ⟨by decide, by decide, by decide⟩
  | exact ac_nil
  | refine ic_tup ?_ ?_
  | refine ic_lst ?_ ?_
  | refine ac_cons ?_ ?_
  | exact Nat.le_of_ble_eq_true rfl))
theorem dpa_ints_of {K : PySem.W.Frag} {H : Hp} : ∀ {is : List Int} {vs : List V}, DpAll K H vs (is.map PyData.int) → vs = is.map V.int
  | [], _, h => by
    cases h
    rfl
  | i :: is, _, h => by
    cases h with
    | cons h1 h2 =>
      cases h1
      rw [dpa_ints_of h2]
      rfl
theorem goodV_of {K : PySem.W.Frag} {H : Hp} {vs : List V} {ds : List PyData} (h : DpAll K H vs ds) (hg : ∀ d ∈ ds, goodE d) : ∀ v ∈ vs, GoodV K H v := fun v hv => by
  obtain ⟨i, hi, rfl⟩ := List.getElem_of_mem hv
  obtain ⟨d, hd, hd2⟩ := dpa_get h (List.getElem?_eq_getElem hi)
  exact ⟨d, hd2, hg d (List.mem_of_getElem? hd)⟩
theorem good_int {i : Int} : goodE (.int i) := ⟨okD_int, by simp [PyData.canLay0], by simp [PyData.depth]⟩
theorem cnt_some {is : List Int} {n : Nat} (hl : is.length = n) (h : ∀ z ∈ is, 0 ≤ z) : cntD n (.tuple (is.map PyData.int)) = true := by
  show (decide (((is.map PyData.int).length : Int) = n) && (is.map PyData.int).all (numD 0)) = true
  rw [List.length_map, hl, decide_eq_true rfl, Bool.true_and, List.all_eq_true]
  intro d hd
  obtain ⟨z, hz, rfl⟩ := List.mem_map.mp hd
  exact decide_eq_true (h z hz)
def pool1 : List PyData := [.int (-1), .int 0, .bool true, .none, .str (Str.ofString "1"), .tuple [], .tuple [.int 0], .int (10 ^ (Int.toNat 50))]
theorem pool1_good : ∀ d ∈ pool1, goodE d := fun d hd => by
  have h : ∀ d ∈ pool1, okB 5 d = true ∧ d.canLay0 = true ∧ d.depth ≤ 20 := by decide +kernel
  obtain ⟨h1, h2, h3⟩ := h d hd
  exact ⟨okB_ok h1, h2, h3⟩
/-- the last one's name -/
theorem ic_nmN {K : PySem.W.Frag} {S : List Addr} {H0 : Hp} {σ : L2.St} {a0 a1 a2 aq : Addr} {ws : List Str} {qs : List QD} {xq : List V} {i : Nat} {q : QD} (N : NetAt K H0 true a0 a1 a2 ws qs xq) (hi : σ[i]? = some (some (.ref a0))) (hj : atI xq (-1) = some (.ref aq)) (hq : SqF true K H0 aq [.str q.nm, .str q.st, .str q.en, .int q.room, .int q.gap]) :
    IsC K S H0 (tOp (rIxF K) (tOp (rIxF K) (tOp (rIxF K) (tVar i) (tC (.int 1))) (tUn (rU fun i => .int (-i)) (tC (.int 1)))) (tC (.int 0))) (.str q.nm) σ := fun H Q e _ k =>
  ⟨_, hi, rIxF_at (N.same e).h0 (atI_nat (j := 1) rfl) ⟨1, rfl, rIxF_at (N.same e).h2 hj (rIxF_at (e.sqF hq) (atI_nat (j := 0) rfl) (k H _ (fun _ _ e => e) (.str _)))⟩⟩
local macro_rules | `(tactic| walk_at "c2") => `(tactic| repeat (first
  | exact ic_int
  | exact ic_str
  | exact ic_bl
  | exact ic_non
  | exact ic_neg
  | exact ic_pow ⟨by decide, by decide, by decide⟩
  | exact ic_nm (by assumption) rfl (by assumption) (by assumption)
  | exact ic_nmN (by assumption) rfl (by assumption) (by assumption)
  | exact ic_ws (by assumption) rfl (by assumption)
  | exact ac_nil
  | refine ic_tup ?_ ?_
  | refine ic_lst ?_ ?_
  | refine ac_cons ?_ ?_
  | exact Nat.le_of_ble_eq_true rfl))
def plA (n0 nL w0 : Str) : List PyData := [.tuple [.str (Str.ofString "p"), .int 0], .tuple [.str (Str.ofString "zz"), .int 1], .tuple [.str n0, .int 0], .tuple [.str n0, .int 3], .tuple [.str nL, .int (10 ^ (Int.toNat 30))], .tuple [.str w0, .int 1]]
def plB (n0 : Str) : List PyData := [.list [.str n0, .int 2], .tuple [.str n0, .bool true], .tuple [.str n0], .none, .str (Str.ofString "p"), .tuple [.str n0, .int 4, .int 4]]
def plC (n0 : Str) : List PyData := [.tuple [.list [], .int 1], .tuple [.none, .int 1], .tuple [.str n0, .none], .tuple [.str n0, .str (Str.ofString "1")], .tuple [.int 1, .int 1], .tuple [.tuple [], .int 2]]
def plD (n0 : Str) : PyData := .tuple [.str n0, .list [.int 1]]
theorem pl_good {n0 nL w0 : Str} (h1 : PyData.strOk n0 = true) (h2 : PyData.strOk nL = true) (h3 : PyData.strOk w0 = true) : ∀ d ∈ ((plA n0 nL w0 ++ plB n0) ++ plC n0) ++ [plD n0], goodE d := fun d hd => by
  have k1 : PyData.strOk (Str.ofString "p") = true := by decide +kernel
  have k2 : PyData.strOk (Str.ofString "zz") = true := by decide +kernel
  have k3 : PyData.strOk (Str.ofString "1") = true := by decide +kernel
  simp only [plA, plB, plC, plD, List.cons_append, List.nil_append, List.mem_cons, List.not_mem_nil, or_false] at hd
  rcases hd with rfl | rfl | rfl | rfl | rfl | rfl | rfl | rfl | rfl | rfl | rfl | rfl | rfl | rfl | rfl | rfl | rfl | rfl | rfl <;>
    (refine ⟨?_, ?_, ?_⟩ <;> simp [okD, PyData.canLay0, PyData.canLayAll0, PyData.depth, PyData.depthAll, h1, h2, h3, k1, k2, k3])
section
variable {P : Program} {w : World} {K : PySem.W.Frag} {mg : Str → Option Value} {base : Heap}
def spRight (K : PySem.W.Frag) : Sp := fun vs H Q _ => ∃ (b : Addr) (bx : List V) (N : Nat), vs = [.ref b] ∧ H b = some (.lst bx) ∧ BoxL bx N ∧ N < 2 ^ 49 ∧ ∀ H', Same (cutS [b] H) H' → Q (.bl true) H'
theorem ok_right {f fH fW fO fC fP fL fA fB fS : Addr} {fd fdH fdW fdO fdC fdP fdL fdA fdB fdS : FuncData} {k : Nat} (F : Fun K "_law_right" "_law_right" s_w_right f fd)
    (G_w_hand_right : FnOk P w K mg base CX0 k fH fdH [] spHand) (g_w_hand_right : mg "_law_hand_right" = some (.ref fH)) (F_w_hand_right : Fun K "_law_hand_right" "_law_hand_right" s_w_hand_right fH fdH) (b_w_hand_right : Binds K fdH [] [])
    (G_w_web : FnOk P w K mg base CX0 k fW fdW ["_law_box_here", "_law_size_so", "_law_most", "_law_high"] (spWeb K)) (g_w_web : mg "_law_web" = some (.ref fW)) (F_w_web : Fun K "_law_web" "_law_web" s_w_web fW fdW) (b_w_web : Binds K fdW ["_law_box_here", "_law_size_so", "_law_most", "_law_high"] [])
    (G_w_of : FnOk P w K mg base CX0 k fO fdO ["_law_box_here", "_law_some"] (spOf K)) (g_w_of : mg "_law_of" = some (.ref fO)) (F_w_of : Fun K "_law_of" "_law_of" s_w_of fO fdO) (b_w_of : Binds K fdO ["_law_box_here", "_law_some"] [])
    (G_w_cuts : FnOk P w K mg base CX0 k fC fdC ["_law_box_here", "_law_web_here", "_law_size_so", "_law_high"] (spCuts K)) (g_w_cuts : mg "_law_cuts" = some (.ref fC)) (F_w_cuts : Fun K "_law_cuts" "_law_cuts" s_w_cuts fC fdC) (b_w_cuts : Binds K fdC ["_law_box_here", "_law_web_here", "_law_size_so", "_law_high"] [])
    (G_is_counts : FnOk P w K mg base CX0 k fA fdA ["net", "thing"] (spCnt K)) (g_is_counts : mg "is_counts" = some (.ref fA)) (F_is_counts : Fun K "is_counts" "is_counts" s_is_counts fA fdA) (b_is_counts : Binds K fdA ["net", "thing"] [])
    (G_is_drops : FnOk P w K mg base CX0 k fB fdB ["net", "thing"] (spDrp K)) (g_is_drops : mg "is_drops" = some (.ref fB)) (F_is_drops : Fun K "is_drops" "is_drops" s_is_drops fB fdB) (b_is_drops : Binds K fdB ["net", "thing"] [])
    (G_w_spoilt : FnOk P w K mg base CX0 k fP fdP ["_law_box_here", "_law_matter", "_law_pool"] (spSpoilt K)) (g_w_spoilt : mg "_law_spoilt" = some (.ref fP)) (F_w_spoilt : Fun K "_law_spoilt" "_law_spoilt" s_w_spoilt fP fdP) (b_w_spoilt : Binds K fdP ["_law_box_here", "_law_matter", "_law_pool"] [])
    (G_w_lists : FnOk P w K mg base CX0 k fL fdL ["_law_matter"] (spLists K 4)) (g_w_lists : mg "_law_lists" = some (.ref fL)) (F_w_lists : Fun K "_law_lists" "_law_lists" s_w_lists fL fdL) (b_w_lists : Binds K fdL ["_law_matter"] [])
    {fAC fAD : Addr} {fdAC fdAD : FuncData} (G_w_are_counts : FnOk P w K mg base CX0 k fAC fdAC ["_law_web_here", "_law_matter"] (spCnt K)) (g_w_are_counts : mg "_law_are_counts" = some (.ref fAC)) (F_w_are_counts : Fun K "_law_are_counts" "_law_are_counts" s_w_are_counts fAC fdAC) (b_w_are_counts : Binds K fdAC ["_law_web_here", "_law_matter"] [])
    (G_w_are_cuts : FnOk P w K mg base CX0 k fAD fdAD ["_law_web_here", "_law_matter"] (spDrp K)) (g_w_are_cuts : mg "_law_are_cuts" = some (.ref fAD)) (F_w_are_cuts : Fun K "_law_are_cuts" "_law_are_cuts" s_w_are_cuts fAD fdAD) (b_w_are_cuts : Binds K fdAD ["_law_web_here", "_law_matter"] [])
    (G_w_same : FnOk P w K mg base CX0 k fS fdS ["_law_got", "_law_due"] (spSame K 4)) (g_w_same : mg "_law_same" = some (.ref fS)) (F_w_same : Fun K "_law_same" "_law_same" s_w_same fS fdS) (b_w_same : Binds K fdS ["_law_got", "_law_due"] [])
    (m_range : mg "range" = none) (m_tuple : mg "tuple" = none) : FnOk P w K mg base CX0 (k + 1) f fd ["_law_box_here"] (spRight K) := by
  refine F.ok sc_w_right (fun vs H Q E h => ?_) (fun cdv A outer s0 H vs Q E hr h => ?_)
  · obtain ⟨b, bx, N, rfl, _⟩ := h
    rfl
  · obtain ⟨b, bx, N, rfl, hb, hB, hN, q⟩ := h
    refine ⟨_, (pss_cons (ps_if (pt_not (pt_val (pe_call0 G_w_hand_right hr (by rfl) g_w_hand_right F_w_hand_right.kp b_w_hand_right .nil pass0))) (pss_one (ps_ret pe_bl)) pss_nil) 
    (pss_cons (ps_forX (ps_for PassesOwn.never rfl (pi_range1 (by rfl) m_range (pa_cons pe_int pa_nil)) (pg_name (i := 1) sc_w_right.nd rfl (Or.inl rfl)) 
      (pss_cons (ps_set (i := 2) sc_w_right.nd rfl (Or.inl rfl) (pe_call G_w_web hr (by rfl) g_w_web F_w_web.kp b_w_web .nil pass0 (pa_cons (pv 0) (pa_cons pe_int (pa_cons pe_int (pa_cons pe_int pa_nil)))))) 
      (pss_cons (ps_set (i := 3) sc_w_right.nd rfl (Or.inl rfl) (pe_callTy call_tuple_of (by rfl) m_tuple (by decide +kernel) (pa_cons (pe_lcX (pe_lc (own := [("_law_tag", 7)]) (g := gName 7) (tt := tYes) (te := tCall (spOf K) [] E0 (tCons (tVar 0) (tCons (tLst (tCons (tC (.int 0)) (tCons (tC (.int 1)) (tCons (tC (.int 7)) (tCons (tOp (rI CPow fun i j => .int (i ^ j.toNat)) (tC (.int 10)) (tC (.int 40))) tNil))))) tNil))) (by rfl) sc_w_right.nd (pi_seq (pe_ix ix_lt (pv 2) pe_int (fun _ _ => rfl))) (blkOk_by (own := [("_law_tag", 7)]) (N := sc_w_right_N) (sc := defScope s_w_right) (by decide +kernel)) (fun _ _ _ _ _ => pg_name (i := 7) sc_w_right.nd rfl (Or.inl rfl)) (fun _ _ _ _ _ => pts_nil) (fun _ _ _ _ _ => (pe_call G_w_of hr (by rfl) g_w_of F_w_of.kp b_w_of .nil pass0 (pa_cons (pv 0) (pa_cons (pe_lst (pa_cons pe_int (pa_cons pe_int (pa_cons pe_int (pa_cons (pe_op op_pow pe_int pe_int) pa_nil))))) pa_nil)))))) pa_nil))) 
      (pss_cons (ps_set (i := 4) sc_w_right.nd rfl (Or.inl rfl) (pe_call G_w_cuts hr (by rfl) g_w_cuts F_w_cuts.kp b_w_cuts .nil pass0 (pa_cons (pv 0) (pa_cons (pv 2) (pa_cons pe_int (pa_cons pe_int pa_nil)))))) 
      (pss_cons (ps_if (PW.pt (pw_or (pt_cmpR op_notBl (pe_call G_is_counts hr (by rfl) g_is_counts F_is_counts.kp b_is_counts .nil pass0 (pa_cons (pv 2) (pa_cons (pv 3) pa_nil))) pe_bl (nomark _)) (pw_or1 (pt_cmpR op_notBl (pe_call G_is_drops hr (by rfl) g_is_drops F_is_drops.kp b_is_drops .nil pass0 (pa_cons (pv 2) (pa_cons (pv 4) pa_nil))) pe_bl (nomark _))))) (pss_one (ps_ret pe_bl)) pss_nil) 
      (pss_cons (ps_set (i := 5) sc_w_right.nd rfl (Or.inl rfl) (pe_call G_w_spoilt hr (by rfl) g_w_spoilt F_w_spoilt.kp b_w_spoilt .nil pass0 (pa_cons (pv 0) (pa_cons (pv 3) (pa_cons (pe_lst (pa_cons (pe_un un_neg pe_int) (pa_cons pe_int (pa_cons pe_bl (pa_cons pe_non (pa_cons pe_str (pa_cons (pe_tup pa_nil) (pa_cons (pe_tup (pa_cons pe_int pa_nil)) (pa_cons (pe_op op_pow pe_int pe_int) pa_nil))))))))) pa_nil))))) 
      (pss_cons (ps_if (pt_not (pt_val (pe_call G_w_same hr (by rfl) g_w_same F_w_same.kp b_w_same .nil pass0 (pa_cons (pe_call G_is_counts hr (by rfl) g_is_counts F_is_counts.kp b_is_counts .nil pass0 (pa_cons (pe_call G_w_lists hr (by rfl) g_w_lists F_w_lists.kp b_w_lists .nil pass0 (pa_cons (pv 2) pa_nil)) (pa_cons (pv 5) pa_nil))) (pa_cons (pe_call G_w_are_counts hr (by rfl) g_w_are_counts F_w_are_counts.kp b_w_are_counts .nil pass0 (pa_cons (pv 2) (pa_cons (pv 5) pa_nil))) pa_nil))))) (pss_one (ps_ret pe_bl)) pss_nil) 
      (pss_cons (ps_set (i := 6) sc_w_right.nd rfl (Or.inl rfl) (pe_lst (pa_cons (pe_tup (pa_cons pe_str (pa_cons pe_int pa_nil))) (pa_cons (pe_tup (pa_cons pe_str (pa_cons pe_int pa_nil))) (pa_cons (pe_tup (pa_cons (pe_ix ix_lt (pe_ix ix_lt (pe_ix ix_lt (pv 2) pe_int (fun _ _ => rfl)) pe_int (fun _ _ => rfl)) pe_int (fun _ _ => rfl)) (pa_cons pe_int pa_nil))) (pa_cons (pe_tup (pa_cons (pe_ix ix_lt (pe_ix ix_lt (pe_ix ix_lt (pv 2) pe_int (fun _ _ => rfl)) pe_int (fun _ _ => rfl)) pe_int (fun _ _ => rfl)) (pa_cons pe_int pa_nil))) (pa_cons (pe_tup (pa_cons (pe_ix ix_lt (pe_ix ix_lt (pe_ix ix_lt (pv 2) pe_int (fun _ _ => rfl)) (pe_un un_neg pe_int) (fun _ _ => rfl)) pe_int (fun _ _ => rfl)) (pa_cons (pe_op op_pow pe_int pe_int) pa_nil))) (pa_cons (pe_tup (pa_cons (pe_ix ix_lt (pe_ix ix_lt (pv 2) pe_int (fun _ _ => rfl)) pe_int (fun _ _ => rfl)) (pa_cons pe_int pa_nil))) pa_nil)))))))) 
      (pss_cons (ps_set (i := 6) sc_w_right.nd rfl (Or.inl rfl) (pe_op op_cat (pv 6) (pe_lst (pa_cons (pe_lst (pa_cons (pe_ix ix_lt (pe_ix ix_lt (pe_ix ix_lt (pv 2) pe_int (fun _ _ => rfl)) pe_int (fun _ _ => rfl)) pe_int (fun _ _ => rfl)) (pa_cons pe_int pa_nil))) (pa_cons (pe_tup (pa_cons (pe_ix ix_lt (pe_ix ix_lt (pe_ix ix_lt (pv 2) pe_int (fun _ _ => rfl)) pe_int (fun _ _ => rfl)) pe_int (fun _ _ => rfl)) (pa_cons pe_bl pa_nil))) (pa_cons (pe_tup (pa_cons (pe_ix ix_lt (pe_ix ix_lt (pe_ix ix_lt (pv 2) pe_int (fun _ _ => rfl)) pe_int (fun _ _ => rfl)) pe_int (fun _ _ => rfl)) pa_nil)) (pa_cons pe_non (pa_cons pe_str (pa_cons (pe_tup (pa_cons (pe_ix ix_lt (pe_ix ix_lt (pe_ix ix_lt (pv 2) pe_int (fun _ _ => rfl)) pe_int (fun _ _ => rfl)) pe_int (fun _ _ => rfl)) (pa_cons pe_int (pa_cons pe_int pa_nil)))) pa_nil))))))))) 
      (pss_cons (ps_set (i := 6) sc_w_right.nd rfl (Or.inl rfl) (pe_op op_cat (pv 6) (pe_lst (pa_cons (pe_tup (pa_cons (pe_lst pa_nil) (pa_cons pe_int pa_nil))) (pa_cons (pe_tup (pa_cons pe_non (pa_cons pe_int pa_nil))) (pa_cons (pe_tup (pa_cons (pe_ix ix_lt (pe_ix ix_lt (pe_ix ix_lt (pv 2) pe_int (fun _ _ => rfl)) pe_int (fun _ _ => rfl)) pe_int (fun _ _ => rfl)) (pa_cons pe_non pa_nil))) (pa_cons (pe_tup (pa_cons (pe_ix ix_lt (pe_ix ix_lt (pe_ix ix_lt (pv 2) pe_int (fun _ _ => rfl)) pe_int (fun _ _ => rfl)) pe_int (fun _ _ => rfl)) (pa_cons pe_str pa_nil))) (pa_cons (pe_tup (pa_cons pe_int (pa_cons pe_int pa_nil))) (pa_cons (pe_tup (pa_cons (pe_tup pa_nil) (pa_cons pe_int pa_nil))) pa_nil))))))))) 
      (pss_cons (ps_expr (pe_bm PySem.F.plainAttrs_list PySem.F.slot_list_append PySem.F.type_list_append mt_append (pv 6) (pa_cons (pe_tup (pa_cons (pe_ix ix_lt (pe_ix ix_lt (pe_ix ix_lt (pv 2) pe_int (fun _ _ => rfl)) pe_int (fun _ _ => rfl)) pe_int (fun _ _ => rfl)) (pa_cons (pe_lst (pa_cons pe_int pa_nil)) pa_nil))) pa_nil))) 
      (pss_cons (ps_set (i := 5) sc_w_right.nd rfl (Or.inl rfl) (pe_call G_w_spoilt hr (by rfl) g_w_spoilt F_w_spoilt.kp b_w_spoilt .nil pass0 (pa_cons (pv 0) (pa_cons (pv 4) (pa_cons (pv 6) pa_nil))))) 
      (pss_one (ps_if (pt_not (pt_val (pe_call G_w_same hr (by rfl) g_w_same F_w_same.kp b_w_same .nil pass0 (pa_cons (pe_call G_is_drops hr (by rfl) g_is_drops F_is_drops.kp b_is_drops .nil pass0 (pa_cons (pe_call G_w_lists hr (by rfl) g_w_lists F_w_lists.kp b_w_lists .nil pass0 (pa_cons (pv 2) pa_nil)) (pa_cons (pv 5) pa_nil))) (pa_cons (pe_call G_w_are_cuts hr (by rfl) g_w_are_cuts F_w_are_cuts.kp b_w_are_cuts .nil pass0 (pa_cons (pv 2) (pa_cons (pv 5) pa_nil))) pa_nil))))) (pss_one (ps_ret pe_bl)) pss_nil))))))))))))))) 
    (pss_one (ps_ret pe_bl)))), ?_⟩
    walk_at "ev"
    refine fun H1 s1 => ?_
    refine ⟨_, rfl, iteF ?_⟩
    try dsimp only [tNext]
    refine for_of ?_
    walk_at "ev"
    refine ⟨by decide, by decide, ?_⟩
    refine forR_it (walk_range (lo := 0) (n := 10)) (fun i σ Hc => ∃ x1 x2 x3 x4 x5 x6 bx', σ = [some (.ref b), x1, x2, x3, x4, x5, x6, none] ∧ Same (cutS [b] H) Hc ∧ Hc b = some (.lst bx') ∧ BoxL bx' (N + 1000 * i)) ⟨_, _, _, _, _, _, bx, rfl, fun a o ha => s1 a o (cutS_le _ _ ha), s1 _ _ hb, hB⟩ (fun _ _ _ _ _ => trivial) (fun i v σ Hc Hc' hi hh y => ?_) (fun σ Hc hh => ?_)
    · obtain ⟨x1, x2, x3, x4, x5, x6, bx', rfl, eS, hbc, hBc⟩ := hh
      obtain ⟨rfl, _⟩ := y
      walk_at "ev"
      refine ⟨b, 5, 6, 4, bx', N + 1000 * i, rfl, hbc, hBc, by omega, by decide, by decide, by decide, by decide, by decide, by decide, fun H2 v ws qs bx2 hg hD hW hb2 hB2 hS2 => ?_⟩
      clear hW
      have hwl : ws.length ≤ 60 := by have := hg.wl; omega
      have hwl5 : ws.length ≤ 5 := hg.wl
      have hql : qs.length ≤ 60 := by have := hg.ql; omega
      obtain ⟨a0, a1, a2, xq, rfl, N0⟩ := netAt hD
      have i0 : atI [V.ref a1, V.ref a2] 0 = some (.ref a1) := atI_nat (j := 0) rfl
      have eS2 : Same (cutS [b] H) (cutS [b] H2) := fun a o ha => hS2 a o (by
        obtain ⟨g1, _⟩ := cutS_some ha
        rw [cutS_out g1]
        exact eS a o ha)
      clear eS hS2 hbc hBc
      generalize hM : N + 1000 * i = M at hB2
      have hM2 : M < 2 ^ 50 := by omega
      walk_at "ev"
      refine lc_of ?_
      refine iSeq_at (fun R' r => ⟨_, rfl, rIxF_at (cutS_le.sqF N0.h0) i0 r⟩) (cutS_le.sqF N0.h1) fun J wk D hDn => ?_
      have nDb : D ≠ b := fun z => by
        rw [z, hb2] at hDn
        cases hDn
      refine lc_it wk (fun j H' => ∃ bx' is, H' b = some (.lst bx') ∧ BoxL bx' (M + 200 + j) ∧ H' D = some (.lst (is.map V.int)) ∧ is.length = j ∧ (∀ z ∈ is, 0 ≤ z) ∧ Same (cutS [b] H2) (cutS [D, b] H')) ⟨bx2, [], (Same.upd hDn) _ _ hb2, hB2, upd_same, rfl, fun z hz => absurd hz List.not_mem_nil, cutS_into (.upd hDn) hDn⟩ (fun j H' _ p => ?_) (fun j x H' H'' hj p y => ?_) (fun H' p => ?_)
      · obtain ⟨_, _, _, _, _, _, _, p7⟩ := p
        exact cutS_le.sqF (p7.sqF N0.h1)
      · obtain ⟨bx3, is, p1, p2, p3, p4, p5, p7⟩ := p
        obtain ⟨rfl, _⟩ := y
        rw [List.length_map] at hj
        refine ⟨rfl, ?_⟩
        dsimp only [tYes]
        rw [if_pos rfl]
        have tb : Trk [b] H'' := Trk.cons Trk.nil p1
        refine ⟨_, rfl, ?_⟩
        refine nw_lst (K := K) (S := [b]) (H0 := H'') (ds := [0, 1, 7, 10 ^ (Int.toNat 40)].map PyData.int) (by walk_at "c") (by decide) H'' _ (fun _ _ e => e) tb fun H3 p vs s3 f3 h3 d3 => ?_
        have hvs := dpa_ints_of d3
        have npb : p ≠ b := fun z => by
          rw [z, p1] at f3
          cases f3
        try dsimp only [tNil]
        refine ⟨b, p, bx3, M + 200 + j, false, vs, rfl, s3 _ _ p1, p2, by omega, sql_of (cutS_at h3 (not1 npb)), by rw [hvs]; decide, by rw [hvs]; decide, fun u bx4 hu hB4 => ?_⟩
        rw [hvs] at hu
        obtain ⟨z, hz, rfl⟩ := List.mem_map.mp hu
        have hz0 : 0 ≤ z := by
          have hz' : z = 0 ∨ z = 1 ∨ z = 7 ∨ z = 10 ^ (Int.toNat 40) := by simpa using hz
          rcases hz' with e | e | e | e <;> rw [e] <;> decide
        have hD3 : (upd H3 b (.lst bx4)) D = some (.lst (is.map V.int)) := by
          rw [upd_ne nDb]
          exact s3 _ _ p3
        refine ⟨_, hD3, by rw [List.length_map]; exact sz_lt (by omega), bx4, is ++ [z], ?_, hB4, ?_, ?_, fun y hy => ?_, ?_⟩
        · rw [upd_ne nDb.symm]
          exact upd_same
        · rw [upd_same, List.map_append]
          rfl
        · rw [List.length_append, p4]
          rfl
        · rcases List.mem_append.mp hy with hy | hy
          · exact p5 y hy
          · rw [List.mem_singleton.mp hy]
            exact hz0
        · rw [cutS_upd List.mem_cons_self, cutS_upd (List.mem_cons_of_mem _ List.mem_cons_self)]
          exact p7.trans (cutS_mono s3)
      · obtain ⟨bx3, is, p1, p2, p3, p4, p5, p7⟩ := p
        rw [List.length_map] at p4 p2
        refine ⟨D, _, rfl, .inl ⟨sql_of p3, fun l hl => ?_⟩⟩
        have tb : Trk [b] H' := Trk.cons Trk.nil p1
        have sl := Same.upd (o := .tup (is.map V.int)) hl
        have hL : SqT K (cutS [b] (upd H' l (.tup (is.map V.int)))) l (is.map V.int) := sqt_of (cutS_new tb hl)
        have e3 : Same (cutS [b] H2) (cutS [b] (upd H' l (.tup (is.map V.int)))) := (p7.trans cutS_tail).trans (cutS_mono sl)
        have hb3 := sl _ _ p1
        show gName 3 (.ref l) _ (upd H' l (.tup (is.map V.int))) _
        generalize upd H' l (.tup (is.map V.int)) = H3 at hL e3 hb3 ⊢
        clear sl tb p1 p3 p7
        have dL : Dp K (cutS [b] H3) (.ref l) (.tuple (is.map PyData.int)) := .tup hL dpa_ints
        have gi : ∀ d ∈ is.map PyData.int, goodE d := fun d hd => by
          obtain ⟨z, _, rfl⟩ := List.mem_map.mp hd
          exact good_int
        obtain ⟨okL, shL⟩ := good_seq (f := true) gi (by rw [List.length_map]; omega)
        have N3 := N0.same e3
        have hD3 := e3.dp hD
        replace eS2 := eS2.trans e3
        clear e3 N0 hD
        walk_at "ev"
        refine ⟨b, .ref a0, 5, 9, bx3, M + 200 + ws.length, true, ws, qs, rfl, hb3, p2, by omega, hD3, hg.q1, hql, hg.nm_ok, by decide, by decide, by decide, by decide, fun H4 c xs ps bx4 hc hdp hall hasc hpl hok hb4 hB4 hS4 => ?_⟩
        replace eS2 := eS2.trans hS4
        have N4 := N3.same hS4
        have hD4 := hS4.dp hD3
        replace dL := hS4.dp dL
        replace hL := hS4.sqT hL
        clear N3 hD3 hS4 hb3
        have hnd : (qs.map QD.nm).Nodup := by
          obtain ⟨l0, n1, _, _, k0, e0⟩ := hg.qn
          rw [e0]
          exact n1.sublist (List.take_sublist _ _)
        have gp : ∀ d ∈ ps.map pD, goodE d := fun d hd => by
          obtain ⟨q0, hq0, rfl⟩ := List.mem_map.mp hd
          exact pD_good (hok q0 hq0)
        obtain ⟨okC, shC⟩ := good_seq (f := true) gp (by rw [List.length_map]; omega)
        have dC : Dp K (cutS [b] H4) (.ref c) (.tuple (ps.map pD)) := .tup hc hdp
        have cc : cntD ws.length (.tuple (is.map PyData.int)) = true := cnt_some p4 p5
        have cd : dropsD (qs.map QD.nm) (.tuple (ps.map pD)) = true := by
          show ((ps.map pD).all (pairB (qs.map QD.nm)) && ascD (ps.map pD)) = true
          rw [hall, hasc]
          rfl
        walk_at "ev"
        refine ⟨.ref a0, true, ws, qs, .ref l, .tuple (is.map PyData.int), rfl, cutS_le.dp hD4, cutS_le.dp dL, okL, shL, fun H5 s5 => ?_⟩
        rw [cc]
        refine ⟨_, _, rfl, rfl, ?_⟩
        refine ⟨_, rfl, ?_⟩
        rw [decide_eq_true rfl]
        refine iteF ?_
        walk_at "ev"
        refine ⟨.ref a0, true, ws, qs, .ref c, .tuple (ps.map pD), rfl, s5.dp (cutS_le.dp hD4), hnd, hql, s5.dp (cutS_le.dp dC), okC, shC, fun H6 s6 => ?_⟩
        rw [cd]
        refine ⟨_, _, rfl, rfl, ?_⟩
        refine ⟨_, rfl, ?_⟩
        rw [decide_eq_true rfl]
        refine iteF ?_
        have s56 := s5.trans s6
        replace eS2 := eS2.trans (cutS_mono s56)
        have N6 := N4.same (cutS_mono s56)
        have hD6 := (cutS_mono s56).dp hD4
        replace hL := (cutS_mono s56).sqT hL
        replace hc := (cutS_mono s56).sqT hc
        replace hdp := (cutS_mono s56).dpa hdp
        have hb6 := s56 _ _ hb4
        clear s5 s6 s56 N4 hD4 dC dL hb4 cc cd okC shC okL shL
        have t6 : Trk [b] H6 := Trk.cons Trk.nil hb6
        try dsimp only [tNext, gName, tSeq, tAsg]
        refine ⟨_, rfl, ?_⟩
        refine ⟨_, rfl, ?_⟩
        refine nw_lst (K := K) (S := [b]) (H0 := H6) (ds := pool1) (by walk_at "c") (by decide) H6 _ (fun _ _ e => e) t6 fun H7 p vs s7 f7 h7 d7 => ?_
        have npb : p ≠ b := fun z => by
          rw [z, hb6] at f7
          cases f7
        try dsimp only [tNil]
        have d7' : DpAll K (cutS [b] H7) vs pool1 := cutS_tail.dpa d7
        refine ⟨b, l, p, bx4, M + 200 + ws.length + 200, is.map V.int, vs, rfl, s7 _ _ hb6, hB4, by omega, (cutS_mono s7).sqT hL, fun x hx => ?_, by rw [List.length_map]; omega, sql_of (cutS_at h7 (not1 npb)), goodV_of d7' pool1_good, by rw [dpa_len d7']; decide, by rw [dpa_len d7']; decide, fun H8 v8 d8 bx8 hd8 ok8 sh8 hb8 hB8 hS8 => ?_⟩
        · obtain ⟨z, _, rfl⟩ := List.mem_map.mp hx
          exact ⟨.int z, .int z, good_int⟩
        · have e78 : Same (cutS [b] H6) (cutS [b] H8) := Same.trans (cutS_mono s7) hS8
          replace eS2 := eS2.trans e78
          have N8 := N6.same e78
          have hD8 := e78.dp hD6
          replace hc := e78.sqT hc
          replace hdp := e78.dpa hdp
          clear hL N6 hD6 s7 f7 h7 d7 d7' hS8 e78 t6 hb6
          have t8 : Trk [b] H8 := Trk.cons Trk.nil hb8
          walk_at "ev"
          refine ⟨.ref a0, _, [b], rfl, t8, hD8, net_okD hwl hql, fun H9 y s9 hy => ?_⟩
          rw [net_lists] at hy
          walk_at "ev"
          refine ⟨y, false, ws, qs, v8, d8, rfl, cutS_le.dp hy, s9.dp (cutS_le.dp hd8), ok8, sh8, fun HA sA => ?_⟩
          walk_at "ev"
          have s9A := s9.trans sA
          refine ⟨.ref a0, true, ws, qs, v8, d8, rfl, s9A.dp (cutS_le.dp hD8), s9A.dp (cutS_le.dp hd8), ok8, sh8, fun HB sB => ?_⟩
          walk_at "ev"
          refine ⟨_, _, .bool (cntD ws.length d8), rfl, .bl _, .bl _, trivial, fun HC sC => ?_⟩
          refine ⟨_, rfl, ?_⟩
          refine iteF ?_
          have s8C := (s9A.trans sB).trans sC
          replace eS2 := eS2.trans (cutS_mono s8C)
          have NC := N8.same (cutS_mono s8C)
          have hDC := (cutS_mono s8C).dp hD8
          replace hc := (cutS_mono s8C).sqT hc
          replace hdp := (cutS_mono s8C).dpa hdp
          have hbC := s8C _ _ hb8
          clear N8 hD8 s9 sA sB sC s9A s8C hy hd8 ok8 sh8 hb8 t8
          have tbC : Trk [b] HC := Trk.cons Trk.nil hbC
          have hx1 : 1 ≤ xq.length := by rw [NC.ll]; exact hg.q1
          obtain ⟨q0, aq0, hq0, hj0, hr0⟩ : ∃ (q0 : QD) (aq : Addr), q0 ∈ qs ∧ atI xq 0 = some (.ref aq) ∧ SqF true K (cutS [b] HC) aq [.str q0.nm, .str q0.st, .str q0.en, .int q0.room, .int q0.gap] := by
            obtain ⟨qd, aq, g1, g2, g3⟩ := NC.hq 0 xq[0] (List.getElem?_eq_getElem (by omega))
            exact ⟨qd, aq, List.mem_of_getElem? g1, by rw [← g2]; exact atI_nat (j := 0) (List.getElem?_eq_getElem (by omega)), g3⟩
          obtain ⟨qL, aqL, hqL, hjL, hrL⟩ : ∃ (q0 : QD) (aq : Addr), q0 ∈ qs ∧ atI xq (-1) = some (.ref aq) ∧ SqF true K (cutS [b] HC) aq [.str q0.nm, .str q0.st, .str q0.en, .int q0.room, .int q0.gap] := by
            obtain ⟨qd, aq, g1, g2, g3⟩ := NC.hq (xq.length - 1) xq[xq.length - 1] (List.getElem?_eq_getElem (by omega))
            refine ⟨qd, aq, List.mem_of_getElem? g1, ?_, g3⟩
            have hne : xq ≠ [] := fun z => by rw [z] at hx1; exact absurd hx1 (by decide)
            have e1 : atI xq (-1) = some (xq.getLast hne) := by
              have := atI_last xq.dropLast (xq.getLast hne)
              rw [List.dropLast_concat_getLast] at this
              exact this
            rw [e1, List.getLast_eq_getElem, g2]
          obtain ⟨w0, hw0, hwm⟩ : ∃ w0, ws[0]? = some w0 ∧ w0 ∈ ws := by
            have := hg.w2
            exact ⟨ws[0], List.getElem?_eq_getElem (by omega), List.getElem_mem _⟩
          have plg := pl_good (n0 := q0.nm) (nL := qL.nm) (w0 := w0) (hg.nm_ok q0 hq0) (hg.nm_ok qL hqL) (poolW_ok w0 (hg.wp w0 hwm))
          try dsimp only [tNext, gName, tSeq, tAsg]
          have N1 := NC.same cutS_le
          have r1 := (cutS_le (S := [b]) (H := HC)).sqF hr0
          have r2 := (cutS_le (S := [b]) (H := HC)).sqF hrL
          refine nw_lst (K := K) (S := [b]) (H0 := HC) (ds := plA q0.nm qL.nm w0) (by unfold plA; walk_at "c2") (by show 6 ≤ 1000; decide) HC _ (fun _ _ e => e) tbC fun HD pl1 vl1 sD fD hD1 dD1 => ?_
          try dsimp only [gName, tSeq, tAsg]
          replace N1 := N1.same sD
          replace r1 := sD.sqF r1
          replace r2 := sD.sqF r2
          replace tbC := tbC.mono sD
          refine nw_cat (K := K) (S := [b]) (H0 := HD) (ds := plA q0.nm qL.nm w0) (es := plB q0.nm) (rd_var rfl hD1 (cutS_tail.dpa dD1)) (rd_nw (nw_lst (by unfold plB; walk_at "c2") (by show 6 ≤ 1000; decide))) (by show 6 + 6 ≤ 1000; decide) HD _ (fun _ _ e => e) tbC fun HE pl2 vl2 sE fE hE1 dE1 => ?_
          try dsimp only [gName, tSeq, tAsg]
          replace N1 := N1.same sE
          replace r1 := sE.sqF r1
          replace r2 := sE.sqF r2
          replace tbC := tbC.mono sE
          refine nw_cat (K := K) (S := [b]) (H0 := HE) (ds := plA q0.nm qL.nm w0 ++ plB q0.nm) (es := plC q0.nm) (rd_var rfl hE1 (cutS_tail.dpa dE1)) (rd_nw (nw_lst (by unfold plC; walk_at "c2") (by show 6 ≤ 1000; decide))) (by show 12 + 6 ≤ 1000; decide) HE _ (fun _ _ e => e) tbC fun HF pl3 vl3 sF fF hF1 dF1 => ?_
          try dsimp only [gName, tSeq, tAsg]
          have eCE := sD.trans sE
          have eF : Same (cutS [b] HC) (cutS [pl3, b] HF) := Same.trans (cutS_mono eCE) (cutS_into sF fF)
          replace N1 := N1.same sF
          replace r1 := sF.sqF r1
          have hbF := (eCE.trans sF) _ _ hbC
          have t3 : Trk [pl3, b] HF := Trk.cons (Trk.cons Trk.nil hbF) hF1
          replace eS2 := eS2.trans eF
          have NF := NC.same eF
          have hDF := eF.dp hDC
          replace hc := eF.sqT hc
          replace hdp := eF.dpa hdp
          have npb3 : b ≠ pl3 := ne_of_none (eCE _ _ hbC) fF
          clear hD1 dD1 hE1 dE1 fD fE fF sD sE sF eF NC hDC hr0 hrL r2 tbC eCE hbC
          refine ⟨_, rfl, .inl ⟨rfl, _, sql_of hF1⟩, ?_⟩
          refine (ic_tup (K := K) (S := [pl3, b]) (H0 := HF) (ds := [.str q0.nm, .list [.int 1]]) (by walk_at "c2") (Nat.le_of_ble_eq_true rfl)) HF _ (fun _ _ e => e) t3 fun HG tv sG dG => ?_
          try dsimp only [tNil]
          have hF2 := sG _ _ hF1
          have vl : vl3.length = 18 := by
            rw [dpa_len dF1]
            rfl
          refine ⟨pl3, _, _, rfl, rfl, hF2, sz_lt (by omega), ?_⟩
          have eH : cutS [pl3, b] (upd HG pl3 (.lst (vl3 ++ [tv]))) = cutS [pl3, b] HG := cutS_upd List.mem_cons_self
          have hH : (upd HG pl3 (.lst (vl3 ++ [tv]))) pl3 = some (.lst (vl3 ++ [tv])) := upd_same
          have hbH : (upd HG pl3 (.lst (vl3 ++ [tv]))) b = some (.lst bx8) := by
            rw [upd_ne npb3]
            exact sG _ _ hbF
          try dsimp only
          generalize upd HG pl3 (.lst (vl3 ++ [tv])) = HH at eH hH hbH ⊢
          have eFH : Same (cutS [pl3, b] HF) (cutS [pl3, b] HH) := by
            rw [eH]
            exact cutS_mono sG
          have dAll : DpAll K (cutS [b] HH) (vl3 ++ [tv]) (((plA q0.nm qL.nm w0 ++ plB q0.nm) ++ plC q0.nm) ++ [plD q0.nm]) := cutS_tail.dpa (dpa_app (eFH.dpa dF1) (dpa_one (by rw [eH]; exact dG)))
          have eFb : Same (cutS [pl3, b] HF) (cutS [b] HH) := eFH.trans cutS_tail
          replace eS2 := eS2.trans eFb
          have NH := NF.same eFb
          have hDH := eFb.dp hDF
          replace hc := eFb.sqT hc
          replace hdp := eFb.dpa hdp
          clear NF hDF N1 r1 hF1 hF2 dF1 dG sG eFH eH eFb t3 hbF
          dsimp only [tSeq, tAsg]
          refine ⟨_, rfl, ?_⟩
          refine ⟨_, rfl, ?_⟩
          refine ⟨_, rfl, ?_⟩
          try dsimp only [tNil]
          have xl : xs.length ≤ 50 := by
            rw [dpa_len hdp, List.length_map]
            exact hpl
          refine ⟨b, c, pl3, bx8, M + 200 + ws.length + 200 + 10, xs, vl3 ++ [tv], rfl, hbH, hB8, by omega, hc, goodV_of hdp gp, by omega, sql_of (cutS_at hH (not1 npb3.symm)), goodV_of dAll plg, by rw [List.length_append, vl]; show 1 ≤ 18 + 1; decide, by rw [List.length_append, vl]; show 18 + 1 ≤ 900; decide, fun HI v9 d9 bx9 hd9 ok9 sh9 hb9 hB9 hS9 => ?_⟩
          replace eS2 := eS2.trans hS9
          have NI := NH.same hS9
          have hDI := hS9.dp hDH
          clear NH hDH hc hdp dAll hH hbH hS9
          have t9 : Trk [b] HI := Trk.cons Trk.nil hb9
          walk_at "ev"
          refine ⟨.ref a0, _, [b], rfl, t9, hDI, net_okD hwl hql, fun HJ y2 sJ hy2 => ?_⟩
          rw [net_lists] at hy2
          walk_at "ev"
          refine ⟨y2, false, ws, qs, v9, d9, rfl, cutS_le.dp hy2, hnd, hql, sJ.dp (cutS_le.dp hd9), ok9, sh9, fun HK sK => ?_⟩
          walk_at "ev"
          have sJK := sJ.trans sK
          refine ⟨.ref a0, true, ws, qs, v9, d9, rfl, sJK.dp (cutS_le.dp hDI), hnd, hql, sJK.dp (cutS_le.dp hd9), ok9, sh9, fun HL sL => ?_⟩
          walk_at "ev"
          refine ⟨_, _, .bool (dropsD (qs.map QD.nm) d9), rfl, .bl _, .bl _, trivial, fun HM sM => ?_⟩
          refine ⟨_, rfl, ?_⟩
          refine iteF ?_
          have sAll := (sJK.trans sL).trans sM
          exact ⟨_, _, _, _, _, _, bx9, rfl, fun a o ha => sAll _ _ (cutS_le _ _ (eS2 a o ha)), sAll _ _ hb9, hB9.mono (by omega)⟩
    · obtain ⟨x1, x2, x3, x4, x5, x6, bx', rfl, eS, hbc, hBc⟩ := hh
      walk_at "ev"
      exact q _ eS
end
end Jl

set_option Elab.async false
set_option linter.all false
set_option maxRecDepth 100000
set_option maxHeartbeats 4000000
set_option pp.maxSteps 900
namespace Jl
open PySem PySem.Spec PyProof.Rows L2
open Evl (sz_of sz_lt)
local macro_rules | `(tactic| walk_at "at") => `(tactic| first | exact box0 | exact box1 | exact box2)
local macro_rules | `(tactic| walk_at "sq") => `(tactic| first | (show SqL _ _ _ _; assumption) | (show SqT _ _ _ _; assumption) | (show _ = some _; assumption))
local macro_rules | `(tactic| walk_at "side") => `(tactic| first
  | (show (0 : Int) < _; decide)
  | (show (0 : Int) < _; omega)
  | exact ⟨by decide, by decide, by decide⟩
  | exact sz_of (Nat.le_of_ble_eq_true rfl)
  | exact rfl
  | exact Or.inl (by decide)
  | exact Or.inr (by decide)
  | exact Or.inr ⟨by omega, by omega⟩
  | exact Or.inl ⟨by omega, by omega⟩
  | exact ⟨by decide, by decide +kernel⟩)
local macro_rules | `(tactic| walk_at "ev1") => `(tactic| first
  | refine ⟨_, rfl, ?_⟩
  | refine ⟨_, _, rfl, rfl, ?_⟩
  | refine ⟨_, _, _, _, rfl, rfl, (by walk_at "sq"), (by walk_at "at"), ?_⟩
  | refine ⟨_, _, rfl, (by walk_at "sq"), ?_⟩
  | refine ⟨_, _, rfl, Or.inl (by walk_at "sq"), ?_⟩
  | refine ⟨_, _, rfl, Or.inr (by walk_at "sq"), ?_⟩
  | refine Or.inl ⟨_, rfl, ?_⟩
  | refine Or.inr ⟨_, rfl, ?_⟩
  | refine ⟨(by walk_at "side"), ?_⟩
  | refine ⟨.inl ⟨rfl, _, (by walk_at "sq")⟩, ?_⟩
  | refine ⟨_, _, rfl, ?_⟩)
local macro_rules | `(tactic| walk_at "nrm") => `(tactic| dsimp only [tNil, tCons, tC, tCB])
local macro_rules | `(tactic| walk_at "ev") => `(tactic| repeat (walk_at "ev1"))

abbrev sc_law_N : List Str := ["_law_script", "_law_cells_here", "_law_k"]
abbrev s_law : Stmt := topS 23
theorem sc_law : FnScope ["_law_script", "_law_cells_here", "_law_k"] ["_law_script"] (defScope s_law) := ⟨rfl, rfl, rfl, by decide +kernel, rfl, by decide +kernel, by decide +kernel⟩
section
variable {P : Program} {w : World} {K : PySem.W.Frag} {mg : Str → Option Value} {base : Heap}
def spLaw (K : PySem.W.Frag) : Sp := fun vs H Q _ => ∃ (a : Addr) (ns : List Int), vs = [.ref a] ∧ SqL K H a (ns.map V.int) ∧ ns.length ≤ 63 ∧ ∀ H', Q (.bl true) H'
theorem ok_law {f fC fB fR : Addr} {fd fdC fdB fdR : FuncData} {k : Nat} (F : Fun K "law" "law" s_law f fd)
    (G_w_cells : FnOk P w K mg base CX0 k fC fdC ["_law_script", "_law_most"] (spCells K)) (g_w_cells : mg "_law_cells" = some (.ref fC)) (F_w_cells : Fun K "_law_cells" "_law_cells" s_w_cells fC fdC) (b_w_cells : Binds K fdC ["_law_script", "_law_most"] [])
    (G_w_box : FnOk P w K mg base CX0 k fB fdB ["_law_script", "_law_k"] (spBox K)) (g_w_box : mg "_law_box" = some (.ref fB)) (F_w_box : Fun K "_law_box" "_law_box" s_w_box fB fdB) (b_w_box : Binds K fdB ["_law_script", "_law_k"] [])
    (G_w_right : FnOk P w K mg base CX0 k fR fdR ["_law_box_here"] (spRight K)) (g_w_right : mg "_law_right" = some (.ref fR)) (F_w_right : Fun K "_law_right" "_law_right" s_w_right fR fdR) (b_w_right : Binds K fdR ["_law_box_here"] [])
    (m_all : mg "all" = none) (m_range : mg "range" = none) (m_len : mg "len" = none) : FnOk P w K mg base CX0 (k + 1) f fd ["_law_script"] (spLaw K) := by
  refine F.ok sc_law (fun vs H Q E h => ?_) (fun cdv A outer s0 H vs Q E hr h => ?_)
  · obtain ⟨a, ns, rfl, _⟩ := h
    rfl
  · obtain ⟨a, ns, rfl, hS, hn, q⟩ := h
    refine ⟨_, (pss_cons (ps_set (i := 1) sc_law.nd rfl (Or.inr rfl) (pe_call G_w_cells hr (by rfl) g_w_cells F_w_cells.kp b_w_cells .nil pass0 (pa_cons (pv 0) (pa_cons pe_int pa_nil)))) 
    (pss_one (ps_ret (pe_callB (cr_all rfl) (by rfl) m_all (by decide +kernel) (pa_cons (pe_lcX (pe_lc (own := [("_law_k", 2)]) (g := gName 2) (tt := tYes) (by rfl) sc_law.nd (pi_range1 (by rfl) m_range (pa_cons (pe_callB call_len_seq (by rfl) m_len PySem.boot_len (pa_cons (pv 1) pa_nil)) pa_nil)) (blkOk_by (own := [("_law_k", 2)]) (N := sc_law_N) (sc := defScope s_law) (by decide +kernel)) (fun _ _ _ _ _ => pg_name (i := 2) sc_law.nd rfl (Or.inl rfl)) (fun _ _ _ _ _ => pts_nil) (fun _ _ _ _ _ => (pe_call G_w_right hr (by rfl) g_w_right F_w_right.kp b_w_right .nil pass0 (pa_cons (pe_call G_w_box hr (by rfl) g_w_box F_w_box.kp b_w_box .nil pass0 (pa_cons (pv 1) (pa_cons (pv 2) pa_nil))) pa_nil))))) pa_nil))))), ?_⟩
    walk_at "ev"
    refine ⟨a, ns, 3, rfl, hS, hn, by decide, by decide, fun H1 p cs s1 hp hp1 hl => ?_⟩
    have hq1 : SqL K H1 p (cs.map V.int) := sql_of hp1
    walk_at "ev"
    refine lc_of ?_
    walk_at "ev"
    rw [List.length_map]
    refine ⟨by omega, by omega, ?_⟩
    rw [Int.toNat_natCast]
    intro D hD
    refine lc_it (walk_range (lo := 0) (n := cs.length)) (fun i H' => H' p = some (.lst (cs.map V.int)) ∧ H' D = some (.lst ((List.replicate i true).map V.bl))) ⟨(Same.upd hD) _ _ hp1, upd_same⟩ (fun _ _ _ _ => trivial) (fun i x H' H'' hi hh y => ?_) (fun H' hh => ?_)
    · obtain ⟨h1, h2⟩ := hh
      obtain ⟨rfl, hv⟩ := y
      have hv : x = .int (0 + (i : Int)) := hv
      rw [Int.zero_add] at hv
      subst hv
      refine ⟨rfl, ?_⟩
      dsimp only [tYes]
      rw [if_pos rfl]
      walk_at "ev"
      refine ⟨p, cs, i, rfl, sql_of h1, by omega, by omega, fun b c0 c1 hb k0 k1 k2 => ?_⟩
      walk_at "ev"
      refine ⟨b, _, 0, rfl, upd_same, ⟨c0, c1, 0, rfl, k0, k1, k2, by decide, by decide⟩, by decide, fun H3 s3 => ?_⟩
      have npb : p ≠ b := ne_of_none h1 hb
      have nDb : D ≠ b := ne_of_none h2 hb
      have g1 : H3 p = some (.lst (cs.map V.int)) := s3 _ _ (by rw [cutS_out (not1 npb), upd_ne npb]; exact h1)
      have g2 : H3 D = some (.lst ((List.replicate i true).map V.bl)) := s3 _ _ (by rw [cutS_out (not1 nDb), upd_ne nDb]; exact h2)
      have nDp : p ≠ D := ne_of_none hp1 hD
      refine ⟨_, g2, by rw [List.length_map, List.length_replicate]; exact sz_lt (by omega), ?_, ?_⟩
      · rw [upd_ne nDp]
        exact g1
      · rw [upd_same, List.replicate_succ', List.map_append]
        rfl
    · obtain ⟨h1, h2⟩ := hh
      refine ⟨D, _, rfl, sql_of h2, ?_⟩
      have e : (List.replicate cs.length true).all id = true := by
        rw [List.all_eq_true]
        exact fun b hb => List.eq_of_mem_replicate hb
      rw [e]
      exact q _
end
end Jl

set_option Elab.async false
set_option linter.all false
set_option maxRecDepth 100000
set_option maxHeartbeats 4000000
set_option pp.maxSteps 40
namespace Jl
open PySem PySem.Spec PyProof.Rows L2
open Evl (sz_of sz_lt)
local macro_rules | `(tactic| walk_at "at") => `(tactic| first | exact box0 | exact box1 | exact box2)
local macro_rules | `(tactic| walk_at "sq") => `(tactic| first | (show SqL _ _ _ _; assumption) | (show SqT _ _ _ _; assumption) | (show _ = some _; assumption))
local macro_rules | `(tactic| walk_at "side") => `(tactic| first
  | (show (0 : Int) < _; decide)
  | (show (0 : Int) < _; omega)
  | exact ⟨by decide, by decide, by decide⟩
  | exact sz_of (Nat.le_of_ble_eq_true rfl)
  | exact rfl
  | exact Or.inl (by decide)
  | exact Or.inr (by decide)
  | exact Or.inr ⟨by omega, by omega⟩
  | exact Or.inl ⟨by omega, by omega⟩
  | exact ⟨by decide, by decide +kernel⟩)
local macro_rules | `(tactic| walk_at "ev1") => `(tactic| first
  | refine ⟨_, rfl, ?_⟩
  | refine ⟨_, _, rfl, rfl, ?_⟩
  | refine ⟨_, _, _, _, rfl, rfl, (by walk_at "sq"), (by walk_at "at"), ?_⟩
  | refine ⟨_, _, rfl, (by walk_at "sq"), ?_⟩
  | refine ⟨_, _, rfl, Or.inl (by walk_at "sq"), ?_⟩
  | refine ⟨_, _, rfl, Or.inr (by walk_at "sq"), ?_⟩
  | refine Or.inl ⟨_, rfl, ?_⟩
  | refine Or.inr ⟨_, rfl, ?_⟩
  | refine ⟨(by walk_at "side"), ?_⟩
  | refine ⟨.inl ⟨rfl, _, (by walk_at "sq")⟩, ?_⟩
  | refine ⟨_, _, rfl, ?_⟩)
local macro_rules | `(tactic| walk_at "nrm") => `(tactic| dsimp only [tNil, tCons, tC, tCB])
local macro_rules | `(tactic| walk_at "ev") => `(tactic| repeat (walk_at "ev1"))

theorem all_mk {l : PySem.W.OpenLaw} {w : World} {K : PySem.W.Frag} {h : Heap} {mg : Str → Option Value} {fa f1 f2 f3 f4 f5 f6 f7 f8 f9 f10 f11 f12 f13 f14 f15 f16 f17 f18 f19 f20 f21 : Addr} (X : K.In h) (G : h.Ns mainGlobals mg) (hfa : mg "law" = some (.ref fa))
    {od1 an1 od2 an2 od3 an3 od4 an4 od5 an5 od6 an6 od7 an7 od8 an8 od9 an9 od10 an10 od11 an11 od12 an12 od13 an13 od14 an14 od15 an15 od16 an16 od17 an17 od18 an18 od19 an19 od20 an20 od21 an21 : Option Addr} {sl1 sl2 sl3 sl4 sl5 sl6 sl7 sl8 sl9 sl10 sl11 sl12 sl13 sl14 sl15 sl16 sl17 sl18 sl19 sl20 sl21 : Array (Option Value)} {oc1 kV1 dc1 pm1 cd1 ct1 oc2 kV2 dc2 pm2 cd2 ct2 oc3 kV3 dc3 pm3 cd3 ct3 oc4 kV4 dc4 pm4 cd4 ct4 oc5 kV5 dc5 pm5 cd5 ct5 oc6 kV6 dc6 pm6 cd6 ct6 oc7 kV7 dc7 pm7 cd7 ct7 oc8 kV8 dc8 pm8 cd8 ct8 oc9 kV9 dc9 pm9 cd9 ct9 oc10 kV10 dc10 pm10 cd10 ct10 oc11 kV11 dc11 pm11 cd11 ct11 oc12 kV12 dc12 pm12 cd12 ct12 oc13 kV13 dc13 pm13 cd13 ct13 oc14 kV14 dc14 pm14 cd14 ct14 oc15 kV15 dc15 pm15 cd15 ct15 oc16 kV16 dc16 pm16 cd16 ct16 oc17 kV17 dc17 pm17 cd17 ct17 oc18 kV18 dc18 pm18 cd18 ct18 oc19 kV19 dc19 pm19 cd19 ct19 oc20 kV20 dc20 pm20 cd20 ct20 oc21 kV21 dc21 pm21 cd21 ct21 : Value}
    {T1 : Addr} {tc1 : Value} {td1 : Option Addr} {tn1 : Nat} {ts1 : Array (Option Value)} (a1 : PySem.W.nsIn K mainGlobals "is_number" = some (some (.ref f1))) (l1 : K.lookup f1 = some ⟨oc1, od1, .func (PySem.W.fnOf "is_number" "is_number" (defArgs s_is_number) (defBody s_is_number) (defScope s_is_number) (.ref T1) kV1 dc1 pm1 an1 cd1 ct1), sl1⟩) (c1 : PySem.W.codeIn K cd1 "is_number" = true) (k1 : PySem.W.keepIn K (.ref f1) = true) (t1 : K.lookup T1 = some ⟨tc1, td1, .seq #[Value.none] tn1, ts1⟩)
    (a2 : PySem.W.nsIn K mainGlobals "is_row" = some (some (.ref f2))) (l2 : K.lookup f2 = some ⟨oc2, od2, .func (PySem.W.fnOf "is_row" "is_row" (defArgs s_is_row) (defBody s_is_row) (defScope s_is_row) .none kV2 dc2 pm2 an2 cd2 ct2), sl2⟩) (c2 : PySem.W.codeIn K cd2 "is_row" = true) (k2 : PySem.W.keepIn K (.ref f2) = true)
    (a3 : PySem.W.nsIn K mainGlobals "ascends" = some (some (.ref f3))) (l3 : K.lookup f3 = some ⟨oc3, od3, .func (PySem.W.fnOf "ascends" "ascends" (defArgs s_ascends) (defBody s_ascends) (defScope s_ascends) .none kV3 dc3 pm3 an3 cd3 ct3), sl3⟩) (c3 : PySem.W.codeIn K cd3 "ascends" = true) (k3 : PySem.W.keepIn K (.ref f3) = true)
    (a4 : PySem.W.nsIn K mainGlobals "is_counts" = some (some (.ref f4))) (l4 : K.lookup f4 = some ⟨oc4, od4, .func (PySem.W.fnOf "is_counts" "is_counts" (defArgs s_is_counts) (defBody s_is_counts) (defScope s_is_counts) .none kV4 dc4 pm4 an4 cd4 ct4), sl4⟩) (c4 : PySem.W.codeIn K cd4 "is_counts" = true) (k4 : PySem.W.keepIn K (.ref f4) = true)
    (a5 : PySem.W.nsIn K mainGlobals "is_drops" = some (some (.ref f5))) (l5 : K.lookup f5 = some ⟨oc5, od5, .func (PySem.W.fnOf "is_drops" "is_drops" (defArgs s_is_drops) (defBody s_is_drops) (defScope s_is_drops) .none kV5 dc5 pm5 an5 cd5 ct5), sl5⟩) (c5 : PySem.W.codeIn K cd5 "is_drops" = true) (k5 : PySem.W.keepIn K (.ref f5) = true)
    (a6 : PySem.W.nsIn K mainGlobals "_law_box" = some (some (.ref f6))) (l6 : K.lookup f6 = some ⟨oc6, od6, .func (PySem.W.fnOf "_law_box" "_law_box" (defArgs s_w_box) (defBody s_w_box) (defScope s_w_box) .none kV6 dc6 pm6 an6 cd6 ct6), sl6⟩) (c6 : PySem.W.codeIn K cd6 "_law_box" = true) (k6 : PySem.W.keepIn K (.ref f6) = true)
    (a7 : PySem.W.nsIn K mainGlobals "_law_take" = some (some (.ref f7))) (l7 : K.lookup f7 = some ⟨oc7, od7, .func (PySem.W.fnOf "_law_take" "_law_take" (defArgs s_w_take) (defBody s_w_take) (defScope s_w_take) .none kV7 dc7 pm7 an7 cd7 ct7), sl7⟩) (c7 : PySem.W.codeIn K cd7 "_law_take" = true) (k7 : PySem.W.keepIn K (.ref f7) = true)
    (a8 : PySem.W.nsIn K mainGlobals "_law_cells" = some (some (.ref f8))) (l8 : K.lookup f8 = some ⟨oc8, od8, .func (PySem.W.fnOf "_law_cells" "_law_cells" (defArgs s_w_cells) (defBody s_w_cells) (defScope s_w_cells) .none kV8 dc8 pm8 an8 cd8 ct8), sl8⟩) (c8 : PySem.W.codeIn K cd8 "_law_cells" = true) (k8 : PySem.W.keepIn K (.ref f8) = true)
    (a9 : PySem.W.nsIn K mainGlobals "_law_of" = some (some (.ref f9))) (l9 : K.lookup f9 = some ⟨oc9, od9, .func (PySem.W.fnOf "_law_of" "_law_of" (defArgs s_w_of) (defBody s_w_of) (defScope s_w_of) .none kV9 dc9 pm9 an9 cd9 ct9), sl9⟩) (c9 : PySem.W.codeIn K cd9 "_law_of" = true) (k9 : PySem.W.keepIn K (.ref f9) = true)
    (a10 : PySem.W.nsIn K mainGlobals "_law_pick" = some (some (.ref f10))) (l10 : K.lookup f10 = some ⟨oc10, od10, .func (PySem.W.fnOf "_law_pick" "_law_pick" (defArgs s_w_pick) (defBody s_w_pick) (defScope s_w_pick) .none kV10 dc10 pm10 an10 cd10 ct10), sl10⟩) (c10 : PySem.W.codeIn K cd10 "_law_pick" = true) (k10 : PySem.W.keepIn K (.ref f10) = true)
    (a11 : PySem.W.nsIn K mainGlobals "_law_lists" = some (some (.ref f11))) (l11 : K.lookup f11 = some ⟨oc11, od11, .func (PySem.W.fnOf "_law_lists" "_law_lists" (defArgs s_w_lists) (defBody s_w_lists) (defScope s_w_lists) .none kV11 dc11 pm11 an11 cd11 ct11), sl11⟩) (c11 : PySem.W.codeIn K cd11 "_law_lists" = true) (k11 : PySem.W.keepIn K (.ref f11) = true)
    (a12 : PySem.W.nsIn K mainGlobals "_law_same" = some (some (.ref f12))) (l12 : K.lookup f12 = some ⟨oc12, od12, .func (PySem.W.fnOf "_law_same" "_law_same" (defArgs s_w_same) (defBody s_w_same) (defScope s_w_same) .none kV12 dc12 pm12 an12 cd12 ct12), sl12⟩) (c12 : PySem.W.codeIn K cd12 "_law_same" = true) (k12 : PySem.W.keepIn K (.ref f12) = true)
    (a13 : PySem.W.nsIn K mainGlobals "_law_web" = some (some (.ref f13))) (l13 : K.lookup f13 = some ⟨oc13, od13, .func (PySem.W.fnOf "_law_web" "_law_web" (defArgs s_w_web) (defBody s_w_web) (defScope s_w_web) .none kV13 dc13 pm13 an13 cd13 ct13), sl13⟩) (c13 : PySem.W.codeIn K cd13 "_law_web" = true) (k13 : PySem.W.keepIn K (.ref f13) = true)
    (a14 : PySem.W.nsIn K mainGlobals "_law_cuts" = some (some (.ref f14))) (l14 : K.lookup f14 = some ⟨oc14, od14, .func (PySem.W.fnOf "_law_cuts" "_law_cuts" (defArgs s_w_cuts) (defBody s_w_cuts) (defScope s_w_cuts) .none kV14 dc14 pm14 an14 cd14 ct14), sl14⟩) (c14 : PySem.W.codeIn K cd14 "_law_cuts" = true) (k14 : PySem.W.keepIn K (.ref f14) = true)
    (a15 : PySem.W.nsIn K mainGlobals "_law_is_count" = some (some (.ref f15))) (l15 : K.lookup f15 = some ⟨oc15, od15, .func (PySem.W.fnOf "_law_is_count" "_law_is_count" (defArgs s_w_is_count) (defBody s_w_is_count) (defScope s_w_is_count) .none kV15 dc15 pm15 an15 cd15 ct15), sl15⟩) (c15 : PySem.W.codeIn K cd15 "_law_is_count" = true) (k15 : PySem.W.keepIn K (.ref f15) = true)
    (a16 : PySem.W.nsIn K mainGlobals "_law_are_counts" = some (some (.ref f16))) (l16 : K.lookup f16 = some ⟨oc16, od16, .func (PySem.W.fnOf "_law_are_counts" "_law_are_counts" (defArgs s_w_are_counts) (defBody s_w_are_counts) (defScope s_w_are_counts) .none kV16 dc16 pm16 an16 cd16 ct16), sl16⟩) (c16 : PySem.W.codeIn K cd16 "_law_are_counts" = true) (k16 : PySem.W.keepIn K (.ref f16) = true)
    (a17 : PySem.W.nsIn K mainGlobals "_law_are_cuts" = some (some (.ref f17))) (l17 : K.lookup f17 = some ⟨oc17, od17, .func (PySem.W.fnOf "_law_are_cuts" "_law_are_cuts" (defArgs s_w_are_cuts) (defBody s_w_are_cuts) (defScope s_w_are_cuts) .none kV17 dc17 pm17 an17 cd17 ct17), sl17⟩) (c17 : PySem.W.codeIn K cd17 "_law_are_cuts" = true) (k17 : PySem.W.keepIn K (.ref f17) = true)
    (a18 : PySem.W.nsIn K mainGlobals "_law_spoilt" = some (some (.ref f18))) (l18 : K.lookup f18 = some ⟨oc18, od18, .func (PySem.W.fnOf "_law_spoilt" "_law_spoilt" (defArgs s_w_spoilt) (defBody s_w_spoilt) (defScope s_w_spoilt) .none kV18 dc18 pm18 an18 cd18 ct18), sl18⟩) (c18 : PySem.W.codeIn K cd18 "_law_spoilt" = true) (k18 : PySem.W.keepIn K (.ref f18) = true)
    (a19 : PySem.W.nsIn K mainGlobals "_law_hand_right" = some (some (.ref f19))) (l19 : K.lookup f19 = some ⟨oc19, od19, .func (PySem.W.fnOf "_law_hand_right" "_law_hand_right" (defArgs s_w_hand_right) (defBody s_w_hand_right) (defScope s_w_hand_right) .none kV19 dc19 pm19 an19 cd19 ct19), sl19⟩) (c19 : PySem.W.codeIn K cd19 "_law_hand_right" = true) (k19 : PySem.W.keepIn K (.ref f19) = true)
    (a20 : PySem.W.nsIn K mainGlobals "_law_right" = some (some (.ref f20))) (l20 : K.lookup f20 = some ⟨oc20, od20, .func (PySem.W.fnOf "_law_right" "_law_right" (defArgs s_w_right) (defBody s_w_right) (defScope s_w_right) .none kV20 dc20 pm20 an20 cd20 ct20), sl20⟩) (c20 : PySem.W.codeIn K cd20 "_law_right" = true) (k20 : PySem.W.keepIn K (.ref f20) = true)
    (a21 : PySem.W.nsIn K mainGlobals "law" = some (some (.ref f21))) (l21 : K.lookup f21 = some ⟨oc21, od21, .func (PySem.W.fnOf "law" "law" (defArgs s_law) (defBody s_law) (defScope s_law) .none kV21 dc21 pm21 an21 cd21 ct21), sl21⟩) (c21 : PySem.W.codeIn K cd21 "law" = true) (k21 : PySem.W.keepIn K (.ref f21) = true)
    (z1 : PySem.W.nsIn K mainGlobals "len" = some none) (z2 : PySem.W.nsIn K mainGlobals "abs" = some none) (z3 : PySem.W.nsIn K mainGlobals "int" = some none) (z4 : PySem.W.nsIn K mainGlobals "list" = some none) (z5 : PySem.W.nsIn K mainGlobals "enumerate" = some none) (z6 : PySem.W.nsIn K mainGlobals "range" = some none) (z7 : PySem.W.nsIn K mainGlobals "min" = some none) (z8 : PySem.W.nsIn K mainGlobals "sorted" = some none) (z9 : PySem.W.nsIn K mainGlobals "tuple" = some none) (z10 : PySem.W.nsIn K mainGlobals "isinstance" = some none) (z11 : PySem.W.nsIn K mainGlobals "bool" = some none) (z12 : PySem.W.nsIn K mainGlobals "str" = some none) (z13 : PySem.W.nsIn K mainGlobals "all" = some none) (z14 : PySem.W.nsIn K mainGlobals "zip" = some none) :
    ∃ fd : FuncData, (∀ (s : Shared) (v : Value), BindsTo s fd ⟨[v], []⟩ [("_law_script", v)]) ∧ ∀ base : Heap, K.In base → base.Ns mainGlobals mg → FnOk l.prog w K mg base CX0 7 fa fd ["_law_script"] (spLaw K) := by
  have e := hfa.symm.trans (PySem.W.mg_of X G a21)
  cases e
  have F1 : FunNum K f1 _ := ⟨⟨oc1, od1, _, kV1, dc1, pm1, an1, cd1, ct1, sl1, rfl, l1, c1, .inr ⟨by simp, T1, _, [Value.none], tn1, rfl, t1, rfl, .cons rfl .nil⟩, .inl rfl⟩, k1⟩
  have g1 := PySem.W.mg_of X G a1
  obtain ⟨ds1, v1, b1⟩ := FunD.binds1 (ps := ["thing", "least"]) F1 2 1 (by simp) rfl fun _ _ _ _ _ _ _ us its hu hi => match us, hu, its, hi with | [_, _], _, [_], _ => ⟨_, rfl, rfl⟩
  cases v1
  have F2 := fun_mk (st := s_is_row) l2 c2 k2
  have g2 := PySem.W.mg_of X G a2
  have b2 := F2.binds (ps := ["thing", "many"]) fun _ _ _ _ _ _ us hl => match us, hl with | [_, _], _ => rfl
  have F3 := fun_mk (st := s_ascends) l3 c3 k3
  have g3 := PySem.W.mg_of X G a3
  have b3 := F3.binds (ps := ["row"]) fun _ _ _ _ _ _ us hl => match us, hl with | [_], _ => rfl
  have F4 := fun_mk (st := s_is_counts) l4 c4 k4
  have g4 := PySem.W.mg_of X G a4
  have b4 := F4.binds (ps := ["net", "thing"]) fun _ _ _ _ _ _ us hl => match us, hl with | [_, _], _ => rfl
  have F5 := fun_mk (st := s_is_drops) l5 c5 k5
  have g5 := PySem.W.mg_of X G a5
  have b5 := F5.binds (ps := ["net", "thing"]) fun _ _ _ _ _ _ us hl => match us, hl with | [_, _], _ => rfl
  have F6 := fun_mk (st := s_w_box) l6 c6 k6
  have g6 := PySem.W.mg_of X G a6
  have b6 := F6.binds (ps := ["_law_script", "_law_k"]) fun _ _ _ _ _ _ us hl => match us, hl with | [_, _], _ => rfl
  have F7 := fun_mk (st := s_w_take) l7 c7 k7
  have g7 := PySem.W.mg_of X G a7
  have b7 := F7.binds (ps := ["_law_box_here", "_law_below"]) fun _ _ _ _ _ _ us hl => match us, hl with | [_, _], _ => rfl
  have F8 := fun_mk (st := s_w_cells) l8 c8 k8
  have g8 := PySem.W.mg_of X G a8
  have b8 := F8.binds (ps := ["_law_script", "_law_most"]) fun _ _ _ _ _ _ us hl => match us, hl with | [_, _], _ => rfl
  have F9 := fun_mk (st := s_w_of) l9 c9 k9
  have g9 := PySem.W.mg_of X G a9
  have b9 := F9.binds (ps := ["_law_box_here", "_law_some"]) fun _ _ _ _ _ _ us hl => match us, hl with | [_, _], _ => rfl
  have F10 := fun_mk (st := s_w_pick) l10 c10 k10
  have g10 := PySem.W.mg_of X G a10
  have b10 := F10.binds (ps := ["_law_box_here", "_law_pool", "_law_size_so"]) fun _ _ _ _ _ _ us hl => match us, hl with | [_, _, _], _ => rfl
  have F11 := fun_mk (st := s_w_lists) l11 c11 k11
  have g11 := PySem.W.mg_of X G a11
  have b11 := F11.binds (ps := ["_law_matter"]) fun _ _ _ _ _ _ us hl => match us, hl with | [_], _ => rfl
  have F12 := fun_mk (st := s_w_same) l12 c12 k12
  have g12 := PySem.W.mg_of X G a12
  have b12 := F12.binds (ps := ["_law_got", "_law_due"]) fun _ _ _ _ _ _ us hl => match us, hl with | [_, _], _ => rfl
  have F13 := fun_mk (st := s_w_web) l13 c13 k13
  have g13 := PySem.W.mg_of X G a13
  have b13 := F13.binds (ps := ["_law_box_here", "_law_size_so", "_law_most", "_law_high"]) fun _ _ _ _ _ _ us hl => match us, hl with | [_, _, _, _], _ => rfl
  have F14 := fun_mk (st := s_w_cuts) l14 c14 k14
  have g14 := PySem.W.mg_of X G a14
  have b14 := F14.binds (ps := ["_law_box_here", "_law_web_here", "_law_size_so", "_law_high"]) fun _ _ _ _ _ _ us hl => match us, hl with | [_, _, _, _], _ => rfl
  have F15 := fun_mk (st := s_w_is_count) l15 c15 k15
  have g15 := PySem.W.mg_of X G a15
  have b15 := F15.binds (ps := ["_law_matter", "_law_least"]) fun _ _ _ _ _ _ us hl => match us, hl with | [_, _], _ => rfl
  have F16 := fun_mk (st := s_w_are_counts) l16 c16 k16
  have g16 := PySem.W.mg_of X G a16
  have b16 := F16.binds (ps := ["_law_web_here", "_law_matter"]) fun _ _ _ _ _ _ us hl => match us, hl with | [_, _], _ => rfl
  have F17 := fun_mk (st := s_w_are_cuts) l17 c17 k17
  have g17 := PySem.W.mg_of X G a17
  have b17 := F17.binds (ps := ["_law_web_here", "_law_matter"]) fun _ _ _ _ _ _ us hl => match us, hl with | [_, _], _ => rfl
  have F18 := fun_mk (st := s_w_spoilt) l18 c18 k18
  have g18 := PySem.W.mg_of X G a18
  have b18 := F18.binds (ps := ["_law_box_here", "_law_matter", "_law_pool"]) fun _ _ _ _ _ _ us hl => match us, hl with | [_, _, _], _ => rfl
  have F19 := fun_mk (st := s_w_hand_right) l19 c19 k19
  have g19 := PySem.W.mg_of X G a19
  have b19 := F19.binds (ps := []) fun _ _ _ _ _ _ us hl => match us, hl with | [], _ => rfl
  have F20 := fun_mk (st := s_w_right) l20 c20 k20
  have g20 := PySem.W.mg_of X G a20
  have b20 := F20.binds (ps := ["_law_box_here"]) fun _ _ _ _ _ _ us hl => match us, hl with | [_], _ => rfl
  have F21 := fun_mk (st := s_law) l21 c21 k21
  have g21 := PySem.W.mg_of X G a21
  have m_len := PySem.W.mg_none_of X G z1
  have m_abs := PySem.W.mg_none_of X G z2
  have m_int := PySem.W.mg_none_of X G z3
  have m_list := PySem.W.mg_none_of X G z4
  have m_enumerate := PySem.W.mg_none_of X G z5
  have m_range := PySem.W.mg_none_of X G z6
  have m_min := PySem.W.mg_none_of X G z7
  have m_sorted := PySem.W.mg_none_of X G z8
  have m_tuple := PySem.W.mg_none_of X G z9
  have m_isinstance := PySem.W.mg_none_of X G z10
  have m_bool := PySem.W.mg_none_of X G z11
  have m_str := PySem.W.mg_none_of X G z12
  have m_all := PySem.W.mg_none_of X G z13
  have m_zip := PySem.W.mg_none_of X G z14
  clear hfa t1 a1 l1 c1 k1 a2 l2 c2 k2 a3 l3 c3 k3 a4 l4 c4 k4 a5 l5 c5 k5 a6 l6 c6 k6 a7 l7 c7 k7 a8 l8 c8 k8 a9 l9 c9 k9 a10 l10 c10 k10 a11 l11 c11 k11 a12 l12 c12 k12 a13 l13 c13 k13 a14 l14 c14 k14 a15 l15 c15 k15 a16 l16 c16 k16 a17 l17 c17 k17 a18 l18 c18 k18 a19 l19 c19 k19 a20 l20 c20 k20 a21 l21 c21 k21 z1 z2 z3 z4 z5 z6 z7 z8 z9 z10 z11 z12 z13 z14
  have kb4 : KBinds K (PySem.W.fnOf "is_counts" "is_counts" (defArgs s_is_counts) (defBody s_is_counts) (defScope s_is_counts) .none kV4 dc4 pm4 an4 cd4 ct4) ["net", "thing"] ["net", "thing"] gOnly gOnly := ⟨fun s us ws _ hl => match us, ws, hl with | [], [_, _], _ => .of_eq rfl | _ :: _, _, hl => absurd hl (fun z => nomatch z), fun r1 r2 => vals_only r1 r2⟩
  have kb5 : KBinds K (PySem.W.fnOf "is_drops" "is_drops" (defArgs s_is_drops) (defBody s_is_drops) (defScope s_is_drops) .none kV5 dc5 pm5 an5 cd5 ct5) ["net", "thing"] ["net", "thing"] gOnly gOnly := ⟨fun s us ws _ hl => match us, ws, hl with | [], [_, _], _ => .of_eq rfl | _ :: _, _, hl => absurd hl (fun z => nomatch z), fun r1 r2 => vals_only r1 r2⟩
  refine ⟨PySem.W.fnOf "law" "law" (defArgs s_law) (defBody s_law) (defScope s_law) .none kV21 dc21 pm21 an21 cd21 ct21, fun s v => .of_eq rfl, fun base _ _ => ?_⟩
  have Gbox := ok_box (P := l.prog) (w := w) (base := base) (k := 5) F6 m_len m_abs m_int
  have Gtake1 := ok_take2 (ok_take (P := l.prog) (w := w) (base := base) (k := 0) F7 m_int)
  have Gcells := ok_cells (P := l.prog) (w := w) (base := base) (k := 5) F8 m_int m_list m_enumerate
  have Gpick := ok_pick F10 Gtake1 g7 F7 b7 m_list m_range m_min m_len
  have Gweb := ok_web F13 (Gtake1.mono (by decide : 1 ≤ 2)) g7 F7 b7 Gpick g10 F10 b10 m_sorted m_len m_int m_tuple
  have Gof := ok_of F9 Gtake1 g7 F7 b7 m_len
  have Gcuts := ok_cuts F14 (Gtake1.mono (by decide : 1 ≤ 2)) g7 F7 b7 Gof g9 F9 b9 m_range m_tuple m_sorted
  have Gspoilt := ok_spoilt F18 (Gtake1.mono (by decide : 1 ≤ 2)) g7 F7 b7 Gof g9 F9 b9 m_len m_list
  have Gnum := ok_is_number (P := l.prog) (w := w) (base := base) (k := 0) F1 m_isinstance m_int m_bool
  have Gcnt := ok_w_is_count (P := l.prog) (w := w) (base := base) (k := 0) F15 m_isinstance m_int m_bool
  have Grow := ok_is_row (P := l.prog) (w := w) (base := base) (k := 0) F2 m_isinstance m_tuple m_len
  have Gasc := ok_ascends (P := l.prog) (w := w) (base := base) (k := 0) F3 m_all m_range m_len
  have Gic := ok_is_counts F4 Grow g2 F2 b2 Gnum g1 F1 b1 m_all m_len
  have Gid := ok_is_drops F5 Grow g2 F2 b2 Gnum g1 F1 b1 Gasc g3 F3 b3 m_isinstance m_tuple m_str m_all
  have Gac := ok_w_are_counts F16 Gcnt g15 F15 b15 m_isinstance m_tuple m_len
  have Gad := ok_w_are_cuts F17 Gcnt g15 F15 b15 m_isinstance m_tuple m_str m_len m_range
  have Glists := ok_lists (P := l.prog) (w := w) (base := base) F11 g11 b11 m_isinstance m_list m_tuple 4
  have Gsame := ok_same (P := l.prog) (w := w) (base := base) F12 g12 b12 m_isinstance m_list m_tuple m_bool m_str m_int m_len m_all m_zip 4
  have Ghand := ok_hand F19 (Gic.mono (by decide : 2 ≤ 4)) g4 F4 b4 kb4 (Gid.mono (by decide : 2 ≤ 4)) g5 F5 b5 kb5 Gsame g12 F12 b12
  have Gright := ok_right F20 Ghand g19 F19 b19 (Gweb.mono (by decide : 3 ≤ 5)) g13 F13 b13 (Gof.mono (by decide : 2 ≤ 5)) g9 F9 b9 (Gcuts.mono (by decide : 3 ≤ 5)) g14 F14 b14 (Gic.mono (by decide : 2 ≤ 5)) g4 F4 b4 (Gid.mono (by decide : 2 ≤ 5)) g5 F5 b5 (Gspoilt.mono (by decide : 3 ≤ 5)) g18 F18 b18 (Glists.mono (by decide : 4 ≤ 5)) g11 F11 b11 (Gac.mono (by decide : 2 ≤ 5)) g16 F16 b16 (Gad.mono (by decide : 2 ≤ 5)) g17 F17 b17 (Gsame.mono (by decide : 4 ≤ 5)) g12 F12 b12 m_range m_tuple
  exact ok_law F21 Gcells g8 F8 b8 Gbox g6 F6 b6 Gright g20 F20 b20 m_all m_range m_len
end Jl
open PySem PySem.W PyProof.Rows
set_option maxHeartbeats 0 in
theorem PySem.Challenge.cw_joinlags_k01_counts_and_drops_or_none_holds : PySem.Challenge.rw_joinlags_k01_counts_and_drops_or_none.Holds := by
  w_on; o_law; k_head; (case hw => w_witness2)
  k_fill
  refine L2.walk_of (l := PySem.Challenge.rw_joinlags_k01_counts_and_drops_or_none) (n := 63) (k := 7) (x := "_law_script") (CX := fun _ => L2.CX0) (sp := fun w => Jl.spLaw _) rfl (by decide) rfl ⟨rfl, by decide, by decide⟩ (fun w h Y => PySem.W.kIn_of Y) ?F (fun _ _ a ns hl _ hS => ⟨a, ns, rfl, hS, hl, fun _ => rfl⟩) (fun _ _ _ _ _ h => h)
  case F =>
    intro w mg fa h KX G hmg
    refine' Jl.all_mk KX G hmg ?a1 ?l1 ?c1 ?k1 ?t1 ?a2 ?l2 ?c2 ?k2 ?a3 ?l3 ?c3 ?k3 ?a4 ?l4 ?c4 ?k4 ?a5 ?l5 ?c5 ?k5 ?a6 ?l6 ?c6 ?k6 ?a7 ?l7 ?c7 ?k7 ?a8 ?l8 ?c8 ?k8 ?a9 ?l9 ?c9 ?k9 ?a10 ?l10 ?c10 ?k10 ?a11 ?l11 ?c11 ?k11 ?a12 ?l12 ?c12 ?k12 ?a13 ?l13 ?c13 ?k13 ?a14 ?l14 ?c14 ?k14 ?a15 ?l15 ?c15 ?k15 ?a16 ?l16 ?c16 ?k16 ?a17 ?l17 ?c17 ?k17 ?a18 ?l18 ?c18 ?k18 ?a19 ?l19 ?c19 ?k19 ?a20 ?l20 ?c20 ?k20 ?a21 ?l21 ?c21 ?k21 ?z1 ?z2 ?z3 ?z4 ?z5 ?z6 ?z7 ?z8 ?z9 ?z10 ?z11 ?z12 ?z13 ?z14
    (case a1 => k_is); (case l1 => k_is); (case c1 => k_is); (case k1 => k_is); (case t1 => k_is); (case a2 => k_is); (case l2 => k_is); (case c2 => k_is); (case k2 => k_is); (case a3 => k_is); (case l3 => k_is); (case c3 => k_is); (case k3 => k_is); (case a4 => k_is); (case l4 => k_is); (case c4 => k_is); (case k4 => k_is); (case a5 => k_is); (case l5 => k_is); (case c5 => k_is); (case k5 => k_is); (case a6 => k_is); (case l6 => k_is); (case c6 => k_is); (case k6 => k_is); (case a7 => k_is); (case l7 => k_is); (case c7 => k_is); (case k7 => k_is); (case a8 => k_is); (case l8 => k_is); (case c8 => k_is); (case k8 => k_is); (case a9 => k_is); (case l9 => k_is); (case c9 => k_is); (case k9 => k_is); (case a10 => k_is); (case l10 => k_is); (case c10 => k_is); (case k10 => k_is); (case a11 => k_is); (case l11 => k_is); (case c11 => k_is); (case k11 => k_is); (case a12 => k_is); (case l12 => k_is); (case c12 => k_is); (case k12 => k_is); (case a13 => k_is); (case l13 => k_is); (case c13 => k_is); (case k13 => k_is); (case a14 => k_is); (case l14 => k_is); (case c14 => k_is); (case k14 => k_is); (case a15 => k_is); (case l15 => k_is); (case c15 => k_is); (case k15 => k_is); (case a16 => k_is); (case l16 => k_is); (case c16 => k_is); (case k16 => k_is); (case a17 => k_is); (case l17 => k_is); (case c17 => k_is); (case k17 => k_is); (case a18 => k_is); (case l18 => k_is); (case c18 => k_is); (case k18 => k_is); (case a19 => k_is); (case l19 => k_is); (case c19 => k_is); (case k19 => k_is); (case a20 => k_is); (case l20 => k_is); (case c20 => k_is); (case k20 => k_is); (case a21 => k_is); (case l21 => k_is); (case c21 => k_is); (case k21 => k_is); (case z1 => k_is); (case z2 => k_is); (case z3 => k_is); (case z4 => k_is); (case z5 => k_is); (case z6 => k_is); (case z7 => k_is); (case z8 => k_is); (case z9 => k_is); (case z10 => k_is); (case z11 => k_is); (case z12 => k_is); (case z13 => k_is); (case z14 => k_is)

