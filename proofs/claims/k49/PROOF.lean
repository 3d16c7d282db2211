import PyProof.Rows.All
import HandS.ForMost
import HandS.Wide
import HandS.IsInst
import HandS.Zip
import HandS.DictComp
import HandS.SetKeys
import HandS.Flow
import HandS.SortOrd
import HandS.Evl
import HandS.Walk
import PySem.Challenge.RW_joinlags_k49_rows_at_their_bounds
import PyProof.ListRange
import HandS.Sort
import HandS.Strs
import KE.SortData
import KE.GoesEnum
import PyProof.Rows.SeqMore
import HandS.TupAny
set_option Elab.async false
set_option linter.all false
set_option maxRecDepth 100000
set_option maxHeartbeats 4000000
namespace Jl
open PySem PySem.Spec PyProof.Rows L2
open Evl (sz_of sz_lt)
def topS (i : Nat) : Stmt := PySem.Challenge.pw_joinlags_k49_rows_at_their_bounds.main.body.getD i (.Pass ⟨0, 0, 0, 0⟩)
abbrev sc_w_box_N : List Str := ["_law_script", "_law_k", "_law_cell"]
abbrev s_w_box : Stmt := topS 15
theorem sc_w_box : FnScope ["_law_script", "_law_k", "_law_cell"] ["_law_script", "_law_k"] (defScope s_w_box) := ⟨rfl, rfl, rfl, by decide +kernel, rfl, by decide +kernel, by decide +kernel⟩
local macro_rules | `(tactic| walk_at "at") => `(tactic| fail)
local macro_rules | `(tactic| walk_at "side") => `(tactic| first
  | (show (0 : Int) < _; decide)
  | (show (0 : Int) < _; omega)
  | exact ⟨by decide, by decide, by decide⟩
  | exact sz_of (Nat.le_of_ble_eq_true rfl)
  | exact rfl
  | exact Or.inl (by decide)
  | exact Or.inr (by decide)
  | exact Or.inr ⟨by omega, by omega⟩
  | exact Or.inl ⟨by omega, by omega⟩
  | exact ⟨by decide, by decide +kernel⟩)
local macro_rules | `(tactic| walk_at "ev1") => `(tactic| first
  | refine ⟨_, rfl, ?_⟩
  | refine ⟨_, _, rfl, rfl, ?_⟩
  | refine ⟨_, _, _, _, rfl, rfl, (by assumption), (by walk_at "at"), ?_⟩
  | refine Or.inl ⟨_, rfl, ?_⟩
  | refine Or.inr ⟨_, rfl, ?_⟩
  | refine ⟨(by walk_at "side"), ?_⟩)
local macro_rules | `(tactic| walk_at "ev") => `(tactic| repeat (walk_at "ev1"))
abbrev sc_w_take_N : List Str := ["_law_box_here", "_law_below", "_law_once", "_law_far", "_law_twice", "_law_drawn"]
abbrev s_w_take : Stmt := topS 16
theorem sc_w_take : FnScope ["_law_box_here", "_law_below", "_law_once", "_law_far", "_law_twice", "_law_drawn"] ["_law_box_here", "_law_below"] (defScope s_w_take) := ⟨rfl, rfl, rfl, by decide +kernel, rfl, by decide +kernel, by decide +kernel⟩
section
variable {P : Program} {w : World} {K : PySem.W.Frag} {mg : Str → Option Value} {base : Heap}
/-! ### the box: three numbers -/
def boxV (c0 c1 c2 : Int) : List V := [.int c0, .int c1, .int c2]
theorem box0 {c0 c1 c2 : Int} : atI (boxV c0 c1 c2) 0 = some (.int c0) := atI_nat (j := 0) rfl
theorem box1 {c0 c1 c2 : Int} : atI (boxV c0 c1 c2) 1 = some (.int c1) := atI_nat (j := 1) rfl
theorem box2 {c0 c1 c2 : Int} : atI (boxV c0 c1 c2) 2 = some (.int c2) := atI_nat (j := 2) rfl
local macro_rules | `(tactic| walk_at "at") => `(tactic| first | exact box0 | exact box1 | exact box2)
/-- _law_box(script, k) -/
def spBox (K : PySem.W.Frag) : Sp := fun vs H Q _ => ∃ (a : Addr) (ns : List Int) (k : Int), vs = [.ref a, .int k] ∧ SqL K H a (ns.map V.int) ∧ 0 ≤ k ∧ k < 100 ∧
  ∀ p c0 c1, H p = none → 0 ≤ c0 → 0 ≤ c1 → c1 < 2 ^ 62 → Q (.ref p) (upd H p (.lst (boxV c0 c1 0)))
theorem ok_box {f : Addr} {fd : FuncData} {k : Nat} (F : Fun K "_law_box" "_law_box" s_w_box f fd) (m_len : mg "len" = none) (m_abs : mg "abs" = none) (m_int : mg "int" = none) : FnOk P w K mg base CX0 (k + 1) f fd ["_law_script", "_law_k"] (spBox K) := by
  refine F.ok sc_w_box (fun vs H Q E h => ?_) (fun cdv A outer s H vs Q E hr h => ?_)
  · obtain ⟨a, ns, k, rfl, _⟩ := h
    rfl
  · obtain ⟨a, ns, j, rfl, hS, j0, j1, q⟩ := h
    refine ⟨_, (pss_cons (ps_set (i := 2) sc_w_box.nd rfl (Or.inl rfl) (pe_ifExp (pt_cmpR op_lt (pv 1) (pe_callB call_len_seq (by rfl) m_len PySem.boot_len (pa_cons (pv 0) pa_nil)) (nomark _)) (pe_ix ix_list (pv 0) (pv 1) (fun _ _ => rfl)) pe_int)) 
    (pss_one (ps_ret (pe_lst (pa_cons (pe_op op_mul (pe_callB call_abs (by rfl) m_abs (by decide +kernel) (pa_cons (pv 2) pa_nil)) (pe_callTy call_int1 (by rfl) m_int (by decide +kernel) (pa_cons (pe_cmpR op_ge (pe_callB call_abs (by rfl) m_abs (by decide +kernel) (pa_cons (pv 2) pa_nil)) (pe_op op_pow pe_int pe_int) (nomark _)) pa_nil))) (pa_cons (pe_op op_add (pe_op op_add (pe_op op_mod (pe_callTy call_int1 (by rfl) m_int (by decide +kernel) (pa_cons (pv 2) pa_nil)) pe_int) (pe_op op_mul pe_int (pv 1))) pe_int) (pa_cons pe_int pa_nil))))))), ?_⟩
    have fin : ∀ (c : Int), 0 ≤ (if c < 0 then -c else c) * (if decide ((10 : Int) ^ (18 : Int).toNat ≤ (if c < 0 then -c else c)) = true then 1 else 0) ∧ 0 ≤ c % 2305843009213693951 + 39373 * j + 307 ∧ c % 2305843009213693951 + 39373 * j + 307 < 2 ^ 62 := fun c => by
      refine ⟨Int.mul_nonneg (by split <;> omega) (by split <;> omega), by omega, by omega⟩
    have h01 : ∀ (b : Bool), -(2 ^ 64) < (if b = true then (1 : Int) else 0) ∧ (if b = true then (1 : Int) else 0) < 2 ^ 64 := fun b => by cases b <;> decide
    refine ⟨_, rfl, .ref a, rfl, a, _, rfl, .inl hS, _, _, rfl, rfl, _, rfl, ite2 (fun e => ?_) (fun e => ?_)⟩
    · have e1 : j < ((ns.map V.int).length : Int) := of_decide_eq_true e
      rw [List.length_map] at e1
      have hj : j.toNat < ns.length := by omega
      have hat : atI (ns.map V.int) j = some (.int ns[j.toNat]) := at_of (j := j.toNat) (by omega) (by rw [List.getElem?_map, List.getElem?_eq_getElem hj]; rfl)
      refine ⟨_, rfl, _, rfl, a, _, _, _, rfl, rfl, hS, hat, ?_⟩
      generalize ns[j.toNat] = c
      walk_at "ev"
      exact fun p hp => q p _ _ hp (fin c).1 (fin c).2.1 (fin c).2.2
    · walk_at "ev"
      exact fun p hp => q p _ _ hp (fin 0).1 (fin 0).2.1 (fin 0).2.2
/-- _law_take(box, below): a drawn number below, the box goes on -/
def spTake (K : PySem.W.Frag) : Sp := fun vs H Q _ => ∃ (b : Addr) (c0 c1 c2 n : Int), vs = [.ref b, .int n] ∧ H b = some (.lst (boxV c0 c1 c2)) ∧ 0 ≤ c0 ∧ 0 ≤ c1 ∧ c1 < 2 ^ 62 ∧ 0 ≤ c2 ∧ c2 < 2 ^ 60 ∧ 1 ≤ n ∧ n.natAbs < 2 ^ 8000 ∧
  ∀ r d0 d2, 0 ≤ r → r < n → 0 ≤ d0 → 0 ≤ d2 → d2 ≤ c2 + 1 → Q (.int r) (upd H b (.lst (boxV d0 c1 d2)))
theorem ok_take {f : Addr} {fd : FuncData} {k : Nat} (F : Fun K "_law_take" "_law_take" s_w_take f fd) (m_int : mg "int" = none) : FnOk P w K mg base CX0 (k + 1) f fd ["_law_box_here", "_law_below"] (spTake K) := by
  refine F.ok sc_w_take (fun vs H Q E h => ?_) (fun cdv A outer s H vs Q E hr h => ?_)
  · obtain ⟨b, c0, c1, c2, n, rfl, _⟩ := h
    rfl
  · obtain ⟨b, c0, c1, c2, n, rfl, hb, c00, c10, c11, c20, c21, n0, n1, q⟩ := h
    refine ⟨_, (pss_cons (ps_if (pt_cmpR op_gt (pe_ix ix_list (pv 0) pe_int (fun _ _ => rfl)) pe_int (nomark _)) 
      (pss_cons (ps_set (i := 5) sc_w_take.nd rfl (Or.inl rfl) (pe_op op_mod (pe_callTy call_int1 (by rfl) m_int (by decide +kernel) (pa_cons (pe_ix ix_list (pv 0) pe_int (fun _ _ => rfl)) pa_nil)) (pv 1))) 
      (pss_cons (ps_asg (pe_op op_fdivW (pe_ix ix_list (pv 0) pe_int (fun _ _ => rfl)) (pv 1)) (pg_sub (pv 0) pe_int set_list)) 
      (pss_one (ps_ret (pv 5))))) pss_nil) 
    (pss_cons (ps_asg (pe_op op_add (pe_ix ix_list (pv 0) pe_int (fun _ _ => rfl)) pe_int) (pg_sub (pv 0) pe_int set_list)) 
    (pss_cons (ps_set (i := 2) sc_w_take.nd rfl (Or.inl rfl) (pe_op op_mod (pe_callTy call_int1 (by rfl) m_int (by decide +kernel) (pa_cons (pe_op op_mul (pe_op op_add (pe_ix ix_list (pv 0) pe_int (fun _ _ => rfl)) (pe_op op_mul pe_int (pe_ix ix_list (pv 0) pe_int (fun _ _ => rfl)))) (pe_op op_add pe_int (pe_ix ix_list (pv 0) pe_int (fun _ _ => rfl)))) pa_nil)) pe_int)) 
    (pss_cons (ps_set (i := 3) sc_w_take.nd rfl (Or.inl rfl) (pe_op op_add (pe_op op_mod (pe_callTy call_int1 (by rfl) m_int (by decide +kernel) (pa_cons (pv 2) pa_nil)) pe_int) pe_int)) 
    (pss_cons (ps_set (i := 4) sc_w_take.nd rfl (Or.inl rfl) (pe_op op_mod (pe_callTy call_int1 (by rfl) m_int (by decide +kernel) (pa_cons (pe_op op_mul (pe_op op_add (pe_op op_add (pv 2) (pe_ix ix_list (pv 0) pe_int (fun _ _ => rfl))) (pe_op op_fdivW (pe_ix ix_list (pv 0) pe_int (fun _ _ => rfl)) pe_int)) (pv 3)) pa_nil)) pe_int)) 
    (pss_one (ps_ret (pe_op op_mod (pe_callTy call_int1 (by rfl) m_int (by decide +kernel) (pa_cons (pe_op op_fdivW (pe_op op_mod (pe_callTy call_int1 (by rfl) m_int (by decide +kernel) (pa_cons (pe_op op_add (pe_op op_mul (pv 4) pe_int) (pv 2)) pa_nil)) pe_int) pe_int) pa_nil)) (pv 1))))))))), ?_⟩
    have hL : SqL K H b (boxV c0 c1 c2) := .inl (.inl hb)
    have small : ∀ j : Int, j = 1000003 ∨ j = 64 → CDivW 0 j := fun j h => by rcases h with h | h <;> (rw [h]; exact ⟨by decide, by decide +kernel⟩)
    walk_at "ev"
    refine ite2 (fun e => ?_) (fun e => ?_)
    · have e1 : 0 < c0 := of_decide_eq_true e
      walk_at "ev"
      refine ⟨wide_div (by omega) n1 (by decide) (by decide), ?_⟩
      walk_at "ev"
      refine ⟨b, _, _, 0, rfl, rfl, hb, rfl, ?_⟩
      refine ⟨_, rfl, ?_⟩
      exact q _ _ _ (Int.emod_nonneg _ (by omega)) (Int.emod_lt_of_pos _ (by omega)) (Int.ediv_nonneg c00 (by omega)) c20 (by omega)
    · walk_at "ev"
      refine ⟨b, _, _, 2, rfl, rfl, hb, rfl, ?_⟩
      have hb2 : (upd H b (.lst (boxV c0 c1 (c2 + 1)))) b = some (.lst (boxV c0 c1 (c2 + 1))) := upd_same
      have hL2 : SqL K (upd H b (.lst (boxV c0 c1 (c2 + 1)))) b (boxV c0 c1 (c2 + 1)) := .inl (.inl hb2)
      have fin : ∀ x : Int, Q (.int (x % n)) (upd H b (.lst (boxV c0 c1 (c2 + 1)))) := fun x => q _ _ _ (Int.emod_nonneg _ (by omega)) (Int.emod_lt_of_pos _ (by omega)) c00 (by omega) (by omega)
      show tSeq _ _ _ _ (upd H b (.lst (boxV c0 c1 (c2 + 1))))
      generalize upd H b (.lst (boxV c0 c1 (c2 + 1))) = H2 at hb2 hL2 fin
      walk_at "ev"
      exact fin _
end
end Jl

set_option Elab.async false
set_option linter.all false
set_option maxRecDepth 100000
set_option maxHeartbeats 4000000
namespace Jl
open PySem PySem.Spec PyProof.Rows L2
open Evl (sz_of sz_lt)
/-! ### heaps without some addresses -/
def cutS (S : List Addr) (H : Hp) : Hp := fun a => if a ∈ S then none else H a
theorem cutS_nil {H : Hp} : cutS [] H = H := by
  funext a
  unfold cutS
  rw [if_neg (List.not_mem_nil)]
theorem cutS_in {S : List Addr} {H : Hp} {a : Addr} (h : a ∈ S) : cutS S H a = none := by
  unfold cutS
  rw [if_pos h]
theorem cutS_out {S : List Addr} {H : Hp} {a : Addr} (h : a ∉ S) : cutS S H a = H a := by
  unfold cutS
  rw [if_neg h]
theorem cutS_some {S : List Addr} {H : Hp} {a : Addr} {o : HO} (h : cutS S H a = some o) : a ∉ S ∧ H a = some o := by
  by_cases q : a ∈ S
  · rw [cutS_in q] at h
    cases h
  · rw [cutS_out q] at h
    exact ⟨q, h⟩
theorem cutS_le {S : List Addr} {H : Hp} : Same (cutS S H) H := fun b o h => (cutS_some h).2
theorem cutS_mono {S : List Addr} {H H' : Hp} (e : Same H H') : Same (cutS S H) (cutS S H') := fun b o h => by
  obtain ⟨h1, h2⟩ := cutS_some h
  rw [cutS_out h1]
  exact e b o h2
theorem cutS_sub {S T : List Addr} {H : Hp} (h : ∀ a ∈ T, a ∈ S) : Same (cutS S H) (cutS T H) := fun b o q => by
  obtain ⟨h1, h2⟩ := cutS_some q
  rw [cutS_out fun z => h1 (h b z)]
  exact h2
theorem cutS_upd {S : List Addr} {H : Hp} {a : Addr} {o : HO} (h : a ∈ S) : cutS S (upd H a o) = cutS S H := by
  funext b
  by_cases q : b ∈ S
  · rw [cutS_in q, cutS_in q]
  · rw [cutS_out q, cutS_out q, upd_ne (fun e => q (by rw [e]; exact h))]
/-- a new object -/
theorem _root_.L2.Same.upd {H : Hp} {p : Addr} {o : HO} (h : H p = none) : Same H (upd H p o) := fun b x e => by
  rw [upd_ne (ne_of_none e h)]
  exact e
theorem _root_.L2.Same.mut {H H' : Hp} {p : Addr} {o : HO} (e : Same H H') (h : H p = none) : Same H (L2.upd H' p o) := fun a u ha => by
  rw [upd_ne (ne_of_none ha h)]
  exact e a u ha
def Trk (S : List Addr) (H : Hp) : Prop := ∀ a ∈ S, H a ≠ none
theorem Trk.nil {H : Hp} : Trk [] H := fun _ h => absurd h List.not_mem_nil
theorem Trk.mono {S : List Addr} {H H' : Hp} (t : Trk S H) (e : Same H H') : Trk S H' := fun a ha z => by
  cases q : H a with
  | none => exact t a ha q
  | some o =>
    rw [e a o q] at z
    cases z
theorem Trk.upd {S : List Addr} {H : Hp} {p : Addr} {o : HO} (t : Trk S H) : Trk S (L2.upd H p o) := fun a ha z => by
  by_cases e : a = p
  · rw [e, upd_same] at z
    cases z
  · rw [upd_ne e] at z
    exact t a ha z
theorem Trk.cons {S : List Addr} {H : Hp} {p : Addr} {o : HO} (t : Trk S H) (h : H p = some o) : Trk (p :: S) H := fun a ha z => by
  rcases List.mem_cons.mp ha with e | e
  · rw [e, h] at z
    cases z
  · exact t a e z
theorem Trk.out {S : List Addr} {H : Hp} {p : Addr} (t : Trk S H) (h : H p = none) : p ∉ S := fun z => t p z h
/-- a new object beside the cut -/
theorem cutS_new {S : List Addr} {H : Hp} {p : Addr} {o : HO} (t : Trk S H) (h : H p = none) : cutS S (L2.upd H p o) p = some o := by
  rw [cutS_out (t.out h), upd_same]
theorem cutS_none {S : List Addr} {H : Hp} {p : Addr} (h : H p = none) : cutS S H p = none := by
  by_cases q : p ∈ S
  · exact cutS_in q
  · rw [cutS_out q, h]
/-- a new object that will change goes into the cut -/
theorem cutS_cons {S : List Addr} {H : Hp} {p : Addr} {o : HO} (h : H p = none) : Same (cutS S H) (cutS (p :: S) (L2.upd H p o)) := fun b u q => by
  obtain ⟨h1, h2⟩ := cutS_some q
  have hb : b ≠ p := ne_of_none h2 h
  rw [cutS_out (fun z => by
    rcases List.mem_cons.mp z with e | e
    · exact hb e
    · exact h1 e), upd_ne hb]
  exact h2
theorem cutS_tail {S : List Addr} {H : Hp} {p : Addr} : Same (cutS (p :: S) H) (cutS S H) := cutS_sub fun _ h => List.mem_cons_of_mem _ h
/-! ### lists and tuples alike (f: a tuple) -/
def SqF (f : Bool) (K : PySem.W.Frag) (H : Hp) (a : Addr) (xs : List V) : Prop := if f = true then SqT K H a xs else SqL K H a xs
def seqO (f : Bool) (xs : List V) : HO := if f = true then .tup xs else .lst xs
def seqD (f : Bool) (ds : List PyData) : PyData := if f = true then .tuple ds else .list ds
theorem _root_.L2.Same.sqL {K : PySem.W.Frag} {H H' : Hp} {a : Addr} {xs : List V} (e : Same H H') (h : SqL K H a xs) : SqL K H' a xs := by
  rcases h with (h | ⟨o, h⟩) | h
  · exact .inl (.inl (e _ _ h))
  · exact .inl (.inr ⟨o, e _ _ h⟩)
  · exact .inr h
theorem _root_.L2.Same.sqT {K : PySem.W.Frag} {H H' : Hp} {a : Addr} {xs : List V} (e : Same H H') (h : SqT K H a xs) : SqT K H' a xs := by
  rcases h with (h | ⟨o, h⟩) | h
  · exact .inl (.inl (e _ _ h))
  · exact .inl (.inr ⟨o, e _ _ h⟩)
  · exact .inr h
theorem _root_.L2.Same.sqF {f : Bool} {K : PySem.W.Frag} {H H' : Hp} {a : Addr} {xs : List V} (e : Same H H') (h : SqF f K H a xs) : SqF f K H' a xs := by
  cases f with
  | true => exact e.sqT h
  | false => exact e.sqL h
theorem SqF.or {f : Bool} {K : PySem.W.Frag} {H : Hp} {a : Addr} {xs : List V} (h : SqF f K H a xs) : SqL K H a xs ∨ SqT K H a xs := by
  cases f with
  | true => exact .inr h
  | false => exact .inl h
theorem SqF.of {f : Bool} {K : PySem.W.Frag} {H : Hp} {a : Addr} {xs : List V} (h : H a = some (seqO f xs)) : SqF f K H a xs := by
  cases f with
  | true => exact .inl (.inl h)
  | false => exact .inl (.inl h)
theorem sql_of {K : PySem.W.Frag} {H : Hp} {a : Addr} {xs : List V} (h : H a = some (.lst xs)) : SqL K H a xs := .inl (.inl h)
theorem sqt_of {K : PySem.W.Frag} {H : Hp} {a : Addr} {xs : List V} (h : H a = some (.tup xs)) : SqT K H a xs := .inl (.inl h)
/-! ### data -/
section
variable {K : PySem.W.Frag} {H H' : Hp}
mutual
theorem dp_mono (e : Same H H') : ∀ (d : PyData) (v : V), Dp K H v d → Dp K H' v d
  | .none, _, h => by cases h; exact .non
  | .bool b, _, h => by cases h; exact .bl b
  | .int i, _, h => by cases h; exact .int i
  | .str x, _, h => by cases h; exact .str x
  | .list ds, _, h => by
    cases h with
    | lst hs ha => exact .lst (e.sqL hs) (dpa_mono e ds _ ha)
  | .tuple ds, _, h => by
    cases h with
    | tup hs ha => exact .tup (e.sqT hs) (dpa_mono e ds _ ha)
  | .dict _, _, h => by cases h
theorem dpa_mono (e : Same H H') : ∀ (ds : List PyData) (vs : List V), DpAll K H vs ds → DpAll K H' vs ds
  | [], _, h => by cases h; exact .nil
  | d :: ds, _, h => by
    cases h with
    | cons h1 h2 => exact .cons (dp_mono e d _ h1) (dpa_mono e ds _ h2)
end
theorem _root_.L2.Same.dp (e : Same H H') {v : V} {d : PyData} (h : Dp K H v d) : Dp K H' v d := dp_mono e d v h
theorem _root_.L2.Same.dpa (e : Same H H') {vs : List V} {ds : List PyData} (h : DpAll K H vs ds) : DpAll K H' vs ds := dpa_mono e ds vs h
theorem dpa_len : ∀ {vs : List V} {ds : List PyData}, DpAll K H vs ds → vs.length = ds.length
  | _, _, .nil => rfl
  | _, _, .cons _ h => by rw [List.length_cons, List.length_cons, dpa_len h]
theorem dpa_get : ∀ {vs : List V} {ds : List PyData} {i : Nat} {v : V}, DpAll K H vs ds → vs[i]? = some v → ∃ d, ds[i]? = some d ∧ Dp K H v d
  | _, _, _, _, .nil, h => by simp at h
  | _, _, 0, v, .cons h1 h2, h => by
    simp at h
    subst h
    exact ⟨_, rfl, h1⟩
  | _, _, i + 1, v, .cons h1 h2, h => by
    obtain ⟨d, e1, e2⟩ := dpa_get (i := i) h2 (by simpa using h)
    exact ⟨d, by simpa using e1, e2⟩
theorem dpa_get' : ∀ {vs : List V} {ds : List PyData} {i : Nat} {d : PyData}, DpAll K H vs ds → ds[i]? = some d → ∃ v, vs[i]? = some v ∧ Dp K H v d
  | _, _, _, _, .nil, h => by simp at h
  | _, _, 0, v, .cons h1 h2, h => by
    simp at h
    subst h
    exact ⟨_, rfl, h1⟩
  | _, _, i + 1, v, .cons h1 h2, h => by
    obtain ⟨d, e1, e2⟩ := dpa_get' (i := i) h2 (by simpa using h)
    exact ⟨d, by simpa using e1, e2⟩
theorem dpa_app : ∀ {vs ws : List V} {ds es : List PyData}, DpAll K H vs ds → DpAll K H ws es → DpAll K H (vs ++ ws) (ds ++ es)
  | _, _, _, _, .nil, h => h
  | _, _, _, _, .cons h1 h2, h => .cons h1 (dpa_app h2 h)
theorem dpa_one {v : V} {d : PyData} (h : Dp K H v d) : DpAll K H [v] [d] := .cons h .nil
theorem Dp.seq {f : Bool} {a : Addr} {xs : List V} {ds : List PyData} (h : SqF f K H a xs) (ha : DpAll K H xs ds) : Dp K H (.ref a) (seqD f ds) := by
  cases f with
  | true => exact .tup h ha
  | false => exact .lst h ha
theorem Dp.seq_of {f : Bool} {v : V} {ds : List PyData} (h : Dp K H v (seqD f ds)) : ∃ a xs, v = .ref a ∧ SqF f K H a xs ∧ DpAll K H xs ds := by
  cases f with
  | true =>
    have h : Dp K H v (.tuple ds) := h
    cases h with
    | tup hs ha => exact ⟨_, _, rfl, hs, ha⟩
  | false =>
    have h : Dp K H v (.list ds) := h
    cases h with
    | lst hs ha => exact ⟨_, _, rfl, hs, ha⟩
theorem dpa_strs : ∀ {xs : List Str}, DpAll K H (xs.map V.str) (xs.map PyData.str)
  | [] => .nil
  | x :: xs => .cons (.str x) dpa_strs
theorem dpa_strs_of : ∀ {vs : List V} {xs : List Str}, DpAll K H vs (xs.map PyData.str) → vs = xs.map V.str
  | _, [], .nil => rfl
  | _, x :: xs, .cons h1 h2 => by
    cases h1
    rw [dpa_strs_of h2]
    rfl
end
/-! ### what is walked, indexed: a list or a tuple -/
section
variable {X : Cx}
theorem pi_or {tg l : Expr} {w1 w2 : TI} (h1 : PI X tg l w1) (h2 : PI X tg l w2) : PI X tg l (fun σ H R => w1 σ H R ∨ w2 σ H R) := ⟨fun pins s σ H R I h => by
  rcases h with h | h
  · exact h1.run pins s σ H R I h
  · exact h2.run pins s σ H R I h⟩
def iSeq (K : PySem.W.Frag) (tl : TE) : TI := fun σ H R => iList K tl σ H R ∨ iTup K tl σ H R
theorem pi_seq {tg l : Expr} {tl : TE} (hl : PE X l tl) : PI X tg l (iSeq X.K tl) := pi_or (pi_list hl) (pi_tup hl)
theorem iSeq_at {K : PySem.W.Frag} {tl : TE} {σ : L2.St} {H H1 : Hp} {R : It → Hp → Prop} {a : Addr} {f : Bool} {xs : List V} (ht : ∀ R' : VK, R' (.ref a) H1 → tl σ H R') (hs : SqF f K H1 a xs)
    (q : ∀ J, Walk J xs.length (fun H => SqF f K H a xs) (YAt xs) → R J H1) : iSeq K tl σ H R := by
  cases f with
  | false => exact .inl (ht _ ⟨a, rfl, ⟨xs, hs⟩, q _ walk_list⟩)
  | true => exact .inr (ht _ ⟨a, rfl, ⟨xs, hs⟩, q _ walk_tup⟩)
def rIxF (K : PySem.W.Frag) : R2 := fun x y H Q => rIxL K x y H Q ∨ rIxT K x y H Q
theorem ix_lt : IxR X (rIxF X.K) := ix_list.or ix_tup
theorem rIxF_at {K : PySem.W.Frag} {f : Bool} {p : Addr} {xs : List V} {i : Int} {v : V} {H : Hp} {Q : VK} (h : SqF f K H p xs) (ha : atI xs i = some v) (q : Q v H) : rIxF K (.ref p) (.int i) H Q := by
  cases f with
  | false => exact .inl ⟨p, xs, i, v, rfl, rfl, h, ha, q⟩
  | true => exact .inr ⟨p, xs, i, v, rfl, rfl, h, ha, q⟩
theorem walk_zipTT {K : PySem.W.Frag} {a b : Addr} {xs ys : List V} (e : xs.length = ys.length) : Walk (RZ.ItzT K a b) xs.length (fun H => SqT K H a xs ∧ SqT K H b ys) (YPair (fun i => xs[i]?) (fun i => ys[i]?)) := by
  refine ⟨fun i _ hi q => ?_, fun _ q => ⟨xs, ys, q.1, q.2, .inl (Nat.le_refl _)⟩, fun i H v H' _ q y => ?_⟩
  · have h2 : i < ys.length := by omega
    exact ⟨xs, ys, xs[i], ys[i], q.1, q.2, by simp [hi], by simp [h2]⟩
  · obtain ⟨T, x, z, h1, h2, h3, h4, h5⟩ := y
    exact ⟨T, x, z, h1, h2, h3, h4 xs q.1, h5 ys q.2⟩
theorem iZip_at {K : PySem.W.Frag} {ta : TA} {σ : L2.St} {H H1 : Hp} {R : It → Hp → Prop} {a b : Addr} {f : Bool} {xs ys : List V} (ht : ∀ R' : List V → Hp → Prop, R' [.ref a, .ref b] H1 → ta σ H R') (h1 : SqF f K H1 a xs) (h2 : SqF f K H1 b ys) (el : xs.length = ys.length)
    (q : ∀ J, Walk J xs.length (fun H => SqF f K H a xs ∧ SqF f K H b ys) (YPair (fun i => xs[i]?) (fun i => ys[i]?)) → R J H1) : RZ.iZipA K ta σ H R := by
  refine ht _ ⟨a, b, xs, ys, rfl, ?_⟩
  cases f with
  | false => exact .inl ⟨h1, h2, q _ (walk_zip (by omega))⟩
  | true => exact .inr ⟨h1, h2, q _ (walk_zipTT el)⟩
/-! ### a loop, a comprehension by a walk -/
inductive ForP (wi : TI) (g : TG) (tb : TS) (D : Ends) (σ : L2.St) (H : Hp) : Prop
  | yes (h : tFor wi g tb D σ H)
  | no (h : False)
def tForX (wi : TI) (g : TG) (tb : TS) : TS := fun D σ H => ForP wi g tb D σ H
theorem ps_forX {st : Stmt} {wi : TI} {g : TG} {tb : TS} (h : PS X st (tFor wi g tb)) : PS X st (tForX wi g tb) := ⟨fun pins s σ H D I q => by
  cases q with
  | yes q => exact h.run pins s σ H D I q
  | no q => exact q.elim⟩
theorem for_of {wi : TI} {g : TG} {tb : TS} {D : Ends} {σ : L2.St} {H : Hp} (q : wi σ H fun J H1 => tFor (fun _ _ R => R J H1) g tb D σ H1) : tForX wi g tb D σ H := .yes q
inductive WhP (t : TT) (tb : TS) (D : Ends) (σ : L2.St) (H : Hp) : Prop
  | yes (h : tWhile t tb D σ H)
  | no (h : False)
def tWhileX (t : TT) (tb : TS) : TS := fun D σ H => WhP t tb D σ H
theorem ps_whileX {st : Stmt} {t : TT} {tb : TS} (h : PS X st (tWhile t tb)) : PS X st (tWhileX t tb) := ⟨fun pins s σ H D I q => by
  cases q with
  | yes q => exact h.run pins s σ H D I q
  | no q => exact q.elim⟩
inductive LcP (wi : TI) (g : TG) (tt : TT) (te : TE) (vs : List Nat) (σ : L2.St) (H : Hp) (Q : VK) : Prop
  | yes (h : tLc wi g tt te vs σ H Q)
  | no (h : False)
def tLcX (wi : TI) (g : TG) (tt : TT) (te : TE) (vs : List Nat) : TE := fun σ H Q => LcP wi g tt te vs σ H Q
theorem pe_lcX {e : Expr} {wi : TI} {g : TG} {tt : TT} {te : TE} {vs : List Nat} (h : PE X e (tLc wi g tt te vs)) : PE X e (tLcX wi g tt te vs) := ⟨fun pins s σ H Q I q => by
  cases q with
  | yes q => exact h.run pins s σ H Q I q
  | no q => exact q.elim⟩
theorem lc_of {wi : TI} {g : TG} {tt : TT} {te : TE} {vs : List Nat} {σ : L2.St} {H : Hp} {Q : VK} (q : tLc wi g tt te vs σ H Q) : tLcX wi g tt te vs σ H Q := .yes q
theorem ps_setLcX {st : Stmt} {i : Nat} {wi : TI} {g : TG} {tt : TT} {te : TE} {vs : List Nat} (h : PS X st (tAsg (tLc wi g tt te vs) (gName i))) : PS X st (tAsg (tLcX wi g tt te vs) (gName i)) := ⟨fun pins s σ H D I q => by
  have q : LcP wi g tt te vs σ H (fun x H1 => gName i x σ H1 D.nx) := q
  cases q with
  | yes q => exact h.run pins s σ H D I q
  | no q => exact q.elim⟩
theorem forR_it {J : It} {n : Nat} {G : Hp → Prop} {Y : Nat → Hp → V → Hp → Prop} (w : Walk J n G Y) {g : TG} {tb : TS} {D : Ends} {σ : L2.St} {H : Hp} (Pv : Nat → L2.St → Hp → Prop) (h0 : Pv 0 σ H) (hG : ∀ i σ H, i ≤ n → Pv i σ H → G H)
    (hs : ∀ i x σ H H', i < n → Pv i σ H → Y i H x H' → g x σ H' fun σ2 H2 => tb { D with nx := Pv (i + 1), ct := Pv (i + 1), bk := D.nx } σ2 H2) (hd : ∀ σ H, Pv n σ H → D.nx σ H) : tFor (fun _ _ R => R J H) g tb D σ H := for_it w Pv h0 hG hs hd
/-! ### isinstance -/
theorem tyx_list {K : PySem.W.Frag} {H : Hp} {a : Addr} {xs : List V} (h : SqL K H a xs) : TyX K H (.ref a) (.type "list") := by
  rcases h with (h | ⟨o, h⟩) | ⟨o, its, n, h, hc, _⟩
  · exact .base (.lst h)
  · exact .base (.frz h)
  · exact .kList h hc
theorem tyx_tup {K : PySem.W.Frag} {H : Hp} {a : Addr} {xs : List V} (h : SqT K H a xs) : TyX K H (.ref a) (.type "tuple") := by
  rcases h with (h | ⟨o, h⟩) | ⟨o, its, n, h, hc, _⟩
  · exact .base (.tup h)
  · exact .fTuple h
  · exact .kTuple h hc
def tyD : PyData → String
  | .none => "NoneType"
  | .bool _ => "bool"
  | .int _ => "int"
  | .str _ => "str"
  | .list _ => "list"
  | .tuple _ => "tuple"
  | .dict _ => "dict"
theorem tyx_dp {K : PySem.W.Frag} {H : Hp} {v : V} {d : PyData} (h : Dp K H v d) : TyX K H v (.type (tyD d)) := by
  cases h with
  | non => exact .base .non
  | bl b => exact .base (.bl b)
  | int i => exact .base (.int i)
  | str x => exact .base (.str x)
  | lst hs _ => exact tyx_list hs
  | tup hs _ => exact tyx_tup hs
/-- isinstance(x, (A, B)) of data -/
theorem isi2 {K : PySem.W.Frag} {H : Hp} {Q : VK} {v : V} {d : PyData} {p : Addr} {A B : String} {r : Bool} (h : Dp K H v d) (hp : H p = some (.tup [.ty A, .ty B])) (hk : ∀ t, t = tyD d → PySem.W.kitAny K (.type t) [.type A, .type B] = some r) (q : Q (.bl r) H) :
    rIsiT K [v, .ref p] H Q := ⟨v, p, _, _, _, r, rfl, hp, .cons (.ty _) (.cons (.ty _) .nil), tyx_dp h, hk _ rfl, q⟩
theorem isi1 {K : PySem.W.Frag} {H : Hp} {Q : VK} {v : V} {d : PyData} {A : String} {r : Bool} (h : Dp K H v d) (hk : ∀ t, t = tyD d → PySem.W.kitOne K (.type t) (.type A) = some r) (q : Q (.bl r) H) :
    rIsi K [v, .ty A] H Q := ⟨v, _, _, _, r, rfl, .ty _, tyx_dp h, hk _ rfl, q⟩
end
end Jl

set_option Elab.async false
set_option linter.all false
set_option maxRecDepth 100000
set_option maxHeartbeats 4000000
set_option pp.maxSteps 900
namespace Jl
open PySem PySem.Spec PyProof.Rows L2
open Evl (sz_of sz_lt)
local macro_rules | `(tactic| walk_at "at") => `(tactic| first | exact box0 | exact box1 | exact box2)
local macro_rules | `(tactic| walk_at "side") => `(tactic| first
  | (show (0 : Int) < _; decide)
  | (show (0 : Int) < _; omega)
  | exact ⟨by decide, by decide, by decide⟩
  | exact sz_of (Nat.le_of_ble_eq_true rfl)
  | exact rfl
  | exact Or.inl (by decide)
  | exact Or.inr (by decide)
  | exact Or.inr ⟨by omega, by omega⟩
  | exact Or.inl ⟨by omega, by omega⟩
  | exact ⟨by decide, by decide +kernel⟩)
local macro_rules | `(tactic| walk_at "ev1") => `(tactic| first
  | refine ⟨_, rfl, ?_⟩
  | refine ⟨_, _, rfl, rfl, ?_⟩
  | refine ⟨_, _, _, _, rfl, rfl, (by assumption), (by walk_at "at"), ?_⟩
  | refine Or.inl ⟨_, rfl, ?_⟩
  | refine Or.inr ⟨_, rfl, ?_⟩
  | refine ⟨(by walk_at "side"), ?_⟩)
local macro_rules | `(tactic| walk_at "ev") => `(tactic| repeat (walk_at "ev1"))

abbrev sc_w_lists_N : List Str := ["_law_matter", "_law_bit"]
abbrev s_w_lists : Stmt := topS 18
theorem sc_w_lists : FnScope ["_law_matter", "_law_bit"] ["_law_matter"] (defScope s_w_lists) := ⟨rfl, rfl, rfl, by decide +kernel, rfl, by decide +kernel, by decide +kernel⟩
theorem szL {n : Nat} (h : n < 4000001) : n < sizeLine := Nat.lt_of_lt_of_le h (by decide)
/-! ### data of bounded depth and width -/
def okD : Nat → PyData → Prop
  | 0, _ => False
  | n + 1, .list ds => ds.length ≤ 4000000 ∧ ∀ d ∈ ds, okD n d
  | n + 1, .tuple ds => ds.length ≤ 4000000 ∧ ∀ d ∈ ds, okD n d
  | _ + 1, .dict _ => False
  | _ + 1, _ => True
theorem okD_seq {n : Nat} {f : Bool} {ds : List PyData} : okD (n + 1) (seqD f ds) ↔ ds.length ≤ 4000000 ∧ ∀ d ∈ ds, okD n d := by
  cases f <;> exact Iff.rfl
mutual
def listsD : PyData → PyData
  | .list ds => .list (listsA ds)
  | .tuple ds => .list (listsA ds)
  | .none => .none
  | .bool b => .bool b
  | .int i => .int i
  | .str x => .str x
  | .dict k => .dict k
def listsA : List PyData → List PyData
  | [] => []
  | d :: ds => listsD d :: listsA ds
end
theorem listsA_map : ∀ ds : List PyData, listsA ds = ds.map listsD
  | [] => rfl
  | d :: ds => by
    show listsD d :: listsA ds = listsD d :: ds.map listsD
    rw [listsA_map ds]
theorem listsD_seq {f : Bool} {ds : List PyData} : listsD (seqD f ds) = .list (ds.map listsD) := by
  cases f
  · show PyData.list (listsA ds) = _
    rw [listsA_map]
  · show PyData.list (listsA ds) = _
    rw [listsA_map]
theorem fnok_no {P : Program} {w : World} {K : PySem.W.Frag} {mg : Str → Option Value} {base : Heap} {CX : CXT} {k : Nat} {f : Addr} {fd : FuncData} {ps : List Str} : FnOk P w K mg base CX k f fd ps (fun _ _ _ _ => False) := ⟨fun _ _ _ _ h => h.elim, fun _ _ _ _ _ _ _ _ _ _ _ _ _ h => h.elim⟩
/-- an atom, or a row -/
theorem dp_cases {K : PySem.W.Frag} {H : Hp} {v : V} {d : PyData} (h : Dp K H v d) : (∃ f ds, d = seqD f ds) ∨ (PySem.W.kitAny K (.type (tyD d)) [.type "list", .type "tuple"] = some false ∧ listsD d = d) := by
  have no : ∀ s : String, kitB s "list" = some false → kitB s "tuple" = some false → PySem.W.kitAny K (.type s) [.type "list", .type "tuple"] = some false := fun s h1 h2 =>
    kitAny_cons (kit_ty h1) (fun _ => kitAny_cons (kit_ty h2) (fun _ => kitAny_nil) (fun z => nomatch z)) (fun z => nomatch z)
  cases h with
  | non => exact .inr ⟨no "NoneType" (by decide +kernel) (by decide +kernel), rfl⟩
  | bl b => exact .inr ⟨no "bool" (by decide +kernel) (by decide +kernel), rfl⟩
  | int i => exact .inr ⟨no "int" (by decide +kernel) (by decide +kernel), rfl⟩
  | str x => exact .inr ⟨no "str" (by decide +kernel) (by decide +kernel), rfl⟩
  | @lst a xs ds hs _ => exact .inl ⟨false, ds, rfl⟩
  | @tup a xs ds hs _ => exact .inl ⟨true, ds, rfl⟩
theorem kit_seq {K : PySem.W.Frag} {fb : Bool} {ds : List PyData} : PySem.W.kitAny K (.type (tyD (seqD fb ds))) [.type "list", .type "tuple"] = some true := by
  have h1 : PySem.W.kitAny K (.type "list") [.type "list", .type "tuple"] = some true := kitAny_cons (b := true) (kit_ty (by decide +kernel)) (fun z => nomatch z) (fun _ => rfl)
  have h2 : PySem.W.kitAny K (.type "tuple") [.type "list", .type "tuple"] = some true := kitAny_cons (b := false) (kit_ty (by decide +kernel)) (fun _ => kitAny_cons (b := true) (kit_ty (by decide +kernel)) (fun z => nomatch z) (fun _ => rfl)) (fun z => nomatch z)
  cases fb with
  | false => exact h1
  | true => exact h2
/-- a place that was free goes into the cut -/
theorem cutS_into {S : List Addr} {H H' : Hp} {p : Addr} (e : Same H H') (h : H p = none) : Same (cutS S H) (cutS (p :: S) H') := fun b o hb => by
  obtain ⟨h1, h2⟩ := cutS_some hb
  have nb : b ≠ p := ne_of_none h2 h
  rw [cutS_out (fun z => by
    rcases List.mem_cons.mp z with z | z
    · exact nb z
    · exact h1 z)]
  exact e b o h2
/-- a comprehension over data, its element told by a function of data -/
theorem lc_data {K : PySem.W.Frag} {tl te : TE} {j : Nat} {vs : List Nat} {σ : L2.St} {H H0 : Hp} {Q : VK} {a : Addr} {fb : Bool} {xs : List V} {ds : List PyData} {S : List Addr} (g : PyData → PyData)
    (ht : ∀ R' : VK, R' (.ref a) H0 → tl σ H R') (hs : SqF fb K H0 a xs) (ha : DpAll K (cutS S H0) xs ds) (hT : Trk S H0) (hl : ds.length ≤ 4000000)
    (hw : ∀ x, wipe ((wipe σ vs).set j (some x)) vs = wipe σ vs)
    (he : ∀ (x : V) (d : PyData) (H1 : Hp) (T : List Addr), d ∈ ds → Trk T H1 → Dp K (cutS T H1) x d → ∀ Q' : VK, (∀ H2 y, Same H1 H2 → Dp K (cutS T H2) y (g d) → Q' y H2) → te ((wipe σ vs).set j (some x)) H1 Q')
    (q : ∀ D ys H', Same H0 H' → H0 D = none → H' D = some (.lst ys) → DpAll K (cutS S H') ys (ds.map g) → Q (.ref D) H') : tLcX (iSeq K tl) (gName j) tYes te vs σ H Q := by
  have ll := dpa_len ha
  refine lc_of ?_
  refine iSeq_at ht hs fun J w D hD => ?_
  refine lc_it w (fun i H1 => ∃ ys, Same H0 H1 ∧ H1 D = some (.lst ys) ∧ DpAll K (cutS (D :: S) H1) ys ((ds.take i).map g)) ⟨[], .upd hD, upd_same, .nil⟩ (fun i H1 _ p => ?_) (fun i x H1 H1' hi p y => ?_) (fun H1 p => ?_)
  · obtain ⟨ys, e1, _⟩ := p
    exact e1.sqF hs
  · obtain ⟨ys, e1, e2, e3⟩ := p
    obtain ⟨rfl, hx⟩ := y
    obtain ⟨d, hd, hxd⟩ := dpa_get ha hx
    refine ⟨hw x, ?_⟩
    dsimp only [tYes]
    rw [if_pos rfl]
    have s3 : Same (cutS S H0) (cutS (D :: S) H1') := cutS_into e1 hD
    have hxd1 : Dp K (cutS (D :: S) H1') x d := s3.dp hxd
    refine he x d H1' (D :: S) (List.mem_of_getElem? hd) ((hT.mono e1).cons e2) hxd1 _ fun H2 y s2 hy => ?_
    refine ⟨ys, s2 _ _ e2, ?_, ys ++ [y], ?_, upd_same, ?_⟩
    · have := dpa_len e3
      rw [this, List.length_map, List.length_take]
      exact szL (by omega)
    · exact (e1.trans s2).mut hD
    · rw [cutS_upd List.mem_cons_self, List.take_add_one, hd, List.map_append]
      exact dpa_app ((cutS_mono s2).dpa e3) (dpa_one hy)
  · obtain ⟨ys, e1, e2, e3⟩ := p
    refine q D ys H1 e1 hD e2 ?_
    have e4 : (ds.take xs.length).map g = ds.map g := by rw [List.take_of_length_le (by omega)]
    rw [e4] at e3
    exact cutS_tail.dpa e3
section
variable {P : Program} {w : World} {K : PySem.W.Frag} {mg : Str → Option Value} {base : Heap}
/-- _law_lists(matter): the same with lists for tuples, new -/
def spLists (K : PySem.W.Frag) : Nat → Sp
  | 0 => fun _ _ _ _ => False
  | n + 1 => fun vs H Q _ => ∃ (v : V) (d : PyData) (S : List Addr), vs = [v] ∧ Trk S H ∧ Dp K (cutS S H) v d ∧ okD (n + 1) d ∧ ∀ H' y, Same H H' → Dp K (cutS S H') y (listsD d) → Q y H'
theorem ok_lists {f : Addr} {fd : FuncData} (F_w_lists : Fun K "_law_lists" "_law_lists" s_w_lists f fd) (g_w_lists : mg "_law_lists" = some (.ref f)) (b_w_lists : Binds K fd ["_law_matter"] []) (m_isinstance : mg "isinstance" = none) (m_list : mg "list" = none) (m_tuple : mg "tuple" = none) :
    ∀ n : Nat, FnOk P w K mg base CX0 n f fd ["_law_matter"] (spLists K n)
  | 0 => fnok_no
  | n + 1 => by
    have G_w_lists := ok_lists F_w_lists g_w_lists b_w_lists m_isinstance m_list m_tuple n
    refine F_w_lists.ok sc_w_lists (fun vs H Q E h => ?_) (fun cdv A outer s H vs Q E hr h => ?_)
    · obtain ⟨v, d, S, rfl, _⟩ := h
      rfl
    · obtain ⟨v, d, S, rfl, hT, hD, hk, q⟩ := h
      refine ⟨_, (pss_one (ps_ret (pe_ifExp (pt_val (pe_callB call_isiT (by rfl) m_isinstance (by decide +kernel) (pa_cons (pv 0) (pa_cons (pe_tup (pa_cons (pe_bltn (v := .ty "list") (u := .type "list") (by rfl) m_list (by decide +kernel) rfl) (pa_cons (pe_bltn (v := .ty "tuple") (u := .type "tuple") (by rfl) m_tuple (by decide +kernel) rfl) pa_nil))) pa_nil)))) (pe_lcX (pe_lc (own := [("_law_bit", 1)]) (g := gName 1) (tt := tYes) (by rfl) sc_w_lists.nd (pi_seq (pv 0)) (blkOk_by (own := [("_law_bit", 1)]) (N := sc_w_lists_N) (sc := defScope s_w_lists) (by decide +kernel)) (fun _ _ _ _ _ => pg_name (i := 1) sc_w_lists.nd rfl (Or.inl rfl)) (fun _ _ _ _ _ => pts_nil) (fun _ _ _ _ _ => (pe_call G_w_lists hr (by rfl) g_w_lists F_w_lists.kp b_w_lists .nil pass0 (pa_cons (pv 1) pa_nil))))) (pv 0)))), ?_⟩
      walk_at "ev"
      intro p hp
      have e1 : Same H (upd H p (.tup [.ty "list", .ty "tuple"])) := .upd hp
      have hp1 : (upd H p (.tup [.ty "list", .ty "tuple"])) p = some (.tup [.ty "list", .ty "tuple"]) := upd_same
      dsimp only [tNil]
      rcases dp_cases hD with ⟨fb, ds, rfl⟩ | ⟨hk0, hl⟩
      · refine isi2 (e1.dp (cutS_le.dp hD)) hp1 (fun t e => by rw [e]; exact kit_seq) ?_
        refine ⟨_, rfl, iteT ?_⟩
        obtain ⟨a, xs, rfl, hs, ha⟩ := Dp.seq_of hD
        obtain ⟨hk1, hk2⟩ := okD_seq.mp hk
        refine lc_data (S := S) listsD (fun R' r => ⟨_, rfl, r⟩) (e1.sqF (cutS_le.sqF hs)) ((cutS_mono e1).dpa ha) (hT.mono e1) hk1 (fun x => rfl) (fun x d H1 T hd t1 hx Q' q' => ?_) (fun D ys H' s1 hD h2 h3 => ?_)
        · cases n with
          | zero => exact (hk2 d hd).elim
          | succ n => exact ⟨_, rfl, x, d, T, rfl, t1, hx, hk2 d hd, fun H2 y s2 hy => q' H2 y s2 hy⟩
        · refine q H' _ (e1.trans s1) ?_
          rw [listsD_seq]
          exact .lst (.inl (.inl (by rw [cutS_out ((hT.mono e1).out hD)]; exact h2))) h3
      · refine isi2 (e1.dp (cutS_le.dp hD)) hp1 (fun t e => by rw [e]; exact hk0) ?_
        refine ⟨_, rfl, iteF ?_⟩
        refine ⟨_, rfl, ?_⟩
        refine q _ _ e1 ?_
        rw [hl]
        exact (cutS_mono e1).dp hD
end
end Jl

set_option Elab.async false
set_option linter.all false
set_option maxRecDepth 100000
set_option maxHeartbeats 4000000
set_option pp.maxSteps 900
namespace Jl
open PySem PySem.Spec PyProof.Rows L2
open Evl (sz_of sz_lt)
local macro_rules | `(tactic| walk_at "at") => `(tactic| first | exact box0 | exact box1 | exact box2)
local macro_rules | `(tactic| walk_at "side") => `(tactic| first
  | (show (0 : Int) < _; decide)
  | (show (0 : Int) < _; omega)
  | exact ⟨by decide, by decide, by decide⟩
  | exact sz_of (Nat.le_of_ble_eq_true rfl)
  | exact rfl
  | exact Or.inl (by decide)
  | exact Or.inr (by decide)
  | exact Or.inr ⟨by omega, by omega⟩
  | exact Or.inl ⟨by omega, by omega⟩
  | exact ⟨by decide, by decide +kernel⟩)
local macro_rules | `(tactic| walk_at "ev1") => `(tactic| first
  | refine ⟨_, rfl, ?_⟩
  | refine ⟨_, _, rfl, rfl, ?_⟩
  | refine ⟨_, _, _, _, rfl, rfl, (by assumption), (by walk_at "at"), ?_⟩
  | refine Or.inl ⟨_, rfl, ?_⟩
  | refine Or.inr ⟨_, rfl, ?_⟩
  | refine ⟨(by walk_at "side"), ?_⟩)
local macro_rules | `(tactic| walk_at "nrm") => `(tactic| dsimp only [tNil, tCons, tC, tCB])
local macro_rules | `(tactic| walk_at "ev") => `(tactic| repeat (walk_at "ev1"))

abbrev sc_w_same_N : List Str := ["_law_got", "_law_due", "_law_mine", "_law_its"]
abbrev s_w_same : Stmt := topS 19
theorem sc_w_same : FnScope ["_law_got", "_law_due", "_law_mine", "_law_its"] ["_law_got", "_law_due"] (defScope s_w_same) := ⟨rfl, rfl, rfl, by decide +kernel, rfl, by decide +kernel, by decide +kernel⟩
theorem kit_list {K : PySem.W.Frag} {fb : Bool} {ds : List PyData} : PySem.W.kitOne K (.type (tyD (seqD fb ds))) (.type "list") = some (!fb) := by
  have h1 : PySem.W.kitOne K (.type "list") (.type "list") = some true := kit_ty (by decide +kernel)
  have h2 : PySem.W.kitOne K (.type "tuple") (.type "list") = some false := kit_ty (by decide +kernel)
  cases fb with
  | false => exact h1
  | true => exact h2
theorem kit_tup {K : PySem.W.Frag} {fb : Bool} {ds : List PyData} : PySem.W.kitOne K (.type (tyD (seqD fb ds))) (.type "tuple") = some fb := by
  have h1 : PySem.W.kitOne K (.type "list") (.type "tuple") = some false := kit_ty (by decide +kernel)
  have h2 : PySem.W.kitOne K (.type "tuple") (.type "tuple") = some true := kit_ty (by decide +kernel)
  cases fb with
  | false => exact h1
  | true => exact h2
section
variable {P : Program} {w : World} {K : PySem.W.Frag} {mg : Str → Option Value} {base : Heap}
/-- _law_same(got, due) of equal data -/
def spSame (K : PySem.W.Frag) : Nat → Sp
  | 0 => fun _ _ _ _ => False
  | n + 1 => fun vs H Q _ => ∃ (x y : V) (d : PyData), vs = [x, y] ∧ Dp K H x d ∧ Dp K H y d ∧ okD (n + 1) d ∧ ∀ H', Same H H' → Q (.bl true) H'
theorem ok_same {f : Addr} {fd : FuncData} (F_w_same : Fun K "_law_same" "_law_same" s_w_same f fd) (g_w_same : mg "_law_same" = some (.ref f)) (b_w_same : Binds K fd ["_law_got", "_law_due"] []) (m_isinstance : mg "isinstance" = none) (m_list : mg "list" = none) (m_tuple : mg "tuple" = none)
    (m_bool : mg "bool" = none) (m_str : mg "str" = none) (m_int : mg "int" = none) (m_len : mg "len" = none) (m_all : mg "all" = none) (m_zip : mg "zip" = none) :
    ∀ n : Nat, FnOk P w K mg base CX0 n f fd ["_law_got", "_law_due"] (spSame K n)
  | 0 => fnok_no
  | n + 1 => by
    have G_w_same := ok_same F_w_same g_w_same b_w_same m_isinstance m_list m_tuple m_bool m_str m_int m_len m_all m_zip n
    refine F_w_same.ok sc_w_same (fun vs H Q E h => ?_) (fun cdv A outer s H vs Q E hr h => ?_)
    · obtain ⟨x, y, d, rfl, _⟩ := h
      rfl
    · obtain ⟨x, y, d, rfl, hx, hy, hk, q⟩ := h
      refine ⟨_, (pss_cons (ps_if (pt_val (pe_callB call_isiT (by rfl) m_isinstance (by decide +kernel) (pa_cons (pv 1) (pa_cons (pe_tup (pa_cons (pe_bltn (v := .ty "list") (u := .type "list") (by rfl) m_list (by decide +kernel) rfl) (pa_cons (pe_bltn (v := .ty "tuple") (u := .type "tuple") (by rfl) m_tuple (by decide +kernel) rfl) pa_nil))) pa_nil)))) 
      (pss_cons (ps_if (PW.pt (pw_or (pt_cmpR op_ne (pe_callB call_isi (by rfl) m_isinstance (by decide +kernel) (pa_cons (pv 0) (pa_cons (pe_bltn (v := .ty "list") (u := .type "list") (by rfl) m_list (by decide +kernel) rfl) pa_nil))) (pe_callB call_isi (by rfl) m_isinstance (by decide +kernel) (pa_cons (pv 1) (pa_cons (pe_bltn (v := .ty "list") (u := .type "list") (by rfl) m_list (by decide +kernel) rfl) pa_nil))) (nomark _)) (pw_or1 (pt_cmpR op_ne (pe_callB call_isi (by rfl) m_isinstance (by decide +kernel) (pa_cons (pv 0) (pa_cons (pe_bltn (v := .ty "tuple") (u := .type "tuple") (by rfl) m_tuple (by decide +kernel) rfl) pa_nil))) (pe_callB call_isi (by rfl) m_isinstance (by decide +kernel) (pa_cons (pv 1) (pa_cons (pe_bltn (v := .ty "tuple") (u := .type "tuple") (by rfl) m_tuple (by decide +kernel) rfl) pa_nil))) (nomark _))))) (pss_one (ps_ret pe_bl)) pss_nil) 
      (pss_one (ps_ret (pe_and (pe_cmpR op_eq (pe_callB call_len_seq (by rfl) m_len PySem.boot_len (pa_cons (pv 0) pa_nil)) (pe_callB call_len_seq (by rfl) m_len PySem.boot_len (pa_cons (pv 1) pa_nil)) (nomark _)) (pe_one (pe_callB (cr_all rfl) (by rfl) m_all (by decide +kernel) (pa_cons (pe_lcX (pe_lc (own := [("_law_mine", 2), ("_law_its", 3)]) (g := gTup K 2 (gCons (gName 2) (gCons (gName 3) gNil))) (tt := tYes) (by rfl) sc_w_same.nd (RZ.pi_zipA (by rfl) m_zip (pa_cons (pv 0) (pa_cons (pv 1) pa_nil))) (blkOk_by (own := [("_law_mine", 2), ("_law_its", 3)]) (N := sc_w_same_N) (sc := defScope s_w_same) (by decide +kernel)) (fun _ _ _ _ _ => pg_tup rfl (pgs_cons (pg_name (i := 2) sc_w_same.nd rfl (Or.inl rfl)) (pgs_cons (pg_name (i := 3) sc_w_same.nd rfl (Or.inl rfl)) pgs_nil))) (fun _ _ _ _ _ => pts_nil) (fun _ _ _ _ _ => (pe_call G_w_same hr (by rfl) g_w_same F_w_same.kp b_w_same .nil pass0 (pa_cons (pv 2) (pa_cons (pv 3) pa_nil)))))) pa_nil))))))) pss_nil) 
    (pss_cons (ps_if (PW.pt (pw_or (pt_cmpR op_isN (pv 1) pe_non (nomark _)) (pw_or1 (pt_val (pe_callB call_isiT (by rfl) m_isinstance (by decide +kernel) (pa_cons (pv 1) (pa_cons (pe_tup (pa_cons (pe_bltn (v := .ty "bool") (u := .type "bool") (by rfl) m_bool (by decide +kernel) rfl) (pa_cons (pe_bltn (v := .ty "str") (u := .type "str") (by rfl) m_str (by decide +kernel) rfl) pa_nil))) pa_nil))))))) (pss_one (ps_ret (pe_and (pe_cmpR op_eq (pv 0) (pv 1) (nomark _)) (pe_and (pe_cmpR op_eq (pe_callB call_isi (by rfl) m_isinstance (by decide +kernel) (pa_cons (pv 0) (pa_cons (pe_bltn (v := .ty "bool") (u := .type "bool") (by rfl) m_bool (by decide +kernel) rfl) pa_nil))) (pe_callB call_isi (by rfl) m_isinstance (by decide +kernel) (pa_cons (pv 1) (pa_cons (pe_bltn (v := .ty "bool") (u := .type "bool") (by rfl) m_bool (by decide +kernel) rfl) pa_nil))) (nomark _)) (pe_one (pe_cmpR op_eq (pe_cmpR op_isN (pv 0) pe_non (nomark _)) (pe_cmpR op_isN (pv 1) pe_non (nomark _)) (nomark _))))))) pss_nil) 
    (pss_one (ps_ret (pe_and (pe_callB call_isi (by rfl) m_isinstance (by decide +kernel) (pa_cons (pv 0) (pa_cons (pe_bltn (v := .ty "int") (u := .type "int") (by rfl) m_int (by decide +kernel) rfl) pa_nil))) (pe_and (pe_not (pe_callB call_isi (by rfl) m_isinstance (by decide +kernel) (pa_cons (pv 0) (pa_cons (pe_bltn (v := .ty "bool") (u := .type "bool") (by rfl) m_bool (by decide +kernel) rfl) pa_nil)))) (pe_one (pe_cmpR op_eq (pv 0) (pv 1) (nomark _))))))))), ?_⟩
      walk_at "ev"
      intro p hp
      have e1 : Same H (upd H p (.tup [.ty "list", .ty "tuple"])) := .upd hp
      have hp1 : (upd H p (.tup [.ty "list", .ty "tuple"])) p = some (.tup [.ty "list", .ty "tuple"]) := upd_same
      walk_at "nrm"
      generalize upd H p (.tup [.ty "list", .ty "tuple"]) = H1 at e1 hp1
      have hx1 := e1.dp hx
      have hy1 := e1.dp hy
      rcases dp_cases hy with ⟨fb, ds, rfl⟩ | ⟨hk0, hl⟩
      · refine isi2 hy1 hp1 (fun t e => by rw [e]; exact kit_seq) ?_
        refine ⟨_, rfl, iteT ?_⟩
        walk_at "ev"
        walk_at "nrm"
        refine isi1 hx1 (fun t e => by rw [e]; exact kit_list) ?_
        walk_at "ev"
        walk_at "nrm"
        refine isi1 hy1 (fun t e => by rw [e]; exact kit_list) ?_
        walk_at "ev"
        refine iteNS rfl ?_
        walk_at "ev"
        walk_at "nrm"
        refine isi1 hx1 (fun t e => by rw [e]; exact kit_tup) ?_
        walk_at "ev"
        walk_at "nrm"
        refine isi1 hy1 (fun t e => by rw [e]; exact kit_tup) ?_
        walk_at "ev"
        refine iteNS rfl ?_
        obtain ⟨a, xs, rfl, ha, hax⟩ := Dp.seq_of hx1
        obtain ⟨b, ys, rfl, hb, hby⟩ := Dp.seq_of hy1
        have lx := dpa_len hax
        have ly := dpa_len hby
        refine ⟨_, rfl, a, xs, rfl, ha.or, _, rfl, b, ys, rfl, hb.or, rfl, _, rfl, ?_⟩
        have el : V.int (xs.length : Nat) = V.int (ys.length : Nat) := by rw [lx, ly]
        rw [decide_eq_true el]
        refine iteT ?_
        obtain ⟨hk1, hk2⟩ := okD_seq.mp hk
        walk_at "nrm"
        refine lc_of ?_
        refine iZip_at (fun R' r => ⟨_, rfl, _, rfl, r⟩) ha hb (by omega) fun J w D hD => ?_
        refine lc_it w (fun i H2 => Same H1 H2 ∧ H2 D = some (.lst (List.replicate i (.bl true)))) ⟨.upd hD, upd_same⟩ (fun i H2 _ p => ⟨p.1.sqF ha, p.1.sqF hb⟩) (fun i v H2 H2' hi p yy => ?_) (fun H2 p => ?_)
        · obtain ⟨s1, hl⟩ := p
          obtain ⟨T, x1, x2, rfl, hTn, rfl, g1, g2⟩ := yy
          obtain ⟨d, hd, hd1⟩ := dpa_get hax g1
          obtain ⟨d', hd', hd2⟩ := dpa_get hby g2
          cases Option.some.inj (hd.symm.trans hd')
          have s2 : Same H1 (upd H2 T (.tup [x1, x2])) := s1.trans (.upd hTn)
          have hkd := hk2 d (List.mem_of_getElem? hd)
          refine ⟨T, [x1, x2], rfl, .inl (.inl upd_same), rfl, x1, [x2], rfl, x2, [], rfl, rfl, rfl, ?_⟩
          dsimp only [tYes]
          rw [if_pos rfl]
          refine ⟨_, rfl, _, rfl, ?_⟩
          cases n with
          | zero => exact hkd.elim
          | succ n =>
            refine ⟨x1, x2, d, rfl, s2.dp hd1, s2.dp hd2, hkd, fun H3 s3 => ⟨_, s3 _ _ ((Same.upd hTn) _ _ hl), ?_, s2.trans s3 |>.mut hD, ?_⟩⟩
            · rw [List.length_replicate]
              exact szL (by omega)
            · rw [upd_same, List.replicate_succ']
        · obtain ⟨s1, hl⟩ := p
          refine ⟨D, List.replicate xs.length true, rfl, sql_of (by rw [List.map_replicate]; exact hl), ?_⟩
          have e : (List.replicate xs.length true).all id = true := by
            rw [List.all_eq_true]
            intro z hz
            rw [List.eq_of_mem_replicate hz]
            rfl
          rw [e]
          exact q _ (e1.trans s1)
      · refine isi2 hy1 hp1 (fun t e => by rw [e]; exact hk0) ?_
        refine ⟨_, rfl, iteF ?_⟩
        cases hx with
        | non => 
          cases hy
          walk_at "ev"
          walk_at "nrm"
          refine isi1 (r := false) hx1 (fun t e => by rw [e]; exact kit_ty (a := "NoneType") (b := "bool") (by decide +kernel)) ?_
          walk_at "ev"
          walk_at "nrm"
          refine isi1 (r := false) hy1 (fun t e => by rw [e]; exact kit_ty (a := "NoneType") (b := "bool") (by decide +kernel)) ?_
          walk_at "ev"
          exact q _ e1
        | bl c => 
          cases hy
          walk_at "ev"
          intro p2 hp2
          have e2 : Same H1 (upd H1 p2 (.tup [.ty "bool", .ty "str"])) := .upd hp2
          have hp3 : (upd H1 p2 (.tup [.ty "bool", .ty "str"])) p2 = some (.tup [.ty "bool", .ty "str"]) := upd_same
          walk_at "nrm"
          refine isi2 (r := true) (e2.dp hy1) hp3 (fun t e => by rw [e]; exact kitAny_cons (kit_ty (a := "bool") (b := "bool") (r := true) (by decide +kernel)) (fun z => nomatch z) (fun _ => rfl)) ?_
          walk_at "ev"
          rw [if_pos (decide_eq_true rfl)]
          walk_at "ev"
          walk_at "nrm"
          refine isi1 (r := true) (e2.dp hx1) (fun t e => by rw [e]; exact kit_ty (a := "bool") (b := "bool") (by decide +kernel)) ?_
          walk_at "ev"
          walk_at "nrm"
          refine isi1 (r := true) (e2.dp hy1) (fun t e => by rw [e]; exact kit_ty (a := "bool") (b := "bool") (by decide +kernel)) ?_
          walk_at "ev"
          exact q _ (e1.trans e2)
        | str c => 
          cases hy
          walk_at "ev"
          intro p2 hp2
          have e2 : Same H1 (upd H1 p2 (.tup [.ty "bool", .ty "str"])) := .upd hp2
          have hp3 : (upd H1 p2 (.tup [.ty "bool", .ty "str"])) p2 = some (.tup [.ty "bool", .ty "str"]) := upd_same
          walk_at "nrm"
          refine isi2 (r := true) (e2.dp hy1) hp3 (fun t e => by rw [e]; exact kitAny_cons (kit_ty (a := "str") (b := "bool") (r := false) (by decide +kernel)) (fun _ => kitAny_cons (kit_ty (a := "str") (b := "str") (r := true) (by decide +kernel)) (fun z => nomatch z) (fun _ => rfl)) (fun z => nomatch z)) ?_
          walk_at "ev"
          rw [if_pos (decide_eq_true rfl)]
          walk_at "ev"
          walk_at "nrm"
          refine isi1 (r := false) (e2.dp hx1) (fun t e => by rw [e]; exact kit_ty (a := "str") (b := "bool") (by decide +kernel)) ?_
          walk_at "ev"
          walk_at "nrm"
          refine isi1 (r := false) (e2.dp hy1) (fun t e => by rw [e]; exact kit_ty (a := "str") (b := "bool") (by decide +kernel)) ?_
          walk_at "ev"
          exact q _ (e1.trans e2)
        | int c => 
          cases hy
          walk_at "ev"
          intro p2 hp2
          have e2 : Same H1 (upd H1 p2 (.tup [.ty "bool", .ty "str"])) := .upd hp2
          have hp3 : (upd H1 p2 (.tup [.ty "bool", .ty "str"])) p2 = some (.tup [.ty "bool", .ty "str"]) := upd_same
          walk_at "nrm"
          refine isi2 (r := false) (e2.dp hy1) hp3 (fun t e => by rw [e]; exact kitAny_cons (kit_ty (a := "int") (b := "bool") (r := false) (by decide +kernel)) (fun _ => kitAny_cons (kit_ty (a := "int") (b := "str") (r := false) (by decide +kernel)) (fun _ => kitAny_nil) (fun z => nomatch z)) (fun z => nomatch z)) ?_
          walk_at "ev"
          walk_at "nrm"
          refine isi1 (r := true) (e2.dp hx1) (fun t e => by rw [e]; exact kit_ty (a := "int") (b := "int") (by decide +kernel)) ?_
          walk_at "ev"
          walk_at "nrm"
          refine isi1 (r := false) (e2.dp hx1) (fun t e => by rw [e]; exact kit_ty (a := "int") (b := "bool") (by decide +kernel)) ?_
          walk_at "ev"
          rw [decide_eq_true rfl]
          exact q _ (e1.trans e2)
        | @lst a xs ds hs _ => cases (hk0.symm.trans (kit_seq (fb := false) (ds := ds)))
        | @tup a xs ds hs _ => cases (hk0.symm.trans (kit_seq (fb := true) (ds := ds)))
end
end Jl

set_option Elab.async false
set_option linter.all false
set_option maxRecDepth 100000
set_option maxHeartbeats 4000000
set_option pp.maxSteps 900
namespace Jl
open PySem PySem.Spec PyProof.Rows L2
open Evl (sz_of sz_lt)
local macro_rules | `(tactic| walk_at "at") => `(tactic| first | exact box0 | exact box1 | exact box2)
local macro_rules | `(tactic| walk_at "side") => `(tactic| first
  | (show (0 : Int) < _; decide)
  | (show (0 : Int) < _; omega)
  | exact ⟨by decide, by decide, by decide⟩
  | exact sz_of (Nat.le_of_ble_eq_true rfl)
  | exact rfl
  | exact Or.inl (by decide)
  | exact Or.inr (by decide)
  | exact Or.inr ⟨by omega, by omega⟩
  | exact Or.inl ⟨by omega, by omega⟩
  | exact ⟨by decide, by decide +kernel⟩)
local macro_rules | `(tactic| walk_at "ev1") => `(tactic| first
  | refine ⟨_, rfl, ?_⟩
  | refine ⟨_, _, rfl, rfl, ?_⟩
  | refine ⟨_, _, _, _, rfl, rfl, (by assumption), (by walk_at "at"), ?_⟩
  | refine ⟨_, _, rfl, (by assumption), ?_⟩
  | refine ⟨_, _, rfl, Or.inl (by assumption), ?_⟩
  | refine ⟨_, _, rfl, Or.inr (by assumption), ?_⟩
  | refine Or.inl ⟨_, rfl, ?_⟩
  | refine Or.inr ⟨_, rfl, ?_⟩
  | refine ⟨(by walk_at "side"), ?_⟩)
local macro_rules | `(tactic| walk_at "nrm") => `(tactic| dsimp only [tNil, tCons, tC, tCB])
local macro_rules | `(tactic| walk_at "ev") => `(tactic| repeat (walk_at "ev1"))

abbrev sc_w_cells_N : List Str := ["_law_script", "_law_most", "_law_cells_here", "_law_k", "_law_cell", "_law_at_so"]
abbrev s_w_cells : Stmt := topS 17
theorem sc_w_cells : FnScope ["_law_script", "_law_most", "_law_cells_here", "_law_k", "_law_cell", "_law_at_so"] ["_law_script", "_law_most"] (defScope s_w_cells) := ⟨rfl, rfl, rfl, by decide +kernel, rfl, by decide +kernel, by decide +kernel⟩
theorem ixN_nat {n j : Nat} (h : j < n) : ixN n (j : Int) = some j := by
  unfold ixN
  rw [if_pos (by omega), if_pos (by omega)]
  simp
theorem cutV_int {ns : List Int} {lo hi : Option Int} : cutV (ns.map V.int) lo hi = ((ns.drop (HT.sIx ns.length 0 lo)).take (HT.sIx ns.length ns.length hi - HT.sIx ns.length 0 lo)).map V.int := by
  unfold cutV
  rw [List.length_map, List.map_take, List.map_drop]
section
variable {P : Program} {w : World} {K : PySem.W.Frag} {mg : Str → Option Value} {base : Heap}
/-- _law_cells(script, most): a new list of at most so many numbers -/
def spCells (K : PySem.W.Frag) : Sp := fun vs H Q _ => ∃ (a : Addr) (ns : List Int) (m : Nat), vs = [.ref a, .int (m : Int)] ∧ SqL K H a (ns.map V.int) ∧ ns.length ≤ 63 ∧ 1 ≤ m ∧ m ≤ 60 ∧
  ∀ (H' : Hp) (p : Addr) (cs : List Int), Same H H' → H p = none → H' p = some (.lst (cs.map V.int)) → cs.length ≤ m → Q (.ref p) H'
theorem ok_cells {f : Addr} {fd : FuncData} {k : Nat} (F : Fun K "_law_cells" "_law_cells" s_w_cells f fd) (m_int : mg "int" = none) (m_list : mg "list" = none) (m_enumerate : mg "enumerate" = none) : FnOk P w K mg base CX0 (k + 1) f fd ["_law_script", "_law_most"] (spCells K) := by
  refine F.ok sc_w_cells (fun vs H Q E h => ?_) (fun cdv A outer s H vs Q E hr h => ?_)
  · obtain ⟨a, ns, m, rfl, _⟩ := h
    rfl
  · obtain ⟨a, ns, m, rfl, hS, hn, m1, m2, q⟩ := h
    refine ⟨_, (Evl.pss_cut (ps_set (i := 2) sc_w_cells.nd rfl (Or.inl rfl) (pe_orT (pe_callTy call_list_of (by rfl) m_list (by decide +kernel) (pa_cons (pe_slice sl_list (pv 0) po_none (po_some (pv 1))) pa_nil)) (pe_one (pe_lst (pa_cons pe_int pa_nil))))) 
    (pss_cons (ps_forX (ps_for PassesOwn.never rfl (pi_enum (by rfl) m_enumerate (pa_cons (pe_slice sl_list (pv 0) (po_some (pv 1)) (po_some pe_int)) pa_nil)) (pg_tup rfl (pgs_cons (pg_name (i := 3) sc_w_cells.nd rfl (Or.inl rfl)) (pgs_cons (pg_name (i := 4) sc_w_cells.nd rfl (Or.inl rfl)) pgs_nil))) 
      (pss_cons (ps_set (i := 5) sc_w_cells.nd rfl (Or.inl rfl) (pe_op op_mod (pe_callTy call_int1 (by rfl) m_int (by decide +kernel) (pa_cons (pv 3) pa_nil)) (pv 1))) 
      (pss_one (ps_asg (pe_op op_add (pe_ix ix_list (pv 2) (pv 5) (fun _ _ => rfl)) (pe_op op_mul (pv 4) (pe_op op_add (pv 3) pe_int))) (pg_sub (pv 2) (pv 5) set_list)))))) 
    (pss_one (ps_ret (pv 2))))), ?_⟩
    refine ⟨fun σ1 H1 => ∃ (p : Addr) (c0 : List Int), σ1 = [some (.ref a), some (.int (m : Int)), some (.ref p), none, none, none] ∧ Same H H1 ∧ H p = none ∧ H1 p = some (.lst (c0.map V.int)) ∧ c0.length ≤ m ∧ (m < ns.length → c0.length = m), ?_, ?_⟩
    · walk_at "ev"
      intro p hp
      rw [cutV_int, show HT.sIx ns.length 0 none = 0 from HT.sIx_none _ _, show HT.sIx ns.length ns.length (some (m : Int)) = min m ns.length from HT.sIx_nat _ _ _, Nat.sub_zero, List.drop_zero]
      walk_at "nrm"
      have s1 : Same H (upd H p (.lst ((ns.take (min m ns.length)).map V.int))) := .upd hp
      refine ⟨p, _, rfl, .inl (sql_of upd_same), fun l hl => ?_⟩
      have s2 := s1.trans (Same.upd (o := .lst ((ns.take (min m ns.length)).map V.int)) hl)
      refine ⟨_, .inl ⟨_, sql_of upd_same, rfl⟩, ite2 (fun e => ?_) (fun e => ?_)⟩
      · refine ⟨l, _, rfl, s2, s1.free hl, upd_same, ?_, fun h => ?_⟩
        · rw [List.length_take]
          omega
        · rw [List.length_take]
          omega
      · walk_at "ev"
        intro r hr
        refine ⟨r, [0], rfl, s2.trans (.upd hr), s2.free hr, upd_same, by simp; omega, fun h => (e ?_).elim⟩
        have : (ns.take (min m ns.length)).length ≠ 0 := by
          rw [List.length_take]
          omega
        cases hq : ns.take (min m ns.length) with
        | nil => rw [hq] at this; exact (this rfl).elim
        | cons => rfl
    · rintro σ1 H1 ⟨p, c0, rfl, s1, hp, hp1, hc0, hc1⟩
      have hS1 : SqL K H1 a (ns.map V.int) := s1.sqL hS
      refine for_of ?_
      walk_at "ev"
      intro p3 hp3
      rw [cutV_int]
      generalize hms : List.take _ (List.drop _ ns) = ms
      have hlen : ms.length ≤ ns.length - m := by
        rw [← hms, List.length_take, List.length_drop, show HT.sIx ns.length 0 (some (m : Int)) = min m ns.length from HT.sIx_nat _ _ _]
        omega
      have s3 : Same H1 (upd H1 p3 (.lst (ms.map V.int))) := .upd hp3
      refine ⟨p3, _, rfl, sql_of upd_same, ?_⟩
      refine forR_it (walk_enum (K := K) (a := p3) (xs := ms.map V.int)) (fun i σ H2 => ∃ x3 x4 x5 cs, σ = [some (.ref a), some (.int (m : Int)), some (.ref p), x3, x4, x5] ∧ Same H H2 ∧ H2 p = some (.lst (cs.map V.int)) ∧ cs.length = c0.length ∧ H2 p3 = some (.lst (ms.map V.int)))
        ⟨_, _, _, c0, rfl, s1.trans s3, s3 _ _ hp1, rfl, upd_same⟩ (fun i σ H2 _ h => ?_) (fun i v σ H2 H2' hi h y => ?_) (fun σ H2 h => ?_)
      · obtain ⟨_, _, _, _, _, _, _, _, h3⟩ := h
        exact sql_of h3
      · obtain ⟨x3, x4, x5, cs, rfl, s4, h4, hl4, h3⟩ := h
        obtain ⟨T, u1, u2, rfl, hT, rfl, g1, g2⟩ := y
        cases g1
        rw [List.length_map] at hi
        have g2 : (ms.map V.int)[i]? = some u2 := g2
        rw [List.getElem?_map, List.getElem?_eq_getElem hi] at g2
        cases g2
        have s5 : Same H2 (upd H2 T (.tup [.int (i : Int), .int ms[i]])) := .upd hT
        have hcm : cs.length = m := by rw [hl4]; exact hc1 (by omega)
        refine ⟨T, _, rfl, sqt_of upd_same, rfl, _, _, rfl, _, _, rfl, rfl, ?_⟩
        have hat : ((i : Int) % (m : Int)) = ((i % m : Nat) : Int) := rfl
        have hlt : i % m < cs.length := by rw [hcm]; exact Nat.mod_lt _ (by omega)
        have h6 := s5 _ _ h4
        have hS6 : SqL K (upd H2 T (.tup [.int (i : Int), .int ms[i]])) p (cs.map V.int) := sql_of h6
        have hi63 : (i : Int) < 63 := by omega
        have hix : ixN (cs.map V.int).length ((i : Int) % (m : Int)) = some (i % m) := by
          rw [hat, List.length_map]
          exact ixN_nat hlt
        walk_at "ev"
        refine ⟨p, _, _, _, rfl, rfl, hS6, at_of (v := .int cs[i % m]) hat (by rw [List.getElem?_map, List.getElem?_eq_getElem hlt]; rfl), ?_⟩
        walk_at "ev"
        refine ⟨p, _, _, i % m, rfl, rfl, h6, hix, ?_⟩
        have np : p3 ≠ p := fun z => by
          rw [z, hp1] at hp3
          cases hp3
        refine ⟨_, _, _, cs.set (i % m) (cs[i % m] + ms[i] * ((i : Int) + 2)), rfl, (s4.trans s5).mut hp, ?_, by rw [List.length_set]; exact hl4, ?_⟩
        · rw [upd_same, List.map_set]
        · rw [upd_ne np]
          exact s5 _ _ h3
      · obtain ⟨x3, x4, x5, cs, rfl, s4, h4, hl4, h3⟩ := h
        exact ⟨_, rfl, q _ _ cs s4 hp h4 (by omega)⟩
end
end Jl

set_option Elab.async false
set_option linter.all false
set_option maxRecDepth 100000
set_option maxHeartbeats 4000000
set_option pp.maxSteps 900
namespace Jl
open PySem PySem.Spec PyProof.Rows L2
open Evl (sz_of sz_lt)
local macro_rules | `(tactic| walk_at "at") => `(tactic| first | exact box0 | exact box1 | exact box2)
local macro_rules | `(tactic| walk_at "sq") => `(tactic| first | (show SqL _ _ _ _; assumption) | (show SqT _ _ _ _; assumption) | (show _ = some _; assumption))
local macro_rules | `(tactic| walk_at "side") => `(tactic| first
  | (show (0 : Int) < _; decide)
  | (show (0 : Int) < _; omega)
  | exact ⟨by decide, by decide, by decide⟩
  | exact sz_of (Nat.le_of_ble_eq_true rfl)
  | exact rfl
  | exact Or.inl (by decide)
  | exact Or.inr (by decide)
  | exact Or.inr ⟨by omega, by omega⟩
  | exact Or.inl ⟨by omega, by omega⟩
  | exact ⟨by decide, by decide +kernel⟩)
local macro_rules | `(tactic| walk_at "ev1") => `(tactic| first
  | refine ⟨_, rfl, ?_⟩
  | refine ⟨_, _, rfl, rfl, ?_⟩
  | refine ⟨_, _, _, _, rfl, rfl, (by walk_at "sq"), (by walk_at "at"), ?_⟩
  | refine ⟨_, _, rfl, (by walk_at "sq"), ?_⟩
  | refine ⟨_, _, rfl, Or.inl (by walk_at "sq"), ?_⟩
  | refine ⟨_, _, rfl, Or.inr (by walk_at "sq"), ?_⟩
  | refine Or.inl ⟨_, rfl, ?_⟩
  | refine Or.inr ⟨_, rfl, ?_⟩
  | refine ⟨(by walk_at "side"), ?_⟩
  | refine ⟨.inl ⟨rfl, _, (by walk_at "sq")⟩, ?_⟩
  | refine ⟨_, _, rfl, ?_⟩)
local macro_rules | `(tactic| walk_at "nrm") => `(tactic| dsimp only [tNil, tCons, tC, tCB])
local macro_rules | `(tactic| walk_at "ev") => `(tactic| repeat (walk_at "ev1"))

theorem cutS_more {S T : List Addr} {H H' : Hp} (e : Same (cutS T H) (cutS T H')) (h : ∀ a ∈ T, a ∈ S) : Same (cutS S H) (cutS S H') := fun b o q => by
  obtain ⟨h1, h2⟩ := cutS_some q
  have h3 : b ∉ T := fun z => h1 (h b z)
  have := e b o (by rw [cutS_out h3]; exact h2)
  rw [cutS_out h3] at this
  rw [cutS_out h1]
  exact this
theorem era_map {α β : Type} (f : α → β) : ∀ (l : List α) (k : Nat), (l.map f).eraseIdx k = (l.eraseIdx k).map f
  | [], _ => rfl
  | _ :: _, 0 => rfl
  | a :: l, k + 1 => congrArg (f a :: ·) (era_map f l k)
theorem era_perm {α : Type} : ∀ (l : List α) (k : Nat) (h : k < l.length), (l[k] :: l.eraseIdx k).Perm l
  | a :: l, 0, _ => List.Perm.refl _
  | a :: l, k + 1, h => (List.Perm.swap a (l[k]'(by simpa using h)) (l.eraseIdx k)).trans (List.Perm.cons a (era_perm l k (by simpa using h)))
theorem small8000 {i : Int} (h : 0 ≤ i ∧ i ≤ 10 ^ 60) : i.natAbs < 2 ^ 8000 := by
  have h2 : i.natAbs < 2 ^ 250 := by omega
  exact Nat.lt_of_lt_of_le h2 (Nat.pow_le_pow_right (by decide) (by decide))
/-! ### the box as it goes on -/
def BoxL (bx : List V) (N : Nat) : Prop := ∃ c0 c1 c2 : Int, bx = boxV c0 c1 c2 ∧ 0 ≤ c0 ∧ 0 ≤ c1 ∧ c1 < 2 ^ 62 ∧ 0 ≤ c2 ∧ c2 ≤ N
theorem BoxL.mono {bx : List V} {N M : Nat} (h : BoxL bx N) (e : N ≤ M) : BoxL bx M := by
  obtain ⟨c0, c1, c2, rfl, h1, h2, h3, h4, h5⟩ := h
  exact ⟨c0, c1, c2, rfl, h1, h2, h3, h4, by omega⟩
def spTake2 : Sp := fun vs H Q _ => ∃ (b : Addr) (n : Int) (bx : List V) (N : Nat), vs = [.ref b, .int n] ∧ H b = some (.lst bx) ∧ BoxL bx N ∧ N < 2 ^ 60 ∧ 1 ≤ n ∧ n.natAbs < 2 ^ 8000 ∧
  ∀ r bx', 0 ≤ r → r < n → BoxL bx' (N + 1) → Q (.int r) (upd H b (.lst bx'))
section
variable {P : Program} {w : World} {K : PySem.W.Frag} {mg : Str → Option Value} {base : Heap}
theorem ok_take2 {f : Addr} {fd : FuncData} {k : Nat} (G : FnOk P w K mg base CX0 k f fd ["_law_box_here", "_law_below"] (spTake K)) : FnOk P w K mg base CX0 k f fd ["_law_box_here", "_law_below"] spTake2 :=
  G.imp fun vs H Q E h => by
    obtain ⟨b, n, bx, N, rfl, hb, ⟨c0, c1, c2, rfl, h1, h2, h3, h4, h5⟩, hN, n1, n2, q⟩ := h
    exact ⟨b, c0, c1, c2, n, rfl, hb, h1, h2, h3, h4, by omega, n1, n2, fun r d0 d2 r0 r1 d00 d20 d21 => q r _ r0 r1 ⟨d0, c1, d2, rfl, d00, h2, h3, d20, by omega⟩⟩
end
end Jl

set_option Elab.async false
set_option linter.all false
set_option maxRecDepth 100000
set_option maxHeartbeats 4000000
set_option pp.maxSteps 900
namespace Jl
open PySem PySem.Spec PyProof.Rows L2
open Evl (sz_of sz_lt)
local macro_rules | `(tactic| walk_at "at") => `(tactic| first | exact box0 | exact box1 | exact box2)
local macro_rules | `(tactic| walk_at "sq") => `(tactic| first | (show SqL _ _ _ _; assumption) | (show SqT _ _ _ _; assumption) | (show _ = some _; assumption))
local macro_rules | `(tactic| walk_at "side") => `(tactic| first
  | (show (0 : Int) < _; decide)
  | (show (0 : Int) < _; omega)
  | exact ⟨by decide, by decide, by decide⟩
  | exact sz_of (Nat.le_of_ble_eq_true rfl)
  | exact rfl
  | exact Or.inl (by decide)
  | exact Or.inr (by decide)
  | exact Or.inr ⟨by omega, by omega⟩
  | exact Or.inl ⟨by omega, by omega⟩
  | exact ⟨by decide, by decide +kernel⟩)
local macro_rules | `(tactic| walk_at "ev1") => `(tactic| first
  | refine ⟨_, rfl, ?_⟩
  | refine ⟨_, _, rfl, rfl, ?_⟩
  | refine ⟨_, _, _, _, rfl, rfl, (by walk_at "sq"), (by walk_at "at"), ?_⟩
  | refine ⟨_, _, rfl, (by walk_at "sq"), ?_⟩
  | refine ⟨_, _, rfl, Or.inl (by walk_at "sq"), ?_⟩
  | refine ⟨_, _, rfl, Or.inr (by walk_at "sq"), ?_⟩
  | refine Or.inl ⟨_, rfl, ?_⟩
  | refine Or.inr ⟨_, rfl, ?_⟩
  | refine ⟨(by walk_at "side"), ?_⟩
  | refine ⟨.inl ⟨rfl, _, (by walk_at "sq")⟩, ?_⟩
  | refine ⟨_, _, rfl, ?_⟩)
local macro_rules | `(tactic| walk_at "nrm") => `(tactic| dsimp only [tNil, tCons, tC, tCB])
local macro_rules | `(tactic| walk_at "ev") => `(tactic| repeat (walk_at "ev1"))
/-! ### range(n) as a value, list of it -/
section
variable {X : Cx}
theorem cr_range1 : CallR X (.type "range") (fun vs H Q => ∃ j, vs = [V.int j] ∧ ∀ p, H p = none → Q (.ref p) (upd H p (.rng 0 j))) := fun pins s σ H vs us Q I r h => by
  obtain ⟨j, rfl, q⟩ := h
  obtain ⟨u, rfl, ru⟩ := vals1 r
  obtain ⟨t, rfl⟩ := ru
  exact call_range_1 ⟨.ref _, _, I.laid (o := .rng 0 j) (t' := s.toks + 1 + 1) (fun _ _ e => Heap.get?_push_of_some _ e) (Nat.le_refl _) ⟨_, _, _, Heap.get?_push_size _ rfl⟩, rfl, q _ (I.hok.fresh (Nat.le_refl _))⟩
theorem vals_from {f : Nat → V} : ∀ {us : List Value} (k : Nat), (∀ i v, us[i]? = some v → RelV (f (k + i)) v) → Vals ((List.range us.length).map fun i => f (k + i)) us
  | [], _, _ => .nil
  | u :: us, k, h => by
    rw [List.length_cons, List.range_succ_eq_map, List.map_cons, List.map_map]
    refine .cons (h 0 u rfl) ?_
    have := vals_from (f := f) (us := us) (k + 1) fun i v hv => by
      have q := h (i + 1) v (by simpa using hv)
      have e : k + (i + 1) = k + 1 + i := by omega
      rw [e] at q
      exact q
    have e : ((fun i => f (k + i)) ∘ Nat.succ) = fun i => f (k + 1 + i) := by
      funext i
      show f (k + (i + 1)) = f (k + 1 + i)
      congr 1
      omega
    rw [e]
    exact this
theorem call_list_rng (hc : X.calm = true) : CallR X (.type "list") (fun xs H Q => ∃ (r : Addr) (n : Nat), xs = [.ref r] ∧ H r = some (.rng 0 (n : Int)) ∧ n ≤ 1000 ∧ ∀ p, H p = none → Q (.ref p) (upd H p (.lst ((List.range n).map fun i => V.int ((i : Nat) : Int))))) := fun pins s σ H xs us Q I r h => by
  obtain ⟨a, n, rfl, ha, hn, q⟩ := h
  obtain ⟨u, rfl, ru⟩ := vals1 r
  cases ru
  obtain ⟨t, u, v, ho⟩ := I.hok _ _ ha
  refine call_list_range (n := n) (I.ok.hd hc) (show IsRange s.heap a 0 (n : Int) 1 t u v from ho) (small_one (by omega) (by omega) (by omega) (by omega)) ?_ (by omega) fun h' tk acc c hk hS hi => ?_
  · rw [rangeSize_one]
    by_cases h0 : (0 : Int) < n
    · rw [if_pos h0]
      omega
    · rw [if_neg h0]
      omega
  · obtain ⟨h1, h2⟩ := hi
    have hl : acc.toList.length = n := by rw [Array.length_toList]; exact h1
    have hv : Vals ((List.range n).map fun i => V.int ((i : Nat) : Int)) acc.toList := by
      rw [← hl]
      have g := vals_from (f := fun i => V.int ((i : Nat) : Int)) (us := acc.toList) 0 fun i v hv => by
        have hi : i < n := by
          rw [← hl]
          exact (List.getElem?_eq_some_iff.mp hv).1
        obtain ⟨t, e2⟩ := h2 i v (by simpa using hv)
        refine ⟨t, ?_⟩
        rw [e2]
        congr 1
        omega
      have e : (fun i => V.int (((0 + i : Nat)) : Int)) = fun i => V.int ((i : Nat) : Int) := by
        funext i
        rw [Nat.zero_add]
      rw [e] at g
      exact g
    exact ⟨.ref _, _, I.laid (o := .lst ((List.range n).map fun i => V.int ((i : Nat) : Int))) (t' := tk) hk (Nat.le_refl _) ⟨by rw [List.length_map, List.length_range]; exact sz_of (by omega), acc.toList, c, hv, by simpa using hS⟩, rfl, q _ (I.hok.fresh (Nat.le_refl _))⟩
/-! ### a method of a tuple whose object is known -/
/-- the place of a tuple whose object is known -/
def TupO (H : Hp) (x : V) : Prop := ∃ (p : Addr) (ob : Obj) (xs : List V), x = .ref p ∧ H p = some (.frz ob (.tup xs)) ∧ ob.cls = .type "tuple" ∧ ob.dict = none
def tBMT (r : V → List V → Hp → VK → Prop) (to : TE) (t : TA) : TE := fun σ H Q => to σ H fun x H1 => TupO H1 x ∧ t σ H1 fun xs H2 => r x xs H2 Q
theorem pe_tm {o e : Expr} {es : List Expr} {to : TE} {t : TA} {name : Str} {apos cpos : Pos} {id : String} {r : V → List V → Hp → VK → Prop} (slot : Slot "tuple" name id) (hty : typeOf (.builtin id) = pure (.type "method_descriptor")) (hm : MtR X id r) (ho : PE X o to) (ha : PA X (e :: es) t)
    (h1 : attributeBase o name X.env (eval o X.env) = eval o X.env := by rfl)
    (h2 : ((backTo cpos (starEach (e :: es) X.env)).all (fun x => !x.1) && (backToKw cpos (keywordEach [] X.env)).all (fun x => x.1.isSome)
      && decide ((e :: es).length + ([] : List Keyword).length + (if ([] : List Keyword).isEmpty then 0 else 1) < 30)) = true := by rfl)
    (h3 : (apos.endLine == cpos.line) = true := by rfl) (h4 : starEach (e :: es) X.env = (false, eval e X.env) :: starEach es X.env := by rfl) (h5 : (backTo cpos (starEach es X.env)).any (·.1) = false := by rfl) :
    PE X (.Call (.Attribute o name apos) (e :: es) [] cpos) (tBMT r to t) := ⟨fun pins s σ H Q I h => wpAny_Call_method_late h1 h2 h3 rfl (thn (ho.run pins s σ H _ I h) fun v s1 ⟨x, H1, I1, r1, ⟨p, ob, xs, ex, hp, hc, hd⟩, q1⟩ => by
  subst ex
  obtain rfl : v = Value.ref p := r1
  have hob : s1.heap.get? p = some ob := (I1.hok p _ hp).1
  refine ⟨"tuple", id, PySem.F.plainAttrs_tuple, slot, hty, ⟨ob, hob, hc⟩, fun a ea => ?_, ?_⟩
  · cases ea
    exact ⟨ob, hob, hd⟩
  · have g := ha.run cpos pins s1 σ H1 _ I1 q1
    rw [h4] at g ⊢
    have h6 : ((false, eval e X.env) :: backTo cpos (starEach es X.env)).any (·.1) = false := by
      rw [List.any_cons, h5]
      rfl
    exact Calls.callWith_builtin h6 (Calls.evalArgs_plain (thn g fun us s2 ⟨vs, H2, I2, r2, q2⟩ => hm pins s2 σ H2 (.ref p) vs _ us Q I2 rfl r2 q2)))⟩
/-- tuple(a list): a tuple whose object is known -/
def rTupF (K : PySem.W.Frag) : List V → Hp → VK → Prop := fun xs H Q => ∃ (p : Addr) (ys : List V), xs = [.ref p] ∧ SqL K H p ys ∧ ∀ (l : Addr) (ob : Obj), H l = none → ob.cls = .type "tuple" → ob.dict = none → Q (.ref l) (upd H l (.frz ob (.tup ys)))
theorem call_tupF : CallR X (.type "tuple") (rTupF X.K) := fun pins s σ H xs us Q I r h => by
  obtain ⟨p, ys, rfl, hq, q⟩ := h
  obtain ⟨u, rfl, rx⟩ := vals1 r
  cases rx
  obtain ⟨its, rv, pl, hz⟩ := I.list hq
  have hlen := rv.length
  refine call_tuple_list pl.isList (fun h' kp => ?_) (by rw [List.size_toArray]; omega)
  have I1 : Inv X pins σ H { s with heap := h' } := I.kept (t' := s.toks) kp
  have hget : (h'.push { cls := .type "tuple", data := .seq its.toArray }).get? h'.objs.size = some { cls := .type "tuple", data := .seq its.toArray } := Heap.get?_push_size _ rfl
  exact ⟨.ref h'.objs.size, _, I1.laid (o := .frz { cls := .type "tuple", data := .seq its.toArray } (.tup ys)) (t' := s.toks) (fun b o e => Heap.get?_push_of_some _ e) (Nat.le_refl _) ⟨hget, hz, its, rv, ⟨_, hget, rfl, _, rfl⟩⟩, rfl, q _ _ (I1.hok.fresh (Nat.le_refl _)) rfl rfl⟩
end
end Jl

set_option Elab.async false
set_option linter.all false
set_option maxRecDepth 100000
set_option maxHeartbeats 4000000
set_option pp.maxSteps 900
namespace Jl
open PySem PySem.Spec PyProof.Rows L2
open Evl (sz_of sz_lt)
local macro_rules | `(tactic| walk_at "at") => `(tactic| first | exact box0 | exact box1 | exact box2)
local macro_rules | `(tactic| walk_at "sq") => `(tactic| first | (show SqL _ _ _ _; assumption) | (show SqT _ _ _ _; assumption) | (show _ = some _; assumption))
local macro_rules | `(tactic| walk_at "side") => `(tactic| first
  | (show (0 : Int) < _; decide)
  | (show (0 : Int) < _; omega)
  | exact ⟨by decide, by decide, by decide⟩
  | exact sz_of (Nat.le_of_ble_eq_true rfl)
  | exact rfl
  | exact Or.inl (by decide)
  | exact Or.inr (by decide)
  | exact Or.inr ⟨by omega, by omega⟩
  | exact Or.inl ⟨by omega, by omega⟩
  | exact ⟨by decide, by decide +kernel⟩)
local macro_rules | `(tactic| walk_at "ev1") => `(tactic| first
  | refine ⟨_, rfl, ?_⟩
  | refine ⟨_, _, rfl, rfl, ?_⟩
  | refine ⟨_, _, _, _, rfl, rfl, (by walk_at "sq"), (by walk_at "at"), ?_⟩
  | refine ⟨_, _, rfl, (by walk_at "sq"), ?_⟩
  | refine ⟨_, _, rfl, Or.inl (by walk_at "sq"), ?_⟩
  | refine ⟨_, _, rfl, Or.inr (by walk_at "sq"), ?_⟩
  | refine Or.inl ⟨_, rfl, ?_⟩
  | refine Or.inr ⟨_, rfl, ?_⟩
  | refine ⟨(by walk_at "side"), ?_⟩
  | refine ⟨.inl ⟨rfl, _, (by walk_at "sq")⟩, ?_⟩
  | refine ⟨_, _, rfl, ?_⟩)
local macro_rules | `(tactic| walk_at "nrm") => `(tactic| dsimp only [tNil, tCons, tC, tCB])
local macro_rules | `(tactic| walk_at "ev") => `(tactic| repeat (walk_at "ev1"))

/-- the first row of a pair stands as a tuple whose object is known -/
def TupW (H : Hp) (v : V) (xs : List V) : Prop := ∃ (a0 a1 a2 : Addr) (ob : Obj), v = .ref a0 ∧ H a0 = some (.tup [.ref a1, .ref a2]) ∧ H a1 = some (.frz ob (.tup xs)) ∧ ob.cls = .type "tuple" ∧ ob.dict = none
/-! ### nets as data -/
structure QD where
  nm : Str
  st : Str
  en : Str
  room : Int
  gap : Int
def QD.d (f : Bool) (q : QD) : PyData := seqD f [.str q.nm, .str q.st, .str q.en, .int q.room, .int q.gap]
def netD (f : Bool) (ws : List Str) (qs : List QD) : PyData := seqD f [seqD f (ws.map PyData.str), seqD f (qs.map (QD.d f))]
def poolW : List Str := [Str.ofString "a", Str.ofString "b", Str.ofString "c.x", Str.ofString "d2", Str.ofString "k", Str.ofString "node", Str.ofString "s", Str.ofString "t", Str.ofString "w.1", Str.ofString "z"]
def poolQ : List Str := [Str.ofString "a", Str.ofString "d2", Str.ofString "e", Str.ofString "f1", Str.ofString "in.a", Str.ofString "k", Str.ofString "m", Str.ofString "out", Str.ofString "p", Str.ofString "q", Str.ofString "s", Str.ofString "v", Str.ofString "x", Str.ofString "z"]
structure GoodNet (s m : Nat) (h : Int) (ws : List Str) (qs : List QD) : Prop where
  wn : ws.Nodup
  wo : sortedS ws = true
  w2 : 2 ≤ ws.length
  wl : ws.length ≤ s
  wp : ∀ x ∈ ws, x ∈ poolW
  qn : ∃ l : List Str, l.Nodup ∧ sortedS l = true ∧ (∀ x ∈ l, x ∈ poolQ) ∧ ∃ k, qs.map QD.nm = l.take k
  q1 : 1 ≤ qs.length
  ql : qs.length ≤ m
  qq : ∀ q ∈ qs, q.st ∈ ws ∧ q.en ∈ ws ∧ q.st ≠ q.en ∧ 1 ≤ q.gap ∧ q.gap ≤ q.room ∧ q.room ≤ h
theorem cutS_at {S : List Addr} {H : Hp} {a : Addr} {o : HO} (h : H a = some o) (n : a ∉ S) : cutS S H a = some o := by
  rw [cutS_out n]
  exact h
theorem not1 {a b : Addr} (h : a ≠ b) : a ∉ [b] := fun z => h (List.mem_singleton.mp z)
theorem not2 {a b c : Addr} (h : a ≠ b) (h2 : a ≠ c) : a ∉ [b, c] := fun z => by
  rcases List.mem_cons.mp z with e | e
  · exact h e
  · exact h2 (List.mem_singleton.mp e)
theorem cutV_map {α : Type} {f : α → V} {xs : List α} {k : Nat} : cutV (xs.map f) none (some (k : Int)) = (xs.take k).map f := by
  unfold cutV
  rw [List.length_map, show HT.sIx xs.length 0 none = 0 from HT.sIx_none _ _, show HT.sIx xs.length xs.length (some (k : Int)) = min k xs.length from HT.sIx_nat _ _ _, Nat.sub_zero, List.drop_zero, ← List.map_take]
  congr 1
  by_cases h : k ≤ xs.length
  · rw [Nat.min_eq_left h]
  · rw [Nat.min_eq_right (by omega), List.take_of_length_le (by omega), List.take_of_length_le (by omega)]
end Jl

set_option Elab.async false
set_option linter.all false
set_option maxRecDepth 100000
set_option maxHeartbeats 4000000
set_option pp.maxSteps 900
namespace Jl
open PySem PySem.Spec PyProof.Rows L2
open Evl (sz_of sz_lt)
local macro_rules | `(tactic| walk_at "at") => `(tactic| first | exact box0 | exact box1 | exact box2)
local macro_rules | `(tactic| walk_at "sq") => `(tactic| first | (show SqL _ _ _ _; assumption) | (show SqT _ _ _ _; assumption) | (show _ = some _; assumption))
local macro_rules | `(tactic| walk_at "side") => `(tactic| first
  | (show (0 : Int) < _; decide)
  | (show (0 : Int) < _; omega)
  | exact ⟨by decide, by decide, by decide⟩
  | exact sz_of (Nat.le_of_ble_eq_true rfl)
  | exact rfl
  | exact Or.inl (by decide)
  | exact Or.inr (by decide)
  | exact Or.inr ⟨by omega, by omega⟩
  | exact Or.inl ⟨by omega, by omega⟩
  | exact ⟨by decide, by decide +kernel⟩)
local macro_rules | `(tactic| walk_at "ev1") => `(tactic| first
  | refine ⟨_, rfl, ?_⟩
  | refine ⟨_, _, rfl, rfl, ?_⟩
  | refine ⟨_, _, _, _, rfl, rfl, (by walk_at "sq"), (by walk_at "at"), ?_⟩
  | refine ⟨_, _, rfl, (by walk_at "sq"), ?_⟩
  | refine ⟨_, _, rfl, Or.inl (by walk_at "sq"), ?_⟩
  | refine ⟨_, _, rfl, Or.inr (by walk_at "sq"), ?_⟩
  | refine Or.inl ⟨_, rfl, ?_⟩
  | refine Or.inr ⟨_, rfl, ?_⟩
  | refine ⟨(by walk_at "side"), ?_⟩
  | refine ⟨.inl ⟨rfl, _, (by walk_at "sq")⟩, ?_⟩
  | refine ⟨_, _, rfl, ?_⟩)
local macro_rules | `(tactic| walk_at "nrm") => `(tactic| dsimp only [tNil, tCons, tC, tCB])
local macro_rules | `(tactic| walk_at "ev") => `(tactic| repeat (walk_at "ev1"))

/-! ### dict comprehensions by a walk -/
section
variable {X : Cx}
inductive DcP (wi : TI) (g : TG) (tt : TT) (tk tv : TE) (vs : List Nat) (σ : L2.St) (H : Hp) (Q : VK) : Prop
  | yes (h : tDc wi g tt tk tv vs σ H Q)
  | no (h : False)
def tDcX (wi : TI) (g : TG) (tt : TT) (tk tv : TE) (vs : List Nat) : TE := fun σ H Q => DcP wi g tt tk tv vs σ H Q
theorem pe_dcX {e : Expr} {wi : TI} {g : TG} {tt : TT} {tk tv : TE} {vs : List Nat} (h : PE X e (tDc wi g tt tk tv vs)) : PE X e (tDcX wi g tt tk tv vs) := ⟨fun pins s σ H Q I q => by
  cases q with
  | yes q => exact h.run pins s σ H Q I q
  | no q => exact q.elim⟩
theorem swd_true {kx vx : Expr} {gs : List Comprehension} {scope : Scope} {pos py : Pos} {y : Str} {l : Nat} {env : Env} (h1 : env.scope.kind = .function) (h2 : env.scope.names.lookup y = some .local) (h3 : (py.line == pos.line) = true)
    (h4 : (scope.names.any fun (n, k) => n == y && (k == .local || k == .cell)) = false) : swapsWith (.DictComp kx vx gs scope pos) (some (.Name y py)) l env = pure true := by
  have g1 : env.blockKind = .function := by
    unfold Env.blockKind
    rw [h1]
    rfl
  have g2 : env.kindOf y = some .local := h2
  unfold swapsWith
  simp only [g1, g2, h4, Expr.pos, h3]
  rfl
/-- y = {k: v for ..}: the name is stored within the comprehension's block -/
theorem ps_setDc {i : Nat} {y : Str} {py : Pos} {kx vx tg iter : Expr} {ifs : List Expr} {scope : Scope} {own : List (Str × Nat)} {pos spos : Pos} {wi : TI} {g : TG} {tt : TT} {tk tv : TE} (hc : X.calm = true) (hN : X.N.Nodup) (hy : X.N[i]? = some y) (hyl : X.env.scope.names.lookup y = some .local)
    (hsw : swapsWith (.DictComp kx vx [⟨tg, iter, ifs, 0⟩] scope pos) (some (.Name y py)) spos.line X.env = pure true) (hi : PI X tg iter wi) (ok : BlkOk X.N X.env.scope scope own)
    (hg : ∀ (s : Shared) (H : Hp) (C : Addr) (cl : List (Str × Addr)) (fp : List Addr), PG (X.blk s H scope (compEnvC scope cl C X.env) fp) tg g) (ht : ∀ (s : Shared) (H : Hp) (C : Addr) (cl : List (Str × Addr)) (fp : List Addr), PTs (X.blk s H scope (compEnvC scope cl C X.env) fp) ifs tt)
    (hk : ∀ (s : Shared) (H : Hp) (C : Addr) (cl : List (Str × Addr)) (fp : List Addr), PE (X.blk s H scope (compEnvC scope cl C X.env) fp) kx tk)
    (he : ∀ (s : Shared) (H : Hp) (C : Addr) (cl : List (Str × Addr)) (fp : List Addr), PE (X.blk s H scope (compEnvC scope cl C X.env) fp) vx tv) (hs : ∀ x, foldedSetIterable iter X.env x = pure x := by intro _; rfl) :
    PS X (.Assign [.Name y py] (.DictComp kx vx [⟨tg, iter, ifs, 0⟩] scope pos) spos) (tAsg (tDc wi g tt tk tv (own.map (·.2))) (gName i)) := ⟨fun pins s σ H D I h => by
  rw [exec_Assign_Name_used _ _ _ _ hsw]
  have h' : tDc wi g tt tk tv (own.map (·.2)) σ H (fun x H1 => gName i x σ H1 D.nx) := h
  have core := dc_core (pos := pos) (pos' := firstIterPos [⟨tg, iter, ifs, 0⟩] pos) (use := some (assign (.Name y py) X.env)) (Qf := fun _ s' => SP X pins D .next s') hc hN I hi ok hg ht hk he hs h' (fun L C s' m H' I' q hn f => by
    obtain ⟨f0, f1, f2, f3, f4, f5⟩ := f
    show wpAny _ _ (assign (.Name y py) X.env (.ref L)) _ _ _
    exact wpAny_assign_Name (store_ok2 (v := V.ref L) I' hN hy (.inl hyl) rfl (fun s2 I2 ⟨a, sb, ha⟩ => ⟨m, hn.sameBut sb (by
      rcases ha with z | z
      · rw [z]
        exact f1
      · exact fun e => f4 y a z e.symm), fun h3 sb3 => ⟨_, H', I2.turned (t' := s2.toks) (fun b o hb e => (sb3.2 b hb).trans e) f0 f1 f3 f4 f5, q⟩⟩) (.inr hyl)))
  exact wpAny_bind (wpAny_standAt (wpAny_bind (wpAny_bind (thn core fun _ s' hq => wpAny_pure (wpAny_pure hq)))))⟩
theorem ps_setDcX {st : Stmt} {i : Nat} {wi : TI} {g : TG} {tt : TT} {tk tv : TE} {vs : List Nat} (h : PS X st (tAsg (tDc wi g tt tk tv vs) (gName i))) : PS X st (tAsg (tDcX wi g tt tk tv vs) (gName i)) := ⟨fun pins s σ H D I q => by
  have q : DcP wi g tt tk tv vs σ H (fun x H1 => gName i x σ H1 D.nx) := q
  cases q with
  | yes q => exact h.run pins s σ H D I q
  | no q => exact q.elim⟩
theorem dc_of {wi : TI} {g : TG} {tt : TT} {tk tv : TE} {vs : List Nat} {σ : L2.St} {H : Hp} {Q : VK} (q : tDc wi g tt tk tv vs σ H Q) : tDcX wi g tt tk tv vs σ H Q := .yes q
end
/-- {x: f x for x in a row of texts} -/
theorem dc_strs {K : PySem.W.Frag} {tl tk tv : TE} {j : Nat} {vs : List Nat} {σ : L2.St} {H H0 : Hp} {Q : VK} {a : Addr} {fb : Bool} {xs : List Str} (f : Str → V) (hn : xs.Nodup)
    (ht : ∀ R' : VK, R' (.ref a) H0 → tl σ H R') (hs : SqF fb K H0 a (xs.map V.str)) (hl : xs.length ≤ 1000) (hw : ∀ x, wipe ((wipe σ vs).set j (some x)) vs = wipe σ vs)
    (hk : ∀ (x : Str) (H1 : Hp) (Q' : VK), Q' (.str x) H1 → tk ((wipe σ vs).set j (some (.str x))) H1 Q') (hv : ∀ (x : Str) (H1 : Hp) (Q' : VK), Q' (f x) H1 → tv ((wipe σ vs).set j (some (.str x))) H1 Q')
    (q : ∀ D, H0 D = none → Q (.ref D) (upd H0 D (.dK (xs.map fun x => (.inr x, f x))))) : tDcX (iSeq K tl) (gName j) tYes tk tv vs σ H Q := by
  refine dc_of ?_
  refine iSeq_at ht hs fun J w D hD => ?_
  refine ⟨fun i m H1 => m = xs.length - i ∧ i ≤ xs.length ∧ H1 = upd H0 D (.dK ((xs.take i).map fun x => (.inr x, f x))), ⟨_, rfl, Nat.zero_le _, rfl⟩, fun i m H1 hW => ?_⟩
  obtain ⟨rfl, hi, rfl⟩ := hW
  have hG : SqF fb K (upd H0 D (.dK ((xs.take i).map fun x => (.inr x, f x)))) a (xs.map V.str) := (Same.upd hD).sqF hs
  have hxl : (xs.map V.str).length = xs.length := List.length_map ..
  by_cases hlt : i < xs.length
  · refine .inr ⟨w.goes i _ (by omega) hG, fun H2 => H2 = upd H0 D (.dK ((xs.take (i + 1)).map fun x => (.inr x, f x))), fun H2 e => ⟨xs.length - (i + 1), by omega, rfl, hlt, e⟩, fun x H2 y => ?_⟩
    obtain ⟨rfl, hx⟩ := w.yields i _ x H2 (by omega) hG y
    rw [List.getElem?_map, List.getElem?_eq_getElem hlt] at hx
    cases hx
    refine ⟨hw _, ?_⟩
    dsimp only [tYes]
    rw [if_pos rfl]
    refine hk _ _ _ (hv _ _ _ ⟨_, .inr xs[i], rfl, upd_same, ?_, ?_⟩)
    · rw [List.length_map, List.length_take]
      exact sz_lt (by omega)
    · rw [upd_upd, List.take_add_one, List.getElem?_eq_getElem hlt, List.map_append, putK_new]
      · rfl
      · have hno : ∀ ys : List Str, xs[i] ∉ ys → valV (ys.map fun x => ((.inr x : Key), f x)) (.inr xs[i]) = none := by
          intro ys
          induction ys with
          | nil => exact fun _ => rfl
          | cons y ys ih =>
            intro hy
            rw [List.map_cons, valV_neg (fun e => hy (by rw [← Sum.inr.inj e]; exact List.mem_cons_self))]
            exact ih fun h => hy (List.mem_cons_of_mem _ h)
        refine hno _ fun hm => ?_
        obtain ⟨k, hk1, hk2⟩ := List.mem_take_iff_getElem.mp hm
        have := nd_ix hn (List.getElem?_eq_getElem hlt) (by rw [List.getElem?_eq_getElem (show k < xs.length by omega)]; exact congrArg some hk2)
        omega
  · have e : i = xs.length := by omega
    subst e
    refine .inl ⟨?_, ?_⟩
    · have := w.stops _ hG
      rw [hxl] at this
      exact this
    · rw [List.take_length]
      exact q D hD
/-- tuple(x) of a list or a tuple -/
def rTupOf (K : PySem.W.Frag) : List V → Hp → VK → Prop := fun xs H Q => ∃ p ys, xs = [.ref p] ∧ ((SqL K H p ys ∧ ∀ l, H l = none → Q (.ref l) (upd H l (.tup ys))) ∨ (SqT K H p ys ∧ Q (.ref p) H))
theorem call_tup_of {X : Cx} : CallR X (.type "tuple") (rTupOf X.K) := call_tuple_of
/-! ### sorted of data -/
def rSortD (K : PySem.W.Frag) : List V → Hp → VK → Prop := fun vs H Q => ∃ (a : Addr) (bs : List (V × PyData)), vs = [.ref a] ∧ SqL K H a (bs.map (·.1)) ∧ (∀ b ∈ bs, Dp K H b.1 b.2) ∧ PySem.W.AllAlike (bs.map (·.2)) ∧ PySem.W.Sortable (bs.map (·.2)) ∧ (∀ b ∈ bs, b.2.depth ≤ 30) ∧
  ∀ p, H p = none → Q (.ref p) (upd H p (.lst ((bs.mergeSort (PySem.W.dataLe false (·.2))).map (·.1))))
section
variable {X : Cx}
theorem each_vals : ∀ {us : List Value} {bs : List (V × PyData)}, Vals (bs.map (·.1)) us → PySem.W.EachIs (fun u b => RelV b.1 u) us bs
  | _, [], .nil => .nil
  | _, _ :: _, .cons r t => .cons r (each_vals t)
theorem vals_each : ∀ {us : List Value} {bs : List (V × PyData)}, PySem.W.EachIs (fun u b => RelV b.1 u) us bs → Vals (bs.map (·.1)) us
  | _, _, .nil => .nil
  | _, _, .cons r t => .cons r (vals_each t)
theorem cr_sortedD (hc : X.calm = true) (hu : X.A.units + 64 < cLine) : CallR X (.builtin "sorted") (rSortD X.K) := by
  intro pins s σ H vs us Q I r h
  obtain ⟨a, bs, rfl, hs, hd, hal, hso, hdp, q⟩ := h
  obtain ⟨its, rv, hl, hz⟩ := I.list hs
  rw [Vals.ref1 r]
  have he := each_vals rv
  have hr : ∀ (us : List Value) (bs : List (V × PyData)), (∀ b ∈ bs, Dp X.K H b.1 b.2) → PySem.W.EachIs (fun u b => RelV b.1 u) us bs → PySem.W.EachIs (fun u b => ∃ as, Reads s.heap u b.2 as) us bs := by
    intro us bs hd he
    induction he with
    | nil => exact .nil
    | @cons u b us bs h1 h2 ih => exact .cons (Dp.reads I b.2 b.1 u (hd b List.mem_cons_self) h1) (ih fun b hb => hd b (List.mem_cons_of_mem _ hb))
  have hlen : bs.length = its.length := by have := rv.length; rw [List.length_map] at this; exact this
  refine PySem.W.sorted_data (enc := (·.2)) hl.isList he (hr _ _ hd he) hal hso (by rw [List.length_map] at hz; exact hz) (fun b hb => by have := hdp b hb; omega) fun out hol ho => ?_
  obtain ⟨ep, he'⟩ := PyProof.Rows.sortedAll_at s.heap its out.toArray
  have hlen2 : ((bs.mergeSort (PySem.W.dataLe false (·.2))).map (·.1)).length ≤ sizeLine := by
    rw [List.length_map, List.length_mergeSort]
    rw [List.length_map] at hz
    exact hz
  exact ⟨.ref _, upd H (s.heap.objs.size + 1) (.lst _), I.laid (t' := s.toks) (fun _ _ => PyProof.Rows.sortedAll_old) (Nat.le_succ _) ⟨hlen2, out, ep, vals_each ho, he'⟩, rfl, q _ (I.hok.fresh (Nat.le_succ _))⟩
end
end Jl

set_option Elab.async false
set_option linter.all false
set_option maxRecDepth 100000
set_option maxHeartbeats 4000000
set_option pp.maxSteps 900
namespace Jl
open PySem PySem.Spec PyProof.Rows L2
open Evl (sz_of sz_lt)
local macro_rules | `(tactic| walk_at "at") => `(tactic| first | exact box0 | exact box1 | exact box2)
local macro_rules | `(tactic| walk_at "sq") => `(tactic| first | (show SqL _ _ _ _; assumption) | (show SqT _ _ _ _; assumption) | (show _ = some _; assumption))
local macro_rules | `(tactic| walk_at "side") => `(tactic| first
  | (show (0 : Int) < _; decide)
  | (show (0 : Int) < _; omega)
  | exact ⟨by decide, by decide, by decide⟩
  | exact sz_of (Nat.le_of_ble_eq_true rfl)
  | exact rfl
  | exact Or.inl (by decide)
  | exact Or.inr (by decide)
  | exact Or.inr ⟨by omega, by omega⟩
  | exact Or.inl ⟨by omega, by omega⟩
  | exact ⟨by decide, by decide +kernel⟩)
local macro_rules | `(tactic| walk_at "ev1") => `(tactic| first
  | refine ⟨_, rfl, ?_⟩
  | refine ⟨_, _, rfl, rfl, ?_⟩
  | refine ⟨_, _, _, _, rfl, rfl, (by walk_at "sq"), (by walk_at "at"), ?_⟩
  | refine ⟨_, _, rfl, (by walk_at "sq"), ?_⟩
  | refine ⟨_, _, rfl, Or.inl (by walk_at "sq"), ?_⟩
  | refine ⟨_, _, rfl, Or.inr (by walk_at "sq"), ?_⟩
  | refine Or.inl ⟨_, rfl, ?_⟩
  | refine Or.inr ⟨_, rfl, ?_⟩
  | refine ⟨(by walk_at "side"), ?_⟩
  | refine ⟨.inl ⟨rfl, _, (by walk_at "sq")⟩, ?_⟩
  | refine ⟨_, _, rfl, ?_⟩)
local macro_rules | `(tactic| walk_at "nrm") => `(tactic| dsimp only [tNil, tCons, tC, tCB])
local macro_rules | `(tactic| walk_at "ev") => `(tactic| repeat (walk_at "ev1"))

theorem vals_app : ∀ {vs : List V} {us : List Value} {zs : List V} {ws : List Value}, Vals vs us → Vals zs ws → Vals (vs ++ zs) (us ++ ws)
  | _, _, _, _, .nil, h => h
  | _, _, _, _, .cons r t, h => .cons r (vals_app t h)
section
variable {X : Cx} {CX : CXT} {k : Nat} {f : Addr} {fd : FuncData} {ps ks : List Str} {sp : Sp} {E : XK} {x : Str} {p pos : Pos} {kws : List Keyword} {tk : TA} {g : List Value → List Value → List Value} {gV : List V → List V → List V}
def tCallK0 (sp : Sp) (gV : List V → List V → List V) (E : XK) (tk : TA) : TE := fun σ H Q => tk σ H fun zs H2 => sp (gV [] zs) H2 Q E
/-- f(k = e, ..), nothing by position -/
theorem pe_callK0 (F : FnOk X.prog X.w X.K X.mg X.base CX k f fd ps sp) (hr : Room k X.A) (hg : Gl X x) (hm : X.mg x = some (.ref f)) (hk : PySem.W.keepIn X.K (.ref f) = true) (hb : KBinds X.K fd ps ks g gV) (hx : Passes CX X E)
    (hkw : PK X kws tk) (hall : (backToKw pos (keywordEach kws X.env)).all (·.1.isSome) = true := by rfl) (hks : (backToKw pos (keywordEach kws X.env)).filterMap (·.1) = ks := by rfl)
    (hdb : (x == ("__debug__" : Str)) = false := by decide) (hpl : ((backTo pos (starEach [] X.env)).any (·.1) || (backToKw pos (keywordEach kws X.env)).any (·.1.isNone)) = false := by rfl) :
    PE X (.Call (.Name x p) [] kws pos) (tCallK0 sp gV E tk) := by
  refine ⟨fun pins s σ H Q I h => ?_⟩
  refine wpAny_Call_Name_kw (ld_glob I hg hm ?_ hdb)
  refine PySem.W.callWith_KW0 (h₀ := X.base) I.ok.mod.kin hk hall (thn (hkw.run pos pins s σ H _ I h) fun ws s2 ⟨zs, H2, I2, rz, q2⟩ => ⟨I2.kIn, ?_⟩) hpl
  rw [hks]
  exact run_fnk (us := []) (vs := []) F hr hb hx I2 .nil rz q2
end
/-! ### data of nets: shape, depth -/
theorem canAll : ∀ {ds : List PyData}, (∀ d ∈ ds, d.canLay0 = true) → PyData.canLayAll0 ds = true
  | [], _ => by simp [PyData.canLayAll0]
  | d :: ds, h => by
    rw [PyData.canLayAll0, h d List.mem_cons_self, canAll fun e he => h e (List.mem_cons_of_mem _ he)]
    rfl
theorem depAll {n : Nat} : ∀ {ds : List PyData}, (∀ d ∈ ds, d.depth ≤ n) → PyData.depthAll ds ≤ n
  | [], _ => by simp [PyData.depthAll]
  | d :: ds, h => by
    rw [PyData.depthAll]
    exact Nat.max_le.mpr ⟨h d List.mem_cons_self, depAll fun e he => h e (List.mem_cons_of_mem _ he)⟩
theorem poolW_ok : ∀ x ∈ poolW, PyData.strOk x = true := by decide +kernel
theorem poolQ_ok : ∀ x ∈ poolQ, PyData.strOk x = true := by decide +kernel
theorem GoodNet.nm_ok {s m : Nat} {h : Int} {ws : List Str} {qs : List QD} (g : GoodNet s m h ws qs) : ∀ q ∈ qs, PyData.strOk q.nm = true := fun q hq => by
  obtain ⟨l, _, _, hl, k, e⟩ := g.qn
  have : q.nm ∈ l.take k := by
    rw [← e]
    exact List.mem_map.mpr ⟨q, hq, rfl⟩
  exact poolQ_ok _ (hl _ (List.mem_of_mem_take this))
theorem can_seq {f : Bool} {ds : List PyData} (h : ∀ d ∈ ds, d.canLay0 = true) : (seqD f ds).canLay0 = true := by
  cases f with
  | true =>
    show (PyData.tuple ds).canLay0 = true
    rw [PyData.canLay0]
    exact canAll h
  | false =>
    show (PyData.list ds).canLay0 = true
    rw [PyData.canLay0]
    exact canAll h
theorem dep_seq {f : Bool} {n : Nat} {ds : List PyData} (h : ∀ d ∈ ds, d.depth ≤ n) : (seqD f ds).depth ≤ n + 1 := by
  cases f with
  | true =>
    show (PyData.tuple ds).depth ≤ n + 1
    rw [PyData.depth]
    have := depAll h
    omega
  | false =>
    show (PyData.list ds).depth ≤ n + 1
    rw [PyData.depth]
    have := depAll h
    omega
theorem mem2 {α : Type} {a b x : α} (h : x ∈ [a, b]) : x = a ∨ x = b := by simpa using h
theorem mem5 {α : Type} {a b c d e x : α} (h : x ∈ [a, b, c, d, e]) : x = a ∨ x = b ∨ x = c ∨ x = d ∨ x = e := by simpa using h
theorem net_shaped {f : Bool} {s m : Nat} {h : Int} {ws : List Str} {qs : List QD} (g : GoodNet s m h ws qs) : SeqAt.shaped (netD f ws qs) = true := by
  have c1 : ∀ x ∈ ws, (PyData.str x).canLay0 = true := fun x hx => by
    rw [PyData.canLay0]
    exact poolW_ok x (g.wp x hx)
  have h1 : (netD f ws qs).canLay0 = true := can_seq fun d hd => by
    rcases mem2 hd with rfl | rfl
    · refine can_seq fun d hd => ?_
      obtain ⟨x, hx, rfl⟩ := List.mem_map.mp hd
      exact c1 x hx
    · refine can_seq fun d hd => ?_
      obtain ⟨q, hq, rfl⟩ := List.mem_map.mp hd
      refine can_seq fun d hd => ?_
      have hw := g.qq q hq
      rcases mem5 hd with rfl | rfl | rfl | rfl | rfl
      · rw [PyData.canLay0]
        exact g.nm_ok q hq
      · exact c1 _ hw.1
      · exact c1 _ hw.2.1
      · simp [PyData.canLay0]
      · simp [PyData.canLay0]
  have h2 : (netD f ws qs).depth ≤ 3 := dep_seq (n := 2) fun d hd => by
    rcases mem2 hd with rfl | rfl
    · refine dep_seq (n := 1) fun d hd => ?_
      obtain ⟨x, hx, rfl⟩ := List.mem_map.mp hd
      simp [PyData.depth]
    · refine dep_seq (n := 1) fun d hd => ?_
      obtain ⟨q, hq, rfl⟩ := List.mem_map.mp hd
      refine dep_seq (n := 0) fun d hd => ?_
      rcases mem5 hd with rfl | rfl | rfl | rfl | rfl <;> simp [PyData.depth]
  unfold SeqAt.shaped
  rw [h1, decide_eq_true (show (netD f ws qs).depth ≤ 64 by omega)]
  rfl
theorem okD_str {n : Nat} {x : Str} : okD (n + 1) (.str x) := trivial
theorem okD_int {n : Nat} {i : Int} : okD (n + 1) (.int i) := trivial
theorem net_okD {f : Bool} {ws : List Str} {qs : List QD} (h1 : ws.length ≤ 60) (h2 : qs.length ≤ 60) : okD 4 (netD f ws qs) :=
  okD_seq.mpr ⟨by show 2 ≤ 4000000; decide, fun d hd => by
    rcases mem2 hd with rfl | rfl
    · refine okD_seq.mpr ⟨by rw [List.length_map]; omega, fun d hd => ?_⟩
      obtain ⟨x, hx, rfl⟩ := List.mem_map.mp hd
      exact okD_str
    · refine okD_seq.mpr ⟨by rw [List.length_map]; omega, fun d hd => ?_⟩
      obtain ⟨q, hq, rfl⟩ := List.mem_map.mp hd
      refine okD_seq.mpr ⟨by show 5 ≤ 4000000; decide, fun d hd => ?_⟩
      rcases mem5 hd with rfl | rfl | rfl | rfl | rfl
      · exact okD_str
      · exact okD_str
      · exact okD_str
      · exact okD_int
      · exact okD_int⟩
theorem net_lists {f : Bool} {ws : List Str} {qs : List QD} : listsD (netD f ws qs) = netD false ws qs := by
  unfold netD
  rw [listsD_seq]
  show PyData.list [listsD _, listsD _] = PyData.list [_, _]
  rw [listsD_seq, listsD_seq, List.map_map, List.map_map]
  have e1 : ws.map (listsD ∘ PyData.str) = ws.map PyData.str := List.map_congr_left fun _ _ => rfl
  have e2 : qs.map (listsD ∘ QD.d f) = qs.map (QD.d false) := List.map_congr_left fun q _ => by
    show listsD (seqD f _) = _
    rw [listsD_seq]
    rfl
  rw [e1, e2]
  rfl
/-- a new tuple of data -/
theorem dp_tup {K : PySem.W.Frag} {S : List Addr} {H : Hp} {p : Addr} {xs : List V} {ds : List PyData} (t : Trk S H) (hp : H p = none) (h : DpAll K (cutS S H) xs ds) : Dp K (cutS S (upd H p (.tup xs))) (.ref p) (.tuple ds) :=
  .tup (sqt_of (cutS_new t hp)) ((cutS_mono (.upd hp)).dpa h)
theorem dp_lst {K : PySem.W.Frag} {S : List Addr} {H : Hp} {p : Addr} {xs : List V} {ds : List PyData} (t : Trk S H) (hp : H p = none) (h : DpAll K (cutS S H) xs ds) : Dp K (cutS S (upd H p (.lst xs))) (.ref p) (.list ds) :=
  .lst (sql_of (cutS_new t hp)) ((cutS_mono (.upd hp)).dpa h)
theorem TupW.mono {H H' : Hp} {v : V} {xs : List V} (h : TupW H v xs) (e : Same H H') : TupW H' v xs := by
  obtain ⟨a0, a1, a2, ob, rfl, h0, h1, h2, h3⟩ := h
  exact ⟨a0, a1, a2, ob, rfl, e _ _ h0, e _ _ h1, h2, h3⟩
theorem mem3 {α : Type} {a b c x : α} (h : x ∈ [a, b, c]) : x = a ∨ x = b ∨ x = c := by simpa using h
theorem dpn_tup {K : PySem.W.Frag} {H : Hp} {p : Addr} {xs : List V} {ds : List PyData} (hp : H p = none) (h : DpAll K H xs ds) : Dp K (upd H p (.tup xs)) (.ref p) (.tuple ds) := .tup (sqt_of upd_same) ((Same.upd hp).dpa h)
theorem dpn_lst {K : PySem.W.Frag} {H : Hp} {p : Addr} {xs : List V} {ds : List PyData} (hp : H p = none) (h : DpAll K H xs ds) : Dp K (upd H p (.lst xs)) (.ref p) (.list ds) := .lst (sql_of upd_same) ((Same.upd hp).dpa h)
theorem dpn_row {K : PySem.W.Frag} {H : Hp} {p : Addr} {a b c : Str} {r g : Int} (hp : H p = none) : Dp K (upd H p (.tup [.str a, .str b, .str c, .int r, .int g])) (.ref p) (QD.d true ⟨a, b, c, r, g⟩) :=
  dpn_tup hp (.cons (.str _) (.cons (.str _) (.cons (.str _) (.cons (.int _) (.cons (.int _) .nil)))))
section
variable {K : PySem.W.Frag}
/-- a net as it is read: a list or a tuple, its rows -/
structure NetAt (K : PySem.W.Frag) (H : Hp) (fb : Bool) (a0 a1 a2 : Addr) (ws : List Str) (qs : List QD) (xq : List V) : Prop where
  h0 : SqF fb K H a0 [.ref a1, .ref a2]
  h1 : SqF fb K H a1 (ws.map V.str)
  h2 : SqF fb K H a2 xq
  hq : ∀ (i : Nat) (v : V), xq[i]? = some v → ∃ (q : QD) (a : Addr), qs[i]? = some q ∧ v = .ref a ∧ SqF fb K H a [.str q.nm, .str q.st, .str q.en, .int q.room, .int q.gap]
  ll : xq.length = qs.length
theorem NetAt.same {H H' : Hp} {fb : Bool} {a0 a1 a2 : Addr} {ws : List Str} {qs : List QD} {xq : List V} (n : NetAt K H fb a0 a1 a2 ws qs xq) (e : Same H H') : NetAt K H' fb a0 a1 a2 ws qs xq :=
  ⟨e.sqF n.h0, e.sqF n.h1, e.sqF n.h2, fun i v h => by
    obtain ⟨q, a, g1, g2, g3⟩ := n.hq i v h
    exact ⟨q, a, g1, g2, e.sqF g3⟩, n.ll⟩
theorem netAt {H : Hp} {fb : Bool} {v : V} {ws : List Str} {qs : List QD} (h : Dp K H v (netD fb ws qs)) : ∃ a0 a1 a2 xq, v = .ref a0 ∧ NetAt K H fb a0 a1 a2 ws qs xq := by
  obtain ⟨a0, x0, rfl, h0, hx⟩ := Dp.seq_of h
  cases hx with
  | cons d1 hx =>
    cases hx with
    | cons d2 hx =>
      cases hx
      obtain ⟨a1, x1, rfl, h1, hx1⟩ := Dp.seq_of d1
      obtain ⟨a2, x2, rfl, h2, hx2⟩ := Dp.seq_of d2
      rw [dpa_strs_of hx1] at h1
      refine ⟨a0, a1, a2, x2, rfl, h0, h1, h2, fun i v hv => ?_, by rw [dpa_len hx2, List.length_map]⟩
      obtain ⟨d, hd, hvd⟩ := dpa_get hx2 hv
      rw [List.getElem?_map] at hd
      cases e : qs[i]? with
      | none =>
        rw [e] at hd
        cases hd
      | some q =>
        rw [e] at hd
        cases hd
        obtain ⟨a, x, rfl, g1, g2⟩ := Dp.seq_of hvd
        cases g2 with
        | cons c1 g2 =>
          cases g2 with
          | cons c2 g2 =>
            cases g2 with
            | cons c3 g2 =>
              cases g2 with
              | cons c4 g2 =>
                cases g2 with
                | cons c5 g2 =>
                  cases g2
                  cases c1
                  cases c2
                  cases c3
                  cases c4
                  cases c5
                  exact ⟨q, a, rfl, rfl, g1⟩
end
end Jl

set_option Elab.async false
set_option linter.all false
set_option maxRecDepth 100000
set_option maxHeartbeats 1000000
set_option pp.maxSteps 300
namespace Jl
open PySem PySem.Spec PyProof.Rows L2
open Evl (sz_of sz_lt)
local macro_rules | `(tactic| walk_at "at") => `(tactic| first | exact box0 | exact box1 | exact box2)
local macro_rules | `(tactic| walk_at "sq") => `(tactic| first | (show SqL _ _ _ _; assumption) | (show SqT _ _ _ _; assumption) | (show _ = some _; assumption))
local macro_rules | `(tactic| walk_at "side") => `(tactic| first
  | (show (0 : Int) < _; decide)
  | (show (0 : Int) < _; omega)
  | exact ⟨by decide, by decide, by decide⟩
  | exact sz_of (Nat.le_of_ble_eq_true rfl)
  | exact rfl
  | exact Or.inl (by decide)
  | exact Or.inr (by decide)
  | exact Or.inr ⟨by omega, by omega⟩
  | exact Or.inl ⟨by omega, by omega⟩
  | exact ⟨by decide, by decide +kernel⟩)
local macro_rules | `(tactic| walk_at "ev1") => `(tactic| first
  | refine ⟨_, rfl, ?_⟩
  | refine ⟨_, _, rfl, rfl, ?_⟩
  | refine ⟨_, _, _, _, rfl, rfl, (by walk_at "sq"), (by walk_at "at"), ?_⟩
  | refine ⟨_, _, rfl, (by walk_at "sq"), ?_⟩
  | refine ⟨_, _, rfl, Or.inl (by walk_at "sq"), ?_⟩
  | refine ⟨_, _, rfl, Or.inr (by walk_at "sq"), ?_⟩
  | refine Or.inl ⟨_, rfl, ?_⟩
  | refine Or.inr ⟨_, rfl, ?_⟩
  | refine ⟨(by walk_at "side"), ?_⟩
  | refine ⟨.inl ⟨rfl, _, (by walk_at "sq")⟩, ?_⟩
  | refine ⟨_, _, rfl, ?_⟩)
local macro_rules | `(tactic| walk_at "nrm") => `(tactic| dsimp only [tNil, tCons, tC, tCB])
local macro_rules | `(tactic| walk_at "ev") => `(tactic| repeat (walk_at "ev1"))

abbrev sc_idle_N : List Str := ["net", "left", "before", "fed", "worker", "queue"]
abbrev s_idle : Stmt := topS 1
theorem sc_idle : FnScope ["net", "left", "before", "fed", "worker", "queue"] ["net"] (defScope s_idle) := ⟨rfl, rfl, rfl, by decide +kernel, rfl, by decide +kernel, by decide +kernel⟩
/-! ### dicts of names -/
def kvT (ks : List Str) : List (Key × V) := ks.map fun k => (.inr k, V.bl true)
theorem inT {k : Str} : ∀ {ks : List Str}, (valV (kvT ks) (.inr k)).isSome = decide (k ∈ ks)
  | [] => rfl
  | a :: ks => by
    by_cases e : a = k
    · rw [show kvT (a :: ks) = ((.inr a : Key), V.bl true) :: kvT ks from rfl, valV_pos (congrArg Sum.inr e), decide_eq_true (by rw [e]; exact List.mem_cons_self)]
      rfl
    · rw [show kvT (a :: ks) = ((.inr a : Key), V.bl true) :: kvT ks from rfl, valV_neg (fun z => e (Sum.inr.inj z)), inT (ks := ks)]
      simp [Ne.symm e]
def addK (acc : List Str) (k : Str) : List Str := if k ∈ acc then acc else acc ++ [k]
theorem putT {acc : List Str} {k : Str} : putK (kvT acc) (.inr k) (.bl true) = kvT (addK acc k) := by
  unfold putK addK
  rw [valV_any, inT]
  by_cases h : k ∈ acc
  · rw [decide_eq_true h, if_pos rfl, if_pos h]
    unfold kvT
    rw [List.map_map]
    apply List.map_congr_left
    intro x _
    show (if (Sum.inr x : Key) = .inr k then ((Sum.inr x : Key), V.bl true) else (.inr x, V.bl true)) = _
    split <;> rfl
  · rw [decide_eq_false h, if_neg (by decide), if_neg h]
    unfold kvT
    rw [List.map_append]
    rfl
theorem addK_len {acc : List Str} {k : Str} : (addK acc k).length ≤ acc.length + 1 := by
  unfold addK
  split
  · omega
  · rw [List.length_append]
    exact Nat.le_refl _
def fedO (l : List Str) (acc : List Str) (q : QD) : List Str := if q.st ∈ l then addK acc q.en else acc
def fedL (qs : List QD) (l : List Str) : List Str := qs.foldl (fedO l) []
theorem fed_len (l : List Str) : ∀ (qs : List QD) (acc : List Str), (qs.foldl (fedO l) acc).length ≤ acc.length + qs.length
  | [], acc => Nat.le_refl _
  | q :: qs, acc => by
    rw [List.foldl_cons, List.length_cons]
    have h1 := fed_len l qs (fedO l acc q)
    have h2 : (fedO l acc q).length ≤ acc.length + 1 := by
      unfold fedO
      split
      · exact addK_len
      · omega
    omega
def stepI (qs : List QD) (l : List Str) : List Str := l.filter fun w => decide (w ∈ fedL qs l)
/-- the turns of idle -/
inductive Idl (qs : List QD) : Nat → List Str → List Str → Prop
  | stop (l : List Str) : Idl qs l.length l l
  | go (n : Nat) (l r : List Str) (hn : l.length ≠ n) (h : Idl qs l.length (stepI qs l) r) : Idl qs n l r
theorem Idl.inv_stop {qs : List QD} {n : Nat} {l r : List Str} (h : Idl qs n l r) (e : l.length = n) : r = l := by
  cases h with
  | stop l => rfl
  | go n l r hn h => exact absurd e hn
theorem Idl.inv_go {qs : List QD} {n : Nat} {l r : List Str} (h : Idl qs n l r) (e : l.length ≠ n) : Idl qs l.length (stepI qs l) r := by
  cases h with
  | stop l => exact absurd rfl e
  | go n l r hn h => exact h
def Idm (n : Nat) (l : List Str) : Nat := 2 * l.length + (if l.length = n then 0 else 1)
theorem idm_lt {qs : List QD} {n : Nat} {l : List Str} (e : l.length ≠ n) : Idm l.length (stepI qs l) < Idm n l := by
  have h : (stepI qs l).length ≤ l.length := List.length_filter_le _ _
  unfold Idm
  rw [if_neg e]
  split <;> omega
theorem Idl.total {qs : List QD} : ∀ (N n : Nat) (l : List Str), Idm n l < N → ∃ r, Idl qs n l r
  | 0, _, _, h => absurd h (Nat.not_lt_zero _)
  | N + 1, n, l, h => by
    by_cases e : l.length = n
    · subst e
      exact ⟨l, .stop l⟩
    · obtain ⟨r, hr⟩ := Idl.total N l.length (stepI qs l) (by have := idm_lt (qs := qs) e; omega)
      exact ⟨r, .go n l r e hr⟩
/-- a dict comprehension, turn by turn -/
theorem dc_it {J : It} {n : Nat} {G : Hp → Prop} {Y : Nat → Hp → V → Hp → Prop} (w : Walk J n G Y) {g : TG} {tt : TT} {tk tv : TE} {vs : List Nat} {σ : L2.St} {H1 : Hp} {D : Addr} {Qd : Hp → Prop} (Pv : Nat → Hp → Prop) (h0 : Pv 0 (upd H1 D (.dK []))) (hG : ∀ i H, i ≤ n → Pv i H → G H)
    (hs : ∀ i x H H', i < n → Pv i H → Y i H x H' → g x (wipe σ vs) H' fun σ2 H2 => wipe σ2 vs = wipe σ vs ∧ tt σ2 H2 fun b H3 =>
      if b = true then tk σ2 H3 fun y H4 => tv σ2 H4 fun z H5 => ∃ kvs k, y = kV k ∧ H5 D = some (.dK kvs) ∧ kvs.length < sizeLine ∧ Pv (i + 1) (upd H5 D (.dK (putK kvs k z))) else Pv (i + 1) H3) (hd : ∀ H, Pv n H → Qd H) :
    ∃ W : Nat → Nat → Hp → Prop, (∃ m, W 0 m (upd H1 D (.dK []))) ∧ ∀ i m H, W i m H →
      (J.stop i H ∧ Qd H) ∨ (J.go i H ∧ ∃ Nx : Hp → Prop, (∀ H', Nx H' → ∃ m', m' < m ∧ W (i + 1) m' H') ∧ ∀ x H', J.yld i H x H' → g x (wipe σ vs) H' fun σ2 H2 => wipe σ2 vs = wipe σ vs ∧ tt σ2 H2 fun b H3 =>
        if b = true then tk σ2 H3 fun y H4 => tv σ2 H4 fun z H5 => ∃ kvs k, y = kV k ∧ H5 D = some (.dK kvs) ∧ kvs.length < sizeLine ∧ Nx (upd H5 D (.dK (putK kvs k z))) else Nx H3) := by
  refine ⟨fun i m H => m = n - i ∧ i ≤ n ∧ Pv i H, ⟨n, by simp, Nat.zero_le _, h0⟩, ?_⟩
  rintro i m H ⟨rfl, hi, p⟩
  have q := hG i H hi p
  by_cases hlt : i < n
  · refine .inr ⟨w.goes i H hlt q, Pv (i + 1), fun H' p' => ⟨n - (i + 1), by omega, rfl, hlt, p'⟩, fun x H' y => hs i x H H' hlt p (w.yields i H x H' hlt q y)⟩
  · have e : i = n := by omega
    subst e
    exact .inl ⟨w.stops H q, hd H p⟩
section
variable {P : Program} {w : World} {K : PySem.W.Frag} {mg : Str → Option Value} {base : Heap}
def spIdle (K : PySem.W.Frag) : Sp := fun vs H Q _ => ∃ (v : V) (fb : Bool) (ws : List Str) (qs : List QD) (r : List Str), vs = [v] ∧ Dp K H v (netD fb ws qs) ∧ ws.Nodup ∧ ws.length ≤ 1000 ∧ qs.length ≤ 1000 ∧ Idl qs 0 ws r ∧
  ∀ H' p, Same H H' → SqT K H' p ((ws.filter fun x => decide (x ∈ r)).map V.str) → Q (.ref p) H'
theorem ok_idle {f : Addr} {fd : FuncData} {k : Nat} (F : Fun K "idle" "idle" s_idle f fd) (m_len : mg "len" = none) (m_tuple : mg "tuple" = none) : FnOk P w K mg base CX0 (k + 1) f fd ["net"] (spIdle K) := by
  refine F.ok sc_idle (fun vs H Q E h => ?_) (fun cdv A outer s0 H vs Q E hr h => ?_)
  · obtain ⟨v, fb, ws, qs, r, rfl, _⟩ := h
    rfl
  · obtain ⟨v, fb, ws, qs, r, rfl, hD, hn, hw, hq, hI, q⟩ := h
    have hu := hu_of hr
    refine ⟨_, (pss_cons (ps_set (i := 1) sc_idle.nd rfl (Or.inr rfl) (pe_dcX (pe_dc (own := [("worker", 4)]) (g := gName 4) (tt := tYes) (by rfl) sc_idle.nd (pi_seq (pe_ix ix_lt (pv 0) pe_int (fun _ _ => rfl))) (blkOk_by (own := [("worker", 4)]) (N := sc_idle_N) (sc := defScope s_idle) (by decide +kernel)) (fun _ _ _ _ _ => pg_name (i := 4) sc_idle.nd rfl (Or.inl rfl)) (fun _ _ _ _ _ => pts_nil) (fun _ _ _ _ _ => (pv 4)) (fun _ _ _ _ _ => pe_bl)))) 
    (pss_cons (ps_set (i := 2) sc_idle.nd rfl (Or.inl rfl) pe_int) 
    (pss_cons (ps_whileX (ps_while PassesOwn.never (pt_cmpR op_ne (pe_callB call_lenD (by rfl) m_len (by decide +kernel) (pa_cons (pv 1) pa_nil)) (pv 2) (nomark _)) 
      (pss_cons (ps_set (i := 2) sc_idle.nd rfl (Or.inl rfl) (pe_callB call_lenD (by rfl) m_len (by decide +kernel) (pa_cons (pv 1) pa_nil))) 
      (pss_cons (ps_set (i := 3) sc_idle.nd rfl (Or.inr rfl) (pe_dcX (pe_dc (own := [("queue", 5)]) (g := gName 5) (tt := tB (tDIn (tOp (rIxF K) (tVar 5) (tC (.int 1))) (tVar 1))) (tk := tOp (rIxF K) (tVar 5) (tC (.int 2))) (by rfl) sc_idle.nd (pi_seq (pe_ix ix_lt (pv 0) pe_int (fun _ _ => rfl))) (blkOk_by (own := [("queue", 5)]) (N := sc_idle_N) (sc := defScope s_idle) (by decide +kernel)) (fun _ _ _ _ _ => pg_name (i := 5) sc_idle.nd rfl (Or.inl rfl)) (fun _ _ _ _ _ => (pts_one (pt_cmp (pc_din hu (pe_ix ix_lt (pv 5) pe_int (fun _ _ => rfl)) (pv 1))))) (fun _ _ _ _ _ => (pe_ix ix_lt (pv 5) pe_int (fun _ _ => rfl))) (fun _ _ _ _ _ => pe_bl)))) 
      (pss_one (ps_set (i := 1) sc_idle.nd rfl (Or.inr rfl) (pe_lock (pe_dcX (pe_dc (own := [("worker", 4)]) (g := gName 4) (by rfl) sc_idle.nd (pi_keys (pv 1)) (blkOk_by (own := [("worker", 4)]) (N := sc_idle_N) (sc := defScope s_idle) (by decide +kernel)) (fun _ _ _ _ _ => pg_name (i := 4) sc_idle.nd rfl (Or.inl rfl)) (fun _ _ _ _ _ => (pts_one (pt_cmp (pc_din hu (pv 4) (pv 3))))) (fun _ _ _ _ _ => (pv 4)) (fun _ _ _ _ _ => pe_bl)))))))))) 
    (pss_one (ps_ret (pe_callTy call_tuple_of (by rfl) m_tuple (by decide +kernel) (pa_cons (pe_lcX (pe_lc (own := [("worker", 4)]) (g := gName 4) (by rfl) sc_idle.nd (pi_seq (pe_ix ix_lt (pv 0) pe_int (fun _ _ => rfl))) (blkOk_by (own := [("worker", 4)]) (N := sc_idle_N) (sc := defScope s_idle) (by decide +kernel)) (fun _ _ _ _ _ => pg_name (i := 4) sc_idle.nd rfl (Or.inl rfl)) (fun _ _ _ _ _ => (pts_one (pt_cmp (pc_din hu (pv 4) (pv 1))))) (fun _ _ _ _ _ => (pv 4)))) pa_nil))))))), ?_⟩
    obtain ⟨a0, a1, a2, xq, rfl, N0⟩ := netAt hD
    have i0 : atI [V.ref a1, V.ref a2] 0 = some (.ref a1) := atI_nat (j := 0) rfl
    have i1 : atI [V.ref a1, V.ref a2] 1 = some (.ref a2) := atI_nat (j := 1) rfl
    refine dc_strs (fun _ => .bl true) hn (fun R' q' => ⟨_, rfl, rIxF_at N0.h0 i0 q'⟩) N0.h1 hw (fun x => rfl) (fun x H1 Q' q' => ⟨_, rfl, q'⟩) (fun x H1 Q' q' => q') (fun M hM => ?_)
    have s1 : Same H (upd H M (.dK (ws.map fun x => (.inr x, .bl true)))) := .upd hM
    have hM1 : (upd H M (.dK (ws.map fun x => (.inr x, .bl true)))) M = some (.dK (kvT ws)) := upd_same
    try dsimp only [gName, tSeq, tAsg]
    generalize upd H M (.dK (ws.map fun x => (.inr x, .bl true))) = H1 at s1 hM1 ⊢
    walk_at "ev"
    refine .yes ?_
    refine ⟨fun m σ Hc => ∃ (M : Addr) (l : List Str) (n : Nat) (x3 : Option V), σ = [some (.ref a0), some (.ref M), some (.int (n : Int)), x3, none, none] ∧ Hc M = some (.dK (kvT l)) ∧ Same H Hc ∧ l.Nodup ∧ l.length ≤ 1000 ∧ Idl qs n l r ∧ m = Idm n l, ⟨_, M, ws, 0, _, rfl, hM1, s1, hn, hw, hI, rfl⟩, fun m σ Hc hh => ?_⟩
    obtain ⟨M, l, n, x3, rfl, hMc, sc, ln, hl, hI, rfl⟩ := hh
    walk_at "ev"
    have lk : ∀ ks : List Str, (kvT ks).length = ks.length := fun ks => by unfold kvT; rw [List.length_map]
    have ql : qs.length ≤ 1000 := hq
    by_cases e : l.length = n
    · have eb : decide (V.int ((kvT l).length : Int) = V.int (n : Int)) = true := decide_eq_true (by rw [lk, e])
      dsimp only
      rw [eb]
      refine iteF ?_
      have er := hI.inv_stop e
      subst er
      walk_at "ev"
      have Nc := N0.same sc
      refine lc_of ?_
      refine iSeq_at (fun R' q' => ⟨_, rfl, rIxF_at Nc.h0 i0 q'⟩) Nc.h1 fun J w D hD => ?_
      refine lc_it w (fun i H' => Same Hc H' ∧ H' D = some (.lst (((ws.take i).filter fun x => decide (x ∈ r)).map V.str))) ⟨.upd hD, upd_same⟩ (fun i H' _ p => p.1.sqF Nc.h1) (fun i x H1 H1' hi p y => ?_) (fun H2 p => ?_)
      · obtain ⟨s1, h1⟩ := p
        obtain ⟨rfl, hx⟩ := y
        rw [List.getElem?_map] at hx
        cases hz : ws[i]? with
        | none =>
          rw [hz] at hx
          cases hx
        | some z =>
          rw [hz] at hx
          cases hx
          have ht : ws.take (i + 1) = ws.take i ++ [z] := by rw [List.take_add_one, hz]; rfl
          refine ⟨rfl, ?_⟩
          refine ⟨_, rfl, _, rfl, M, _, rfl, DGet.k (k := .inr z) (s1 _ _ hMc), ?_⟩
          rw [inT]
          refine ⟨_, rfl, ?_⟩
          by_cases hm : z ∈ r
          · rw [decide_eq_true hm]
            refine iteT ?_
            have fl := List.length_filter_le (fun x => decide (x ∈ r)) (ws.take i)
            rw [List.length_take] at fl
            refine ⟨_, rfl, _, h1, by rw [List.length_map]; exact sz_lt (by omega), s1.mut hD, ?_⟩
            rw [upd_same, ht, List.filter_append, show [z].filter (fun x => decide (x ∈ r)) = [z] by simp [hm], List.map_append]
            rfl
          · rw [decide_eq_false hm]
            refine iteF ?_
            refine ⟨s1, ?_⟩
            rw [ht, List.filter_append, show [z].filter (fun x => decide (x ∈ r)) = [] by simp [hm], List.append_nil]
            exact h1
      · obtain ⟨s2, h2⟩ := p
        rw [List.length_map, List.take_length] at h2
        exact ⟨D, _, rfl, .inl ⟨sql_of h2, fun p hp => q _ p ((sc.trans s2).trans (.upd hp)) (sqt_of upd_same)⟩⟩
    · have eb : decide (V.int ((kvT l).length : Int) = V.int (n : Int)) = false := decide_eq_false fun z => e (by have := V.int.inj z; rw [lk] at this; omega)
      dsimp only
      rw [eb]
      refine iteT ?_
      refine ⟨fun σ Hc => ∃ (M : Addr) (x3 : Option V), σ = [some (.ref a0), some (.ref M), some (.int (l.length : Int)), x3, none, none] ∧ Hc M = some (.dK (kvT (stepI qs l))) ∧ Same H Hc, fun σ' H' hh => ?_, ?_⟩
      · obtain ⟨M2, y3, rfl, g1, g2⟩ := hh
        exact ⟨_, idm_lt e, M2, _, _, _, rfl, g1, g2, ln.sublist List.filter_sublist, Nat.le_trans (List.length_filter_le _ _) hl, hI.inv_go e, rfl⟩
      · walk_at "ev"
        rw [lk]
        have Nc := N0.same sc
        refine dc_of ?_
        refine iSeq_at (fun R' q' => ⟨_, rfl, rIxF_at Nc.h0 i1 q'⟩) Nc.h2 fun J w D hD => ?_
        refine dc_it w (fun i H' => Same Hc H' ∧ H' D = some (.dK (kvT ((qs.take i).foldl (fedO l) [])))) ⟨.upd hD, upd_same⟩ (fun i H' _ p => p.1.sqF Nc.h2) (fun i x H1 H1' hi p y => ?_) (fun H2 p => ?_)
        · obtain ⟨s1, h1⟩ := p
          obtain ⟨rfl, hx⟩ := y
          obtain ⟨qd, aq, e1, rfl, e2⟩ := (Nc.same s1).hq i x hx
          refine ⟨rfl, ?_⟩
          refine ⟨_, rfl, rIxF_at e2 (atI_nat (j := 1) rfl) ?_⟩
          refine ⟨_, rfl, M, _, rfl, DGet.k (k := .inr qd.st) (s1 _ _ hMc), ?_⟩
          rw [inT]
          refine ⟨_, rfl, ?_⟩
          have et : (qs.take (i + 1)).foldl (fedO l) [] = fedO l ((qs.take i).foldl (fedO l) []) qd := by
            rw [List.take_add_one, e1, List.foldl_append]
            rfl
          by_cases hm : qd.st ∈ l
          · rw [decide_eq_true hm]
            refine iteT ?_
            refine ⟨_, rfl, rIxF_at e2 (atI_nat (j := 2) rfl) ?_⟩
            have fl := fed_len l (qs.take i) []
            rw [List.length_nil, List.length_take] at fl
            refine ⟨_, .inr qd.en, rfl, h1, by rw [lk]; exact sz_lt (by omega), s1.mut hD, ?_⟩
            rw [upd_same, putT, et]
            unfold fedO
            rw [if_pos hm]
          · rw [decide_eq_false hm]
            refine iteF ?_
            refine ⟨s1, ?_⟩
            rw [et]
            unfold fedO
            rw [if_neg hm]
            exact h1
        · obtain ⟨s2, h2⟩ := p
          have hxl : xq.length = qs.length := N0.ll
          rw [hxl, List.take_length] at h2
          have hM2 := s2 _ _ hMc
          try dsimp only [gName, tSeq, tAsg]
          refine ⟨M, .dK (kvT l), hM2, trivial, fun od => ?_⟩
          have nDM : D ≠ M := fun z => by
            rw [z, hMc] at hD
            cases hD
          have hD3 : (upd H2 M (.frz od (.dK (kvT l)))) D = some (.dK (kvT (fedL qs l))) := by
            rw [upd_ne nDM]
            exact h2
          have hM3 : (upd H2 M (.frz od (.dK (kvT l)))) M = some (.frz od (.dK (kvT l))) := upd_same
          have back : ∀ H4, Same (upd H2 M (.frz od (.dK (kvT l)))) H4 → Same H2 (upd H4 M (.dK (kvT l))) := fun H4 s4 a o ha => by
            by_cases ea : a = M
            · rw [ea, upd_same, ← hM2, ← ea]
              exact ha
            · rw [upd_ne ea]
              refine s4 _ _ ?_
              rw [upd_ne ea]
              exact ha
          generalize upd H2 M (.frz od (.dK (kvT l))) = H3 at hD3 hM3 back ⊢
          refine dc_of ?_
          refine ⟨_, rfl, M, od, rfl, .inl ⟨kvT l, hM3, fun D2 hD2 => ?_⟩⟩
          refine dc_it walk_keys (fun i H' => Same H3 H' ∧ H' D2 = some (.dK (kvT ((l.take i).filter fun w => decide (w ∈ fedL qs l))))) ⟨.upd hD2, upd_same⟩ (fun i H' _ p => p.1 _ _ hM3) (fun i x H1 H1' hi p y => ?_) (fun H4 p => ?_)
          · obtain ⟨s1, h1⟩ := p
            obtain ⟨rfl, k1, v1, hk, rfl⟩ := y
            unfold kvT at hk
            rw [List.getElem?_map] at hk
            cases hz : l[i]? with
            | none =>
              rw [hz] at hk
              cases hk
            | some z =>
              rw [hz] at hk
              cases hk
              have ht : l.take (i + 1) = l.take i ++ [z] := by rw [List.take_add_one, hz]; rfl
              refine ⟨rfl, ?_⟩
              refine ⟨_, rfl, _, rfl, D, _, rfl, DGet.k (k := .inr z) (s1 _ _ hD3), ?_⟩
              rw [inT]
              refine ⟨_, rfl, ?_⟩
              by_cases hm : z ∈ fedL qs l
              · rw [decide_eq_true hm]
                refine iteT ?_
                have fl := List.length_filter_le (fun w => decide (w ∈ fedL qs l)) (l.take i)
                rw [List.length_take] at fl
                have hno : z ∉ (l.take i).filter fun w => decide (w ∈ fedL qs l) := fun hz2 => by
                  obtain ⟨k, hk1, hk2⟩ := List.mem_take_iff_getElem.mp (List.mem_filter.mp hz2).1
                  have := nd_ix ln hz (by rw [List.getElem?_eq_getElem (show k < l.length by omega)]; exact congrArg some hk2)
                  omega
                refine ⟨_, rfl, _, .inr z, rfl, h1, by rw [lk]; exact sz_lt (by omega), s1.mut hD2, ?_⟩
                rw [upd_same, putT, ht, List.filter_append, show [z].filter (fun w => decide (w ∈ fedL qs l)) = [z] by simp [hm]]
                unfold addK
                rw [if_neg hno]
              · rw [decide_eq_false hm]
                refine iteF ?_
                refine ⟨s1, ?_⟩
                rw [ht, List.filter_append, show [z].filter (fun w => decide (w ∈ fedL qs l)) = [] by simp [hm], List.append_nil]
                exact h1
          · obtain ⟨s4, h4⟩ := p
            rw [lk, List.take_length] at h4
            have nD2 : D2 ≠ M := fun z => by
              rw [z, hM3] at hD2
              cases hD2
            exact ⟨s4 _ _ hM3, D2, _, rfl, by rw [upd_ne nD2]; exact h4, (sc.trans s2).trans (back _ s4)⟩
end
end Jl

set_option Elab.async false
set_option linter.all false
set_option maxRecDepth 100000
set_option maxHeartbeats 1000000
namespace Jl
open PySem PySem.Spec PyProof.Rows L2
open Evl (sz_of sz_lt)
/-! ### enumerate(a tuple) -/
theorem enumT_meets (a : Addr) (cells : Array Value) : Meets (Builtin.«enumerate.__new__» ⟨[.type "enumerate", .ref a], []⟩) (fun _ R st => st.heap.IsTuple a cells ∧
    R (.ok (.ret (.ref (st.heap.push { cls := .type "tuple_iterator", data := .fields #[.ref a, .int 0 0] }).objs.size))) { st with heap := (st.heap.push { cls := .type "tuple_iterator", data := .fields #[.ref a, .int 0 0] }).push { cls := .type "enumerate", data := .fields #[.none, .bool false, .ref st.heap.objs.size, rawInt 0, .none, .none] } }) :=
  .of_wp fun prog w Ar R st hyp => by
    obtain ⟨hh, g0, d0, t0, o0⟩ := st
    obtain ⟨ht, hyp⟩ := hyp
    have hsub := sub_enumerate
    have q1 : ∀ {A' : Around} {E' : Value → Shared → Prop} {Q' : Value → Shared → Prop}, Q' (.ref hh.objs.size) ⟨hh.push { cls := .type "tuple_iterator", data := .fields #[.ref a, .int 0 0] }, g0, d0, t0, o0⟩ → wpAny (model prog w) A' (pyIter (.ref a)) Q' E' ⟨hh, g0, d0, t0, o0⟩ :=
      fun q => wpAny_pyIter_tuple ht q
    obtain ⟨ob, hob, hcl, n0, hda⟩ := id ht
    have hlp : ∀ {A' : Around} {E' : Value → Shared → Prop} {Q' : Value → Shared → Prop}, Q' (.ref hh.objs.size) ⟨hh.push { cls := .type "tuple_iterator", data := .fields #[.ref a, .int 0 0] }, g0, d0, t0, o0⟩ → wpAny (model prog w) A' (pyIter (.ref a)) Q' E' ⟨hh, g0, d0, t0, o0⟩ := q1
    wp_walk using q1, wpAny_loadPart' hob
    refine wpAny_stack_any fun _ => wpAny_pure ?_
    split
    · rename_i c _ _ _ _ _
      by_cases hc : (c == Value.type "enumerate") = true
      · simp only [hc]
        wp_walk using q1, wpAny_loadPart' hob
        exact ⟨_, rfl, hyp⟩
      · simp only [hc]
        wp_walk using q1, wpAny_loadPart' hob
        exact ⟨_, rfl, hyp⟩
    · wp_walk using q1, wpAny_loadPart' hob
      exact ⟨_, rfl, hyp⟩

section
variable {prog : Program} {w : World} {Ar : Around} {E' : Value → Shared → Prop} {st : Shared}
/-- its two new cells -/
theorem enumT_made {a : Addr} {cells : Array Value} {Q' : Value → Shared → Prop} (ht : st.heap.IsTuple a cells)
    (q : ∀ hh, IsEnum hh (st.heap.objs.size + 1) st.heap.objs.size 0 .none → hh.IsTupleIter st.heap.objs.size a 0 → hh.objs.size = st.heap.objs.size + 2 → (∀ b o, st.heap.get? b = some o → hh.get? b = some o) → Q' (.ref (st.heap.objs.size + 1)) { st with heap := hh }) :
    wpAny (model prog w) Ar (call (.type "enumerate") [.ref a]) Q' E' st := by
  refine callType_new F.called_enumerate (by decide) (F.typeCall_enumerate_1 (.ref a)) (F.newCall_enumerate_1 (.ref a)) (fun ob => F.args_object_init_2 ob (.ref a)) F.entry_enumerate_new (enumT_meets a cells) ⟨ht, ?_⟩
  have hz : (st.heap.push { cls := .type "tuple_iterator", data := .fields #[.ref a, .int 0 0] }).objs.size = st.heap.objs.size + 1 := Heap.size_push ..
  have g1 := Heap.get?_push_size (st.heap.push { cls := .type "tuple_iterator", data := .fields #[.ref a, .int 0 0] }) (o := { cls := .type "enumerate", data := .fields #[.none, .bool false, .ref st.heap.objs.size, rawInt 0, .none, .none] }) rfl
  rw [hz] at g1
  show _ ∧ _
  rw [hz]
  exact ⟨⟨_, g1, rfl⟩, q _ g1 ⟨_, Heap.get?_push_of_some _ (Heap.get?_push_size _ rfl), rfl, rfl⟩ (by rw [Heap.size_push, hz]) fun b o e => Heap.get?_push_of_some _ (Heap.get?_push_of_some _ e)⟩
end
/-- the tuple at a, each item in a new pair -/
def IteT (K : PySem.W.Frag) (a : Addr) : It :=
  ⟨fun i H => ∃ (xs : List V) (x : V), SqT K H a xs ∧ xs[i]? = some x, fun i H v H' => ∃ T x, v = .ref T ∧ H T = none ∧ H' = upd H T (.tup [.int (i : Nat), x]) ∧ ∀ xs, SqT K H a xs → xs[i]? = some x, fun i H => ∃ xs : List V, SqT K H a xs ∧ xs.length = i⟩
theorem enum_ne_tup {h : Heap} {e it a : Addr} {k : Int} {old : Value} {cells : Array Value} (he : IsEnum h e it k old) (ht : h.IsTuple a cells) : e ≠ a := fun z => by
  obtain ⟨o, ho, hc, _⟩ := ht
  have he2 : h.get? e = some _ := he
  rw [z, ho] at he2
  cases he2
  simp at hc
theorem iter_ne_tup {h : Heap} {it a b : Addr} {i : Nat} {cells : Array Value} (hi : h.IsTupleIter it b i) (ht : h.IsTuple a cells) : a ≠ it := fun z => by
  obtain ⟨o, ho, hc, _⟩ := ht
  obtain ⟨o', ho', hc', _⟩ := hi
  rw [z, ho'] at ho
  cases ho
  rw [hc'] at hc
  simp at hc
theorem turn_enumT {P : Program} {w : World} {K : PySem.W.Frag} {elts : List Expr} {kk : Nat} {tpos : Pos} (a e it : Addr) :
    Turn P w K (.Tuple elts kk tpos) (IteT K a) [e, it] e (fun i h => (∃ old, IsEnum h e it ((i : Nat) : Int) old) ∧ h.IsTupleIter it a i ∧ e ≠ it) where
  mem := List.mem_cons_self
  obj := fun i h st b hb => by
    obtain ⟨⟨old, he⟩, hit, _⟩ := st
    rcases mem2 hb with z | z
    · subst z
      exact ⟨_, he, fun _ hv => by cases hv⟩
    · obtain ⟨o, ho, hc, hd⟩ := hit
      exact ⟨o, by rw [z]; exact ho, fun v q => by rw [hd] at q; cases q⟩
  keep := fun i h h' st kp => ⟨st.1.elim fun old he => ⟨old, kp e List.mem_cons_self _ he⟩, st.2.1.at fun o q => kp it (List.mem_cons_of_mem _ List.mem_cons_self) o q, st.2.2⟩
  item := by
    intro X hP hw hK hc i pins s σ H E I hf st hg
    cases hP
    cases hw
    cases hK
    obtain ⟨⟨old, he⟩, hit, hne⟩ := st
    obtain ⟨xs, x, hq, hx⟩ := hg
    obtain ⟨its, rv, pt, _⟩ := I.tuple hq
    obtain ⟨u, hu, ru⟩ := rv.get hx
    have pt' : s.heap.IsTuple a its.toArray := pt
    have hel : e < s.heap.objs.size := Heap.lt_size he
    have hil : it < s.heap.objs.size := hit.elim fun o q => Heap.lt_size q.1
    have hea := enum_ne_tup he pt'
    have hai := iter_ne_tup hit pt'
    have hD := Draws.tuple (prog := X.prog) (w := X.w) (A := X.A.in1) (I.ok.hd hc) it a hai its.toArray
    have hsz : its.toArray.size = its.length := List.size_toArray
    have hlt : i < its.toArray.size := by
      rw [hsz]
      exact (List.getElem?_eq_some_iff.mp hu).1
    refine wpAny_pyNext_enum_itemD hD he ⟨hit, pt'⟩ hlt hne (fun z => by rcases mem2 z with z | z; exact hne z; exact hea z) fun y h1 tk hy ho hst hT hz2 hk => ?_
    have eu : y = u := by
      have hy2 : its[i]? = some y := by simpa using hy
      rw [hu] at hy2
      exact (Option.some.inj hy2).symm
    subst eu
    refine ⟨_, rfl, wpAny_letOwnedTupleGo_enum (s := { s with heap := h1, toks := tk + 1 }) ho fun h2 he2 sb => ?_⟩
    have hT2 : h2.get? s.heap.objs.size = some { cls := .type "tuple", data := .seq #[.int i tk, y] } := (sb.2 _ (Nat.ne_of_gt hel)).trans hT
    have hnew : ObjOk X.prog X.w (upd H s.heap.objs.size (.tup [.int (i : Nat), x])) h2 s.heap.objs.size (.tup [.int (i : Nat), x]) := ⟨by show 2 ≤ sizeLine; decide, [.int i tk, y], .cons ⟨_, rfl⟩ (.cons ru .nil), ⟨_, hT2, rfl, _, rfl⟩⟩
    have I2 : L2.Inv X pins σ (upd H s.heap.objs.size (.tup [.int (i : Nat), x])) { s with heap := h2, toks := tk + 1 } :=
      I.turnedNew (ch := [e, it]) (fun b ob hb q => (sb.2 b (fun z => hb (by rw [z]; exact List.mem_cons_self))).trans (hk b ob (fun z => hb (by rw [z]; exact List.mem_cons_self)) (fun z => hb (by rw [z]; exact List.mem_cons_of_mem _ List.mem_cons_self)) q)) hf (Nat.le_refl _) hnew
    refine ⟨.ref s.heap.objs.size, _, I2, rfl, ⟨_, x, rfl, I.hok.fresh (Nat.le_refl _), rfl, fun ys hy => by rw [I.tuple_inj hy hq]; exact hx⟩, ⟨⟨y, ?_⟩, hst.1.at fun o q => (sb.2 it (Ne.symm hne)).trans q, hne⟩, fun b hb => ?_⟩
    · rw [show ((i + 1 : Nat) : Int) = (i : Int) + 1 by omega]
      exact he2
    · have hbs : b < s.heap.objs.size := by
        rcases mem2 hb with z | z <;> rw [z]
        · exact hel
        · exact hil
      rw [upd_ne (Nat.ne_of_lt hbs)]
      exact (hf b hb).1
  done := by
    intro X hP hw hK hc i pins s σ H E I hf st hg
    cases hP
    cases hw
    cases hK
    obtain ⟨⟨old, he⟩, hit, hne⟩ := st
    obtain ⟨xs, hq, hx⟩ := hg
    obtain ⟨its, rv, pt, _⟩ := I.tuple hq
    have pt' : s.heap.IsTuple a its.toArray := pt
    obtain ⟨f0, f1, f2, f3, f4, f5⟩ := hf it (List.mem_cons_of_mem _ List.mem_cons_self)
    have hD := Draws.tuple (prog := X.prog) (w := X.w) (A := X.A.in1) (I.ok.hd hc) it a (iter_ne_tup hit pt') its.toArray
    have hn : its.toArray.size = i := by
      rw [List.size_toArray, ← rv.length, hx]
    rw [← hn] at hit
    exact wpAny_pyNext_enum_endD hD he ⟨hit, pt'⟩ fun hh eb => ⟨rfl, I.turned (t' := s.toks) (fun b o hb q => eb b o hb q) f0 f1 f3 f4 f5⟩
  self := fun A i s Q E st h => st.1.elim fun _ he => wpAny_pyIter_enum he h
theorem walk_enumT {K : PySem.W.Frag} {a : Addr} {xs : List V} : Walk (IteT K a) xs.length (fun H => SqT K H a xs) (YPair (fun i => some (.int (i : Nat))) (fun i => xs[i]?)) := by
  refine ⟨fun i _ hi q => ⟨xs, xs[i], q, List.getElem?_eq_getElem hi⟩, fun _ q => ⟨xs, q, rfl⟩, fun i H v H' _ q y => ?_⟩
  obtain ⟨T, x, h1, h2, h3, h4⟩ := y
  exact ⟨T, .int (i : Nat), x, h1, h2, h3, rfl, h4 xs q⟩
def iEnumT (K : PySem.W.Frag) (ta : TA) : TI := fun σ H R => ta σ H fun vs H1 => ∃ a xs, vs = [.ref a] ∧ SqT K H1 a xs ∧ R (IteT K a) H1
theorem pi_enumT {X : Cx} {e : Expr} {ta : TA} {p pos tpos : Pos} {elts : List Expr} {kk : Nat} (hg : Gl X "enumerate") (hm : X.mg "enumerate" = none) (ha : PA X [e] ta) (hs : starEach [e] X.env = [(false, eval e X.env)] := by rfl) :
    PI X (.Tuple elts kk tpos) (.Call (.Name "enumerate" p) [e] [] pos) (iEnumT X.K ta) := ⟨fun pins s σ H R I h => by
  refine Call_ (ld_blt I hg hm boot_enumerate (PyProof.Rows.callWith_type1 (thn (ha.run pos pins s σ H _ I h) fun us s1 g => ?_) hs rfl))
  obtain ⟨vs, H1, I1, r1, a, xs, ev, hq, q⟩ := g
  subst ev
  cases r1 with
  | cons r rr =>
    cases rr
    cases r
    obtain ⟨its, rv, pt, _⟩ := I1.tuple hq
    refine enumT_made (show s1.heap.IsTuple a its.toArray from pt) fun hh he hit hsz hk => wpAny_pyIter_enum he ?_
    have I2 : L2.Inv X pins σ H1 { s1 with heap := hh } := I1.kept (t' := s1.toks) hk
    exact ⟨s1.heap.objs.size + 1, [s1.heap.objs.size + 1, s1.heap.objs.size], _, _, H1, rfl, I2, turn_enumT a (s1.heap.objs.size + 1) s1.heap.objs.size, ⟨⟨.none, he⟩, hit, Nat.succ_ne_self _⟩, fun b hb => by
      have hle : s1.heap.objs.size ≤ b := by
        rcases mem2 hb with z | z <;> rw [z]
        · exact Nat.le_add_right _ _
        · exact Nat.le_refl _
      exact I1.fpOk hle (I1.hok.fresh hle), q⟩⟩

def iEnumA (K : PySem.W.Frag) (ta : TA) : TI := fun σ H R => iEnum K ta σ H R ∨ iEnumT K ta σ H R
theorem pi_enumA {X : Cx} {e : Expr} {ta : TA} {p pos tpos : Pos} {elts : List Expr} {kk : Nat} (hg : Gl X "enumerate") (hm : X.mg "enumerate" = none) (ha : PA X [e] ta) (hs : starEach [e] X.env = [(false, eval e X.env)] := by rfl) :
    PI X (.Tuple elts kk tpos) (.Call (.Name "enumerate" p) [e] [] pos) (iEnumA X.K ta) := pi_or (pi_enum hg hm ha hs) (pi_enumT hg hm ha hs)
theorem iEnumA_at {K : PySem.W.Frag} {ta : TA} {σ : L2.St} {H H1 : Hp} {R : It → Hp → Prop} {a : Addr} {f : Bool} {xs : List V} (ht : ∀ R' : List V → Hp → Prop, R' [.ref a] H1 → ta σ H R') (hs : SqF f K H1 a xs)
    (q : ∀ J, Walk J xs.length (fun H => SqF f K H a xs) (YPair (fun i => some (.int (i : Nat))) (fun i => xs[i]?)) → R J H1) : iEnumA K ta σ H R := by
  cases f with
  | false => exact .inl (ht _ ⟨a, xs, rfl, hs, q _ walk_enum⟩)
  | true => exact .inr (ht _ ⟨a, xs, rfl, hs, q _ walk_enumT⟩)
end Jl

set_option Elab.async false
set_option linter.all false
set_option maxRecDepth 100000
set_option maxHeartbeats 1000000
set_option pp.maxSteps 300
namespace Jl
open PySem PySem.Spec PyProof.Rows L2
open Evl (sz_of sz_lt)
local macro_rules | `(tactic| walk_at "at") => `(tactic| first | exact box0 | exact box1 | exact box2)
local macro_rules | `(tactic| walk_at "sq") => `(tactic| first | (show SqL _ _ _ _; assumption) | (show SqT _ _ _ _; assumption) | (show _ = some _; assumption))
local macro_rules | `(tactic| walk_at "side") => `(tactic| first
  | (show (0 : Int) < _; decide)
  | (show (0 : Int) < _; omega)
  | exact ⟨by decide, by decide, by decide⟩
  | exact sz_of (Nat.le_of_ble_eq_true rfl)
  | exact rfl
  | exact Or.inl (by decide)
  | exact Or.inr (by decide)
  | exact Or.inr ⟨by omega, by omega⟩
  | exact Or.inl ⟨by omega, by omega⟩
  | exact ⟨by decide, by decide +kernel⟩)
local macro_rules | `(tactic| walk_at "ev1") => `(tactic| first
  | refine ⟨_, rfl, ?_⟩
  | refine ⟨_, _, rfl, rfl, ?_⟩
  | refine ⟨_, _, _, _, rfl, rfl, (by walk_at "sq"), (by walk_at "at"), ?_⟩
  | refine ⟨_, _, rfl, (by walk_at "sq"), ?_⟩
  | refine ⟨_, _, rfl, Or.inl (by walk_at "sq"), ?_⟩
  | refine ⟨_, _, rfl, Or.inr (by walk_at "sq"), ?_⟩
  | refine Or.inl ⟨_, rfl, ?_⟩
  | refine Or.inr ⟨_, rfl, ?_⟩
  | refine ⟨(by walk_at "side"), ?_⟩
  | refine ⟨.inl ⟨rfl, _, (by walk_at "sq")⟩, ?_⟩
  | refine ⟨_, _, rfl, ?_⟩)
local macro_rules | `(tactic| walk_at "nrm") => `(tactic| dsimp only [tNil, tCons, tC, tCB])
local macro_rules | `(tactic| walk_at "ev") => `(tactic| repeat (walk_at "ev1"))

abbrev sc_most_lead_N : List Str := ["queue"]
abbrev s_most_lead : Stmt := topS 3
theorem sc_most_lead : FnScope ["queue"] ["queue"] (defScope s_most_lead) := ⟨rfl, rfl, rfl, by decide +kernel, rfl, by decide +kernel, by decide +kernel⟩
abbrev sc_spans_N : List Str := ["net", "counts", "count", "place", "worker", "queue"]
abbrev s_spans : Stmt := topS 4
theorem sc_spans : FnScope ["net", "counts", "count", "place", "worker", "queue"] ["net", "counts"] (defScope s_spans) := ⟨rfl, rfl, rfl, by decide +kernel, rfl, by decide +kernel, by decide +kernel⟩

theorem dpa_ints_of9 {K : PySem.W.Frag} {H : Hp} : ∀ {is : List Int} {vs : List V}, DpAll K H vs (is.map PyData.int) → vs = is.map V.int
  | [], _, h => by
    cases h
    rfl
  | i :: is, _, h => by
    cases h with
    | cons h1 h2 =>
      cases h1
      rw [dpa_ints_of9 h2]
      rfl
theorem mul_ok {i j : Int} (h1 : 0 ≤ i ∧ i ≤ 10 ^ 60) (h2 : 0 ≤ j ∧ j ≤ 10 ^ 60) : CMulW i (j + 1) := by
  have a1 : i.natAbs < 2 ^ 250 := by omega
  have a2 : (j + 1).natAbs < 2 ^ 250 := by omega
  exact wide_mul a1 a2 (by decide) (by decide) (by decide)
/-- over data -/
theorem lcw {K : PySem.W.Frag} {J : It} {g : TG} {te : TE} {tt : TT} {vs : List Nat} {σ : L2.St} {H0 : Hp} {Q : VK} {xs : List V} {G : Hp → Prop} {α : Type} (zs : List α) (f h : α → PyData) (t : α → Bool) (B : α → L2.St → Prop)
    (w : Walk J xs.length G (YAt xs)) (hG : ∀ H', Same H0 H' → G H') (ha : DpAll K H0 xs (zs.map f)) (hl : zs.length ≤ 4000000)
    (hg : ∀ (x : V) (z : α) (H1 : Hp) (R : L2.St → Hp → Prop), z ∈ zs → Same H0 H1 → Dp K H0 x (f z) → (∀ σ2, B z σ2 → wipe σ2 vs = wipe σ vs → R σ2 H1) → g x (wipe σ vs) H1 R)
    (hte : ∀ (z : α) (H1 : Hp) (σ2 : L2.St), z ∈ zs → Same H0 H1 → B z σ2 → ∀ Q' : Bool → Hp → Prop, (∀ H2, Same H1 H2 → Q' (t z) H2) → tt σ2 H1 Q')
    (he : ∀ (z : α) (H2 : Hp) (σ2 : L2.St) (T : List Addr), z ∈ zs → t z = true → Same H0 H2 → Same H0 (cutS T H2) → Trk T H2 → B z σ2 → ∀ Q' : VK, (∀ H3 u, Same H2 H3 → Dp K (cutS T H3) u (h z) → Q' u H3) → te σ2 H2 Q')
    (q : ∀ D ys H', Same H0 H' → H0 D = none → H' D = some (.lst ys) → DpAll K (cutS [D] H') ys ((zs.filter t).map h) → Q (.ref D) H') :
    ∀ D, H0 D = none → ∃ W : Nat → Nat → Hp → Prop, (∃ m, W 0 m (upd H0 D (.lst []))) ∧ ∀ i m H, W i m H →
      (J.stop i H ∧ Q (.ref D) H) ∨ (J.go i H ∧ ∃ Nx : Hp → Prop, (∀ H', Nx H' → ∃ m', m' < m ∧ W (i + 1) m' H') ∧ ∀ x H', J.yld i H x H' → g x (wipe σ vs) H' fun σ2 H2 => wipe σ2 vs = wipe σ vs ∧ tt σ2 H2 fun b H3 =>
        if b = true then te σ2 H3 fun y H4 => ∃ acc, H4 D = some (.lst acc) ∧ acc.length < sizeLine ∧ Nx (upd H4 D (.lst (acc ++ [y]))) else Nx H3) := fun D hD => by
  have ll := dpa_len ha
  rw [List.length_map] at ll
  refine lc_it w (Qd := fun H => Q (.ref D) H) (fun i H1 => ∃ ys, Same H0 H1 ∧ H1 D = some (.lst ys) ∧ DpAll K (cutS [D] H1) ys (((zs.take i).filter t).map h)) ⟨[], .upd hD, upd_same, .nil⟩ (fun i H1 _ p => ?_) (fun i x H1 H1' hi p y => ?_) (fun H1 p => ?_)
  · obtain ⟨ys, e1, _⟩ := p
    exact hG _ e1
  · obtain ⟨ys, e1, e2, e3⟩ := p
    obtain ⟨rfl, hx⟩ := y
    obtain ⟨d, hd, hxd⟩ := dpa_get ha hx
    rw [List.getElem?_map] at hd
    cases hz : zs[i]? with
    | none =>
      rw [hz] at hd
      cases hd
    | some z =>
      rw [hz] at hd
      cases hd
      have hzm := List.mem_of_getElem? hz
      refine hg x z H1' _ hzm e1 hxd fun σ2 hB hw => ⟨hw, ?_⟩
      refine hte z H1' σ2 hzm e1 hB _ fun H2 s12 => ?_
      have e2' := s12 _ _ e2
      have yl : ys.length ≤ i := by
        rw [dpa_len e3, List.length_map]
        exact Nat.le_trans (List.length_filter_le _ _) (by rw [List.length_take]; omega)
      have ht2 : zs.take (i + 1) = zs.take i ++ [z] := by rw [List.take_add_one, hz]; rfl
      by_cases hg : t z = true
      · rw [if_pos hg]
        have eT : Same H0 (cutS [D] H2) := fun a o ha => by
          rw [cutS_out (not1 (ne_of_none ha hD))]
          exact (e1.trans s12) a o ha
        refine he z H2 σ2 [D] hzm hg (e1.trans s12) eT (Trk.cons Trk.nil e2') hB _ fun H3 u s2 hy => ?_
        refine ⟨ys, s2 _ _ e2', szL (by omega), ys ++ [u], ((e1.trans s12).trans s2).mut hD, upd_same, ?_⟩
        rw [cutS_upd List.mem_cons_self, ht2, List.filter_append, show [z].filter t = [z] by simp [hg], List.map_append]
        exact dpa_app ((cutS_mono (s12.trans s2)).dpa e3) (dpa_one hy)
      · rw [if_neg hg]
        refine ⟨ys, e1.trans s12, e2', ?_⟩
        rw [ht2, List.filter_append, show [z].filter t = [] by simp [hg], List.append_nil]
        exact (cutS_mono s12).dpa e3
  · obtain ⟨ys, e1, e2, e3⟩ := p
    refine q D ys H1 e1 hD e2 ?_
    have e4 : zs.take xs.length = zs := List.take_of_length_le (by omega)
    rw [e4] at e3
    exact e3
/-! ### rows of numbers of the workers -/
def cntF : List Str → List Int → Str → Int
  | w :: ws, c :: cs, x => if w = x then c else cntF ws cs x
  | _, _, _ => 0
def kvI (ws : List Str) (cs : List Int) : List (Key × V) := (ws.zip cs).map fun p => (.inr p.1, .int p.2)
theorem kvI_get {x : Str} : ∀ {ws : List Str} {cs : List Int}, x ∈ ws → cs.length = ws.length → valV (kvI ws cs) (.inr x) = some (.int (cntF ws cs x))
  | [], _, h, _ => absurd h List.not_mem_nil
  | w :: ws, [], _, h => by cases h
  | w :: ws, c :: cs, h, hl => by
    show valV (((.inr w : Key), V.int c) :: kvI ws cs) (.inr x) = some (.int (if w = x then c else cntF ws cs x))
    by_cases e : w = x
    · rw [valV_pos (congrArg Sum.inr e), if_pos e]
    · rw [valV_neg (fun z => e (Sum.inr.inj z)), if_neg e]
      refine kvI_get ?_ (by simpa using hl)
      rcases List.mem_cons.mp h with h | h
      · exact absurd h.symm e
      · exact h
theorem kvI_no {x : Str} : ∀ {ws : List Str} {cs : List Int}, x ∉ ws → valV (kvI ws cs) (.inr x) = none
  | [], _, _ => rfl
  | w :: ws, [], _ => rfl
  | w :: ws, c :: cs, h => by
    show valV (((.inr w : Key), V.int c) :: kvI ws cs) (.inr x) = none
    rw [valV_neg (fun z => h (by rw [Sum.inr.inj z]; exact List.mem_cons_self))]
    exact kvI_no fun z => h (List.mem_cons_of_mem _ z)
def spnD (fb : Bool) (ws : List Str) (cs : List Int) (q : QD) : PyData := .tuple [q.d fb, .int (cntF ws cs q.en), .int (cntF ws cs q.st - cntF ws cs q.en)]
def mostQ (q : QD) : Int := q.gap * (q.room + 1) - 1
/-- what the functions of a net and a row of numbers are asked of -/
structure NetC (ws : List Str) (qs : List QD) (cs : List Int) : Prop where
  wn : ws.Nodup
  wl : ws.length ≤ 1000
  ql : qs.length ≤ 1000
  cl : cs.length = ws.length
  qw : ∀ q ∈ qs, q.st ∈ ws ∧ q.en ∈ ws
theorem dpa_of_get {K : PySem.W.Frag} {H : Hp} : ∀ {xs : List V} {ds : List PyData}, xs.length = ds.length → (∀ (i : Nat) (v : V), xs[i]? = some v → ∃ d, ds[i]? = some d ∧ Dp K H v d) → DpAll K H xs ds
  | [], [], _, _ => .nil
  | [], _ :: _, h, _ => nomatch h
  | _ :: _, [], h, _ => nomatch h
  | x :: xs, d :: ds, h, g => .cons (by
      obtain ⟨d', h1, h2⟩ := g 0 x rfl
      cases h1
      exact h2) (dpa_of_get (by simpa using h) fun i v hv => g (i + 1) v hv)
theorem dp_row {K : PySem.W.Frag} {H : Hp} {fb : Bool} {a : Addr} {q : QD} (h : SqF fb K H a [.str q.nm, .str q.st, .str q.en, .int q.room, .int q.gap]) : Dp K H (.ref a) (q.d fb) := by
  have d : DpAll K H [V.str q.nm, .str q.st, .str q.en, .int q.room, .int q.gap] [.str q.nm, .str q.st, .str q.en, .int q.room, .int q.gap] := .cons (.str _) (.cons (.str _) (.cons (.str _) (.cons (.int _) (.cons (.int _) .nil))))
  cases fb with
  | false => exact .lst h d
  | true => exact .tup h d
theorem net_all {K : PySem.W.Frag} {H : Hp} {fb : Bool} {a0 a1 a2 : Addr} {ws : List Str} {qs : List QD} {xq : List V} (N : NetAt K H fb a0 a1 a2 ws qs xq) : DpAll K H xq (qs.map (QD.d fb)) := dpa_of_get (by rw [List.length_map]; exact N.ll) fun i v hv => by
  obtain ⟨q, a, h1, rfl, h2⟩ := N.hq i v hv
  exact ⟨q.d fb, by rw [List.getElem?_map, h1]; rfl, dp_row h2⟩
theorem dp_q {K : PySem.W.Frag} {H : Hp} {v : V} {fb : Bool} {q : QD} (h : Dp K H v (q.d fb)) : ∃ a, v = .ref a ∧ SqF fb K H a [.str q.nm, .str q.st, .str q.en, .int q.room, .int q.gap] := by
  obtain ⟨a, x, rfl, g1, g2⟩ := Dp.seq_of h
  cases g2 with
  | cons c1 g2 =>
    cases g2 with
    | cons c2 g2 =>
      cases g2 with
      | cons c3 g2 =>
        cases g2 with
        | cons c4 g2 =>
          cases g2 with
          | cons c5 g2 =>
            cases g2
            cases c1
            cases c2
            cases c3
            cases c4
            cases c5
            exact ⟨a, rfl, g1⟩
section
variable {P : Program} {w : World} {K : PySem.W.Frag} {mg : Str → Option Value} {base : Heap}
def spMost (K : PySem.W.Frag) : Sp := fun vs H Q _ => ∃ (v : V) (fb : Bool) (q : QD), vs = [v] ∧ Dp K H v (q.d fb) ∧ 0 ≤ q.gap ∧ q.gap ≤ 10 ^ 60 ∧ 0 ≤ q.room ∧ q.room ≤ 10 ^ 60 ∧ Q (.int (mostQ q)) H
theorem ok_most_lead {f : Addr} {fd : FuncData} {k : Nat} (F : Fun K "most_lead" "most_lead" s_most_lead f fd) : FnOk P w K mg base CX0 (k + 1) f fd ["queue"] (spMost K) := by
  refine F.ok sc_most_lead (fun vs H Q E h => ?_) (fun cdv A outer s0 H vs Q E hr h => ?_)
  · obtain ⟨v, fb, q, rfl, _⟩ := h
    rfl
  · obtain ⟨v, fb, qd, rfl, hD, b1, b2, b3, b4, q⟩ := h
    refine ⟨_, (pss_one (ps_ret (pe_op op_sub (pe_op op_mulW (pe_ix ix_lt (pv 0) pe_int (fun _ _ => rfl)) (pe_op op_add (pe_ix ix_lt (pv 0) pe_int (fun _ _ => rfl)) pe_int)) pe_int))), ?_⟩
    obtain ⟨a, rfl, hs⟩ := dp_q hD
    refine ⟨_, rfl, rIxF_at hs (atI_nat (j := 4) rfl) ?_⟩
    refine ⟨_, rfl, rIxF_at hs (atI_nat (j := 3) rfl) ?_⟩
    walk_at "ev"
    refine ⟨mul_ok ⟨b1, b2⟩ ⟨b3, b4⟩, ?_⟩
    walk_at "ev"
    exact q
def spSpans (K : PySem.W.Frag) : Sp := fun vs H Q _ => ∃ (v u : V) (fb fc : Bool) (ws : List Str) (qs : List QD) (cs : List Int), vs = [v, u] ∧ Dp K H v (netD fb ws qs) ∧ Dp K H u (seqD fc (cs.map PyData.int)) ∧ NetC ws qs cs ∧
  ∀ H' l ys, Same H H' → H l = none → H' l = some (.lst ys) → DpAll K (cutS [l] H') ys (qs.map (spnD fb ws cs)) → Q (.ref l) H'
theorem ok_spans {f : Addr} {fd : FuncData} {k : Nat} (F : Fun K "spans" "spans" s_spans f fd) (m_enumerate : mg "enumerate" = none) : FnOk P w K mg base CX0 (k + 1) f fd ["net", "counts"] (spSpans K) := by
  refine F.ok sc_spans (fun vs H Q E h => ?_) (fun cdv A outer s0 H vs Q E hr h => ?_)
  · obtain ⟨v, u, fb, fc, ws, qs, cs, rfl, _⟩ := h
    rfl
  · obtain ⟨v, u, fb, fc, ws, qs, cs, rfl, hD, hU, hN, q⟩ := h
    have hu := hu_of hr
    refine ⟨_, (pss_cons (ps_set (i := 2) sc_spans.nd rfl (Or.inr rfl) (pe_dcX (pe_dc (own := [("place", 3), ("worker", 4)]) (g := gTup K 2 (gCons (gName 3) (gCons (gName 4) gNil))) (tt := tYes) (tv := tOp (rIxF K) (tVar 1) (tVar 3)) (by rfl) sc_spans.nd (pi_enumA (by rfl) m_enumerate (pa_cons (pe_ix ix_lt (pv 0) pe_int (fun _ _ => rfl)) pa_nil)) (blkOk_by (own := [("place", 3), ("worker", 4)]) (N := sc_spans_N) (sc := defScope s_spans) (by decide +kernel)) (fun _ _ _ _ _ => pg_tup rfl (pgs_cons (pg_name (i := 3) sc_spans.nd rfl (Or.inl rfl)) (pgs_cons (pg_name (i := 4) sc_spans.nd rfl (Or.inl rfl)) pgs_nil))) (fun _ _ _ _ _ => pts_nil) (fun _ _ _ _ _ => (pv 4)) (fun _ _ _ _ _ => (pe_ix ix_lt (pv 1) (pv 3) (fun _ _ => rfl)))))) 
    (pss_one (ps_ret (pe_lcX (pe_lc (own := [("queue", 5)]) (g := gName 5) (tt := tYes) (te := tTup (tCons (tVar 5) (tCons (tDGet (tVar 2) (tOp (rIxF K) (tVar 5) (tC (.int 2)))) (tCons (tOp (rI0 fun i j => .int (i - j)) (tDGet (tVar 2) (tOp (rIxF K) (tVar 5) (tC (.int 1)))) (tDGet (tVar 2) (tOp (rIxF K) (tVar 5) (tC (.int 2))))) tNil)))) (by rfl) sc_spans.nd (pi_seq (pe_ix ix_lt (pv 0) pe_int (fun _ _ => rfl))) (blkOk_by (own := [("queue", 5)]) (N := sc_spans_N) (sc := defScope s_spans) (by decide +kernel)) (fun _ _ _ _ _ => pg_name (i := 5) sc_spans.nd rfl (Or.inl rfl)) (fun _ _ _ _ _ => pts_nil) (fun _ _ _ _ _ => (pe_tup (pa_cons (pv 5) (pa_cons (pe_dget hu (pv 2) (pe_ix ix_lt (pv 5) pe_int (fun _ _ => rfl)) (fun _ _ => rfl)) (pa_cons (pe_op op_sub (pe_dget hu (pv 2) (pe_ix ix_lt (pv 5) pe_int (fun _ _ => rfl)) (fun _ _ => rfl)) (pe_dget hu (pv 2) (pe_ix ix_lt (pv 5) pe_int (fun _ _ => rfl)) (fun _ _ => rfl))) pa_nil)))))))))), ?_⟩
    obtain ⟨a0, a1, a2, xq, rfl, N0⟩ := netAt hD
    obtain ⟨ac, xc, rfl, hc, hxc⟩ := Dp.seq_of hU
    have e := dpa_ints_of9 hxc
    subst e
    have i0 : atI [V.ref a1, V.ref a2] 0 = some (.ref a1) := atI_nat (j := 0) rfl
    have i1 : atI [V.ref a1, V.ref a2] 1 = some (.ref a2) := atI_nat (j := 1) rfl
    refine dc_of ?_
    refine iEnumA_at (a := a1) (fun R' q' => ⟨_, rfl, rIxF_at N0.h0 i0 q'⟩) N0.h1 fun J w D hD => ?_
    refine dc_it w (fun i H' => Same H H' ∧ H' D = some (.dK (kvI (ws.take i) (cs.take i)))) ⟨.upd hD, upd_same⟩ (fun i H' _ p => p.1.sqF N0.h1) (fun i x H1 H1' hi p y => ?_) (fun H2 p => ?_)
    · obtain ⟨s1, h1⟩ := p
      obtain ⟨T, x1, x2, rfl, hT, rfl, ex1, hx⟩ := y
      cases ex1
      have hx : (ws.map V.str)[i]? = some x2 := hx
      rw [List.getElem?_map] at hx
      rw [List.length_map] at hi
      have hcl := hN.cl
      cases hz : ws[i]? with
      | none =>
        rw [hz] at hx
        cases hx
      | some z =>
        rw [hz] at hx
        cases hx
        have hci : cs[i]? = some cs[i] := List.getElem?_eq_getElem (by omega)
        have nD : D ≠ T := ne_of_none h1 hT
        have s2 := s1.trans (Same.upd (o := .tup [.int (i : Nat), .str z]) hT)
        have hT2 : (upd H1 T (.tup [.int (i : Nat), .str z])) T = some (.tup [.int (i : Nat), .str z]) := upd_same
        have hD2 : (upd H1 T (.tup [.int (i : Nat), .str z])) D = some (.dK (kvI (ws.take i) (cs.take i))) := by
          rw [upd_ne nD]
          exact h1
        generalize upd H1 T (.tup [.int (i : Nat), .str z]) = H3 at s2 hT2 hD2 ⊢
        refine ⟨T, _, rfl, sqt_of hT2, rfl, _, _, rfl, _, _, rfl, rfl, rfl, ?_⟩
        dsimp only [tYes]
        rw [if_pos rfl]
        refine ⟨_, rfl, ?_⟩
        refine ⟨_, rfl, _, rfl, rIxF_at (s2.sqF hc) (atI_nat (j := i) (by rw [List.getElem?_map, hci]; rfl)) ?_⟩
        have hno : z ∉ ws.take i := fun hz2 => by
          obtain ⟨k, hk1, hk2⟩ := List.mem_take_iff_getElem.mp hz2
          have := nd_ix hN.wn hz (by rw [List.getElem?_eq_getElem (show k < ws.length by omega)]; exact congrArg some hk2)
          omega
        refine ⟨_, .inr z, rfl, hD2, ?_, s2.mut hD, ?_⟩
        · unfold kvI
          rw [List.length_map, List.length_zip, List.length_take]
          have := hN.wl
          exact sz_lt (by omega)
        · rw [upd_same, putK_new _ (kvI_no hno)]
          unfold kvI
          rw [List.take_add_one, List.take_add_one, hz, hci, List.zip_append (by rw [List.length_take, List.length_take, hcl]), List.map_append]
          rfl
    · obtain ⟨s2, h2⟩ := p
      rw [List.length_map, List.take_length, List.take_of_length_le (by rw [hN.cl]; exact Nat.le_refl _)] at h2
      try dsimp only [gName, tSeq, tAsg]
      have N2 := N0.same s2
      refine lc_of ?_
      refine iSeq_at (fun R' q' => ⟨_, rfl, rIxF_at N2.h0 i1 q'⟩) N2.h2 fun J w2 => ?_
      have hq4 : qs.length ≤ 4000000 := Nat.le_trans hN.ql (by decide)
      refine lcw (Q := Q) qs (QD.d fb) (spnD fb ws cs) (fun _ => true) (fun z σ2 => ∃ a, σ2 = [some (.ref a0), some (.ref ac), some (.ref D), none, none, some (.ref a)] ∧ SqF fb K H2 a [.str z.nm, .str z.st, .str z.en, .int z.room, .int z.gap]) w2 (fun H' e => e.sqF N2.h2) (net_all N2) hq4 (fun x z H1 R hz e1 hx r => ?_) (fun z H1 σ2 hz e1 hB Q' q' => q' H1 fun _ _ e => e) (fun z H3 σ2 T hz _ e1 eT tr hB Q' q' => ?_) (fun D2 ys H' s3 hn3 h3 h4 => ?_)
      · obtain ⟨a, rfl, hs⟩ := dp_q hx
        exact r _ ⟨a, rfl, hs⟩ rfl
      · obtain ⟨a, rfl, hs⟩ := hB
        have hs3 := e1.sqF hs
        have hD3 := e1 _ _ h2
        obtain ⟨m1, m2⟩ := hN.qw z hz
        have g1 : DGet H3 D (.str z.st) (some (.int (cntF ws cs z.st))) := by
          have := DGet.k (k := .inr z.st) hD3
          rwa [kvI_get m1 hN.cl] at this
        have g2 : DGet H3 D (.str z.en) (some (.int (cntF ws cs z.en))) := by
          have := DGet.k (k := .inr z.en) hD3
          rwa [kvI_get m2 hN.cl] at this
        refine ⟨_, rfl, ?_⟩
        refine ⟨_, rfl, _, rfl, rIxF_at hs3 (atI_nat (j := 2) rfl) ⟨D, _, rfl, g2, ?_⟩⟩
        refine ⟨_, rfl, _, rfl, rIxF_at hs3 (atI_nat (j := 1) rfl) ⟨D, _, rfl, g1, ?_⟩⟩
        refine ⟨_, rfl, _, rfl, rIxF_at hs3 (atI_nat (j := 2) rfl) ⟨D, _, rfl, g2, ?_⟩⟩
        refine ⟨_, _, rfl, rfl, ?_⟩
        refine ⟨by show 3 ≤ sizeLine; decide, fun p hp => ?_⟩
        exact q' _ (.ref p) (.upd hp) (dp_tup tr hp (.cons (eT.dp (dp_row hs)) (.cons (.int _) (.cons (.int _) .nil))))
      · rw [show qs.filter (fun _ => true) = qs from List.filter_eq_self.mpr fun _ _ => rfl] at h4
        exact q _ D2 ys (s2.trans s3) (s2.free hn3) h3 h4
end
end Jl

set_option Elab.async false
set_option linter.all false
set_option maxRecDepth 100000
set_option maxHeartbeats 1000000
set_option pp.maxSteps 300
namespace Jl
open PySem PySem.Spec PyProof.Rows L2
open Evl (sz_of sz_lt)
local macro_rules | `(tactic| walk_at "at") => `(tactic| first | exact box0 | exact box1 | exact box2)
local macro_rules | `(tactic| walk_at "sq") => `(tactic| first | (show SqL _ _ _ _; assumption) | (show SqT _ _ _ _; assumption) | (show _ = some _; assumption))
local macro_rules | `(tactic| walk_at "side") => `(tactic| first
  | (show (0 : Int) < _; decide)
  | (show (0 : Int) < _; omega)
  | exact ⟨by decide, by decide, by decide⟩
  | exact sz_of (Nat.le_of_ble_eq_true rfl)
  | exact rfl
  | exact Or.inl (by decide)
  | exact Or.inr (by decide)
  | exact Or.inr ⟨by omega, by omega⟩
  | exact Or.inl ⟨by omega, by omega⟩
  | exact ⟨by decide, by decide +kernel⟩)
local macro_rules | `(tactic| walk_at "ev1") => `(tactic| first
  | refine ⟨_, rfl, ?_⟩
  | refine ⟨_, _, rfl, rfl, ?_⟩
  | refine ⟨_, _, _, _, rfl, rfl, (by walk_at "sq"), (by walk_at "at"), ?_⟩
  | refine ⟨_, _, rfl, (by walk_at "sq"), ?_⟩
  | refine ⟨_, _, rfl, Or.inl (by walk_at "sq"), ?_⟩
  | refine ⟨_, _, rfl, Or.inr (by walk_at "sq"), ?_⟩
  | refine Or.inl ⟨_, rfl, ?_⟩
  | refine Or.inr ⟨_, rfl, ?_⟩
  | refine ⟨(by walk_at "side"), ?_⟩
  | refine ⟨.inl ⟨rfl, _, (by walk_at "sq")⟩, ?_⟩
  | refine ⟨_, _, rfl, ?_⟩)
local macro_rules | `(tactic| walk_at "nrm") => `(tactic| dsimp only [tNil, tCons, tC, tCB])
local macro_rules | `(tactic| walk_at "ev") => `(tactic| repeat (walk_at "ev1"))

abbrev sc_can_stand_N : List Str := ["net", "counts", "resting", "place", "worker", "queue", "_", "lead"]
abbrev s_can_stand : Stmt := topS 5
theorem sc_can_stand : FnScope ["net", "counts", "resting", "place", "worker", "queue", "_", "lead"] ["net", "counts"] (defScope s_can_stand) := ⟨rfl, rfl, rfl, by decide +kernel, rfl, by decide +kernel, by decide +kernel⟩
abbrev sc_is_low_N : List Str := ["queue", "lead"]
abbrev s_is_low : Stmt := topS 7
theorem sc_is_low : FnScope ["queue", "lead"] ["queue", "lead"] (defScope s_is_low) := ⟨rfl, rfl, rfl, by decide +kernel, rfl, by decide +kernel, by decide +kernel⟩
abbrev sc_is_high_N : List Str := ["queue", "lead"]
abbrev s_is_high : Stmt := topS 8
theorem sc_is_high : FnScope ["queue", "lead"] ["queue", "lead"] (defScope s_is_high) := ⟨rfl, rfl, rfl, by decide +kernel, rfl, by decide +kernel, by decide +kernel⟩
theorem in_strs {x : Str} {ks : List Str} : inV (.str x) (ks.map V.str) = decide (x ∈ ks) := by
  unfold inV
  rw [List.any_map, Bool.eq_iff_iff, List.any_eq_true, decide_eq_true_eq]
  refine ⟨fun ⟨r, hr, e⟩ => ?_, fun h => ⟨x, h, ?_⟩⟩
  · have e : (r == x) = true := e
    rw [← eq_of_beq e]
    exact hr
  · show (x == x) = true
    exact beq_self_eq_true _
/-! ### grown rows as data -/
theorem flat_strs : ∀ {xs : List Str}, (xs.map V.str).all flatV = true
  | [] => rfl
  | x :: xs => by
    rw [List.map_cons, List.all_cons, flat_strs]
    rfl
def leadQ (ws : List Str) (cs : List Int) (q : QD) : Int := cntF ws cs q.st - cntF ws cs q.en
def restB (ws : List Str) (cs : List Int) (rest : List Str) : Bool := (ws.zip cs).any fun p => decide (p.1 ∈ rest) && decide (p.2 ≠ 0)
def canF (ws : List Str) (qs : List QD) (cs : List Int) (rest : List Str) : Bool := !restB ws cs rest && qs.all fun q => decide (0 ≤ leadQ ws cs q) && decide (leadQ ws cs q ≤ mostQ q)
def bdQ (q : QD) : Prop := 0 ≤ q.gap ∧ q.gap ≤ 10 ^ 60 ∧ 0 ≤ q.room ∧ q.room ≤ 10 ^ 60
theorem dpa_bls9 {K : PySem.W.Frag} {H : Hp} : ∀ {bs : List Bool} {vs : List V}, DpAll K H vs (bs.map PyData.bool) → vs = bs.map V.bl
  | [], _, h => by
    cases h
    rfl
  | i :: is, _, h => by
    cases h with
    | cons h1 h2 =>
      cases h1
      rw [dpa_bls9 h2]
      rfl
section
variable {P : Program} {w : World} {K : PySem.W.Frag} {mg : Str → Option Value} {base : Heap}
def spCan (K : PySem.W.Frag) : Sp := fun vs H Q _ => ∃ (v u : V) (fb fc : Bool) (ws : List Str) (qs : List QD) (cs : List Int) (r : List Str), vs = [v, u] ∧ Dp K H v (netD fb ws qs) ∧ Dp K H u (seqD fc (cs.map PyData.int)) ∧ NetC ws qs cs ∧ (∀ q ∈ qs, bdQ q) ∧ Idl qs 0 ws r ∧
  ∀ H', Same H H' → Q (.bl (canF ws qs cs (ws.filter fun x => decide (x ∈ r)))) H'
theorem ok_can_stand {f fI fS fM : Addr} {fd fdI fdS fdM : FuncData} {k : Nat} (F : Fun K "can_stand" "can_stand" s_can_stand f fd)
    (G_idle : FnOk P w K mg base CX0 k fI fdI ["net"] (spIdle K)) (g_idle : mg "idle" = some (.ref fI)) (F_idle : Fun K "idle" "idle" s_idle fI fdI) (b_idle : Binds K fdI ["net"] [])
    (G_spans : FnOk P w K mg base CX0 k fS fdS ["net", "counts"] (spSpans K)) (g_spans : mg "spans" = some (.ref fS)) (F_spans : Fun K "spans" "spans" s_spans fS fdS) (b_spans : Binds K fdS ["net", "counts"] [])
    (G_most_lead : FnOk P w K mg base CX0 k fM fdM ["queue"] (spMost K)) (g_most_lead : mg "most_lead" = some (.ref fM)) (F_most_lead : Fun K "most_lead" "most_lead" s_most_lead fM fdM) (b_most_lead : Binds K fdM ["queue"] [])
    (m_any : mg "any" = none) (m_all : mg "all" = none) (m_enumerate : mg "enumerate" = none) : FnOk P w K mg base CX0 (k + 1) f fd ["net", "counts"] (spCan K) := by
  refine F.ok sc_can_stand (fun vs H Q E h => ?_) (fun cdv A outer s0 H vs Q E hr h => ?_)
  · obtain ⟨v, u, fb, fc, ws, qs, cs, r, rfl, _⟩ := h
    rfl
  · obtain ⟨v, u, fb, fc, ws, qs, cs, r, rfl, hD, hU, hN, hb, hI, q⟩ := h
    refine ⟨_, (pss_cons (ps_set (i := 2) sc_can_stand.nd rfl (Or.inr rfl) (pe_call G_idle hr (by rfl) g_idle F_idle.kp b_idle .nil pass0 (pa_cons (pv 0) pa_nil))) 
    (pss_cons (ps_if (pt_val (pe_callB (cr_any rfl) (by rfl) m_any (by decide +kernel) (pa_cons (pe_lcX (pe_lc (own := [("place", 3), ("worker", 4)]) (g := gTup K 2 (gCons (gName 3) (gCons (gName 4) gNil))) (tt := tYes) (te := tAndV (tOp (rIn K false) (tVar 4) (tVar 2)) (tOp rNe (tOp (rIxF K) (tVar 1) (tVar 3)) (tC (.int 0)))) (by rfl) sc_can_stand.nd (pi_enumA (by rfl) m_enumerate (pa_cons (pe_ix ix_lt (pv 0) pe_int (fun _ _ => rfl)) pa_nil)) (blkOk_by (own := [("place", 3), ("worker", 4)]) (N := sc_can_stand_N) (sc := defScope s_can_stand) (by decide +kernel)) (fun _ _ _ _ _ => pg_tup rfl (pgs_cons (pg_name (i := 3) sc_can_stand.nd rfl (Or.inl rfl)) (pgs_cons (pg_name (i := 4) sc_can_stand.nd rfl (Or.inl rfl)) pgs_nil))) (fun _ _ _ _ _ => pts_nil) (fun _ _ _ _ _ => (pe_and (pe_cmpR op_in_seq (pv 4) (pv 2) (by with_unfolding_all rfl)) (pe_one (pe_cmpR op_ne (pe_ix ix_lt (pv 1) (pv 3) (fun _ _ => rfl)) pe_int (nomark _))))))) pa_nil))) (pss_one (ps_ret pe_bl)) pss_nil) 
    (pss_one (ps_ret (pe_callB (cr_all rfl) (by rfl) m_all (by decide +kernel) (pa_cons (pe_lcX (pe_lc (own := [("queue", 5), ("_", 6), ("lead", 7)]) (g := gTup K 3 (gCons (gName 5) (gCons (gName 6) (gCons (gName 7) gNil)))) (tt := tYes) (te := tChain (rI0 fun i j => .bl (decide (i ≤ j))) (rI0 fun i j => .bl (decide (i ≤ j))) (tC (.int 0)) (tVar 7) (tCall (spMost K) [] E0 (tCons (tVar 5) tNil))) (by rfl) sc_can_stand.nd (pi_seq (pe_call G_spans hr (by rfl) g_spans F_spans.kp b_spans .nil pass0 (pa_cons (pv 0) (pa_cons (pv 1) pa_nil)))) (blkOk_by (own := [("queue", 5), ("_", 6), ("lead", 7)]) (N := sc_can_stand_N) (sc := defScope s_can_stand) (by decide +kernel)) (fun _ _ _ _ _ => pg_tup rfl (pgs_cons (pg_name (i := 5) sc_can_stand.nd rfl (Or.inl rfl)) (pgs_cons (pg_name (i := 6) sc_can_stand.nd rfl (Or.inl rfl)) (pgs_cons (pg_name (i := 7) sc_can_stand.nd rfl (Or.inl rfl)) pgs_nil)))) (fun _ _ _ _ _ => pts_nil) (fun _ _ _ _ _ => (pe_chain op_le op_le pe_int (pv 7) (pe_call G_most_lead hr (by rfl) g_most_lead F_most_lead.kp b_most_lead .nil pass0 (pa_cons (pv 5) pa_nil)))))) pa_nil)))))), ?_⟩
    refine ⟨_, rfl, v, fb, ws, qs, r, rfl, hD, hN.wn, hN.wl, hN.ql, hI, fun H1 p s1 hp => ?_⟩
    generalize hrest : (ws.filter fun x => decide (x ∈ r)) = rest at hp q
    replace hD := s1.dp hD
    replace hU := s1.dp hU
    obtain ⟨a0, a1, a2, xq, rfl, N0⟩ := netAt hD
    obtain ⟨ac, xc, rfl, hc, hxc⟩ := Dp.seq_of hU
    have e := dpa_ints_of9 hxc
    subst e
    have i0 : atI [V.ref a1, V.ref a2] 0 = some (.ref a1) := atI_nat (j := 0) rfl
    have hcl := hN.cl
    have hwl := hN.wl
    try dsimp only [gName]
    refine lc_of ?_
    refine iEnumA_at (a := a1) (fun R' q' => ⟨_, rfl, rIxF_at N0.h0 i0 q'⟩) N0.h1 fun J w D hD2 => ?_
    refine lc_it w (fun i H' => Same H1 H' ∧ H' D = some (.lst ((((ws.zip cs).take i).map fun p => decide (p.1 ∈ rest) && decide (p.2 ≠ 0)).map V.bl))) ⟨.upd hD2, upd_same⟩ (fun i H' _ p => p.1.sqF N0.h1) (fun i x H2 H2' hi p y => ?_) (fun H2 p => ?_)
    · obtain ⟨s2, h1⟩ := p
      obtain ⟨T, x1, x2, rfl, hT, rfl, ex1, hx⟩ := y
      cases ex1
      have hx : (ws.map V.str)[i]? = some x2 := hx
      rw [List.getElem?_map] at hx
      rw [List.length_map] at hi
      cases hz : ws[i]? with
      | none =>
        rw [hz] at hx
        cases hx
      | some z =>
        rw [hz] at hx
        cases hx
        have hci : cs[i]? = some cs[i] := List.getElem?_eq_getElem (by omega)
        have nD : D ≠ T := ne_of_none h1 hT
        have s3 := s2.trans (Same.upd (o := .tup [.int (i : Nat), .str z]) hT)
        have hT2 : (upd H2 T (.tup [.int (i : Nat), .str z])) T = some (.tup [.int (i : Nat), .str z]) := upd_same
        have hD3 : (upd H2 T (.tup [.int (i : Nat), .str z])) D = some (.lst ((((ws.zip cs).take i).map fun p => decide (p.1 ∈ rest) && decide (p.2 ≠ 0)).map V.bl)) := by
          rw [upd_ne nD]
          exact h1
        generalize upd H2 T (.tup [.int (i : Nat), .str z]) = H3 at s3 hT2 hD3 ⊢
        refine ⟨T, _, rfl, sqt_of hT2, rfl, _, _, rfl, _, _, rfl, rfl, rfl, ?_⟩
        dsimp only [tYes]
        rw [if_pos rfl]
        have fin : ∀ b : Bool, b = (decide (z ∈ rest) && decide (cs[i] ≠ 0)) → ∃ acc, H3 D = some (.lst acc) ∧ acc.length < sizeLine ∧ Same H1 (upd H3 D (.lst (acc ++ [.bl b]))) ∧ (upd H3 D (.lst (acc ++ [.bl b]))) D = some (.lst ((((ws.zip cs).take (i + 1)).map fun p => decide (p.1 ∈ rest) && decide (p.2 ≠ 0)).map V.bl)) := fun b eb => by
          refine ⟨_, hD3, ?_, s3.mut hD2, ?_⟩
          · rw [List.length_map, List.length_map, List.length_take, List.length_zip]
            exact sz_lt (by omega)
          · have hzi : (ws.zip cs)[i]? = some (z, cs[i]) := by rw [List.getElem?_zip_eq_some]; exact ⟨hz, hci⟩
            rw [upd_same, List.take_add_one, hzi, List.map_append, List.map_append, eb]
            rfl
        refine ⟨_, rfl, _, rfl, p, _, rfl, .inr (s3.sqT hp), rfl, flat_strs, ?_⟩
        rw [if_neg (by decide), in_strs]
        refine ⟨_, rfl, ?_⟩
        by_cases hm : z ∈ rest
        · rw [decide_eq_true hm]
          refine iteT ?_
          refine ⟨_, rfl, _, rfl, rIxF_at (s3.sqF hc) (atI_nat (j := i) (by rw [List.getElem?_map, hci]; rfl)) ?_⟩
          refine ⟨rfl, ?_⟩
          refine fin _ ?_
          rw [decide_eq_true hm, Bool.true_and]
          by_cases h0 : cs[i] = 0
          · rw [decide_eq_true (show V.int cs[i] = V.int 0 by rw [h0]), decide_eq_false (fun z => z h0)]
            rfl
          · rw [decide_eq_false (fun z => h0 (V.int.inj z)), decide_eq_true h0]
            rfl
        · rw [decide_eq_false hm]
          refine iteF ?_
          exact fin _ (by rw [decide_eq_false hm]; rfl)
    · obtain ⟨s2, h1⟩ := p
      rw [List.length_map, List.take_of_length_le (by rw [List.length_zip]; omega)] at h1
      have eR : (((ws.zip cs).map fun p => decide (p.1 ∈ rest) && decide (p.2 ≠ 0)).any id) = restB ws cs rest := by
        unfold restB
        rw [List.any_map]
        rfl
      refine ⟨D, _, rfl, sql_of h1, ?_⟩
      rw [eR]
      refine ⟨_, rfl, ?_⟩
      cases hB : restB ws cs rest with
      | true =>
        refine iteT ?_
        have ec : canF ws qs cs rest = false := by
          unfold canF
          rw [hB]
          rfl
        rw [ec] at q
        exact q _ (s1.trans s2)
      | false =>
        refine iteF ?_
        have ec : canF ws qs cs rest = qs.all fun q => decide (0 ≤ leadQ ws cs q) && decide (leadQ ws cs q ≤ mostQ q) := by
          unfold canF
          rw [hB]
          rfl
        rw [ec] at q
        have hq4 : qs.length ≤ 4000000 := Nat.le_trans hN.ql (by decide)
        try dsimp only [tNext]
        refine lc_of ?_
        refine .inl ?_
        refine ⟨_, rfl, _, rfl, .ref a0, .ref ac, fb, fc, ws, qs, cs, rfl, s2.dp hD, s2.dp hU, hN, fun H3 l ys s3 hl0 hl1 hda => ?_⟩
        refine ⟨l, rfl, ⟨ys, sql_of hl1⟩, ?_⟩
        refine lcw (Q := fun x H => tNil _ H fun xs H2 => rAll K (x :: xs) H2 Q) qs (spnD fb ws cs) (fun q => .bool (decide (0 ≤ leadQ ws cs q) && decide (leadQ ws cs q ≤ mostQ q))) (fun _ => true) (fun z σ2 => ∃ a, σ2 = [some (.ref a0), some (.ref ac), some (.ref p), none, none, some (.ref a), some (.int (cntF ws cs z.en)), some (.int (leadQ ws cs z))] ∧ SqF fb K H3 a [.str z.nm, .str z.st, .str z.en, .int z.room, .int z.gap]) (walk_list (K := K) (a := l) (xs := ys)) (fun H' e => sql_of (e _ _ hl1)) (cutS_le.dpa hda) hq4 (fun x z H4 R hz e1 hx rr => ?_) (fun z H4 σ2 hz e1 hB Q' q' => ?_) (fun z H4 σ2 T hz _ e1 eT tr hB Q' q' => ?_) (fun D2 zs H4 s4 hn4 h4 h5 => ?_)
        · obtain ⟨t0, xt, rfl, ht, hxt⟩ := Dp.seq_of (f := true) hx
          have ht : SqT K H3 t0 xt := ht
          cases hxt with
          | cons c1 hxt =>
            cases hxt with
            | cons c2 hxt =>
              cases hxt with
              | cons c3 hxt =>
                cases hxt
                cases c2
                cases c3
                obtain ⟨a, rfl, hs⟩ := dp_q c1
                exact ⟨t0, _, rfl, e1.sqT ht, rfl, _, _, rfl, _, _, rfl, _, _, rfl, rfl, rr _ ⟨a, rfl, hs⟩ rfl⟩
        · dsimp only [tYes]
          exact q' H4 fun _ _ e => e
        · obtain ⟨a, rfl, hs⟩ := hB
          obtain ⟨b1, b2, b3, b4⟩ := hb z hz
          refine ⟨_, rfl, _, _, rfl, rfl, _, rfl, ?_⟩
          by_cases h0 : 0 ≤ leadQ ws cs z
          · rw [decide_eq_true h0] at q' ⊢
            refine iteT ?_
            refine ⟨_, rfl, .ref a, fb, z, rfl, dp_row (e1.sqF hs), b1, b2, b3, b4, ?_⟩
            exact ⟨_, _, rfl, rfl, q' _ _ (fun _ _ e => e) (.bl _)⟩
          · rw [decide_eq_false h0] at q' ⊢
            refine iteF ?_
            exact q' _ _ (fun _ _ e => e) (.bl _)
        · rw [show qs.filter (fun _ => true) = qs from List.filter_eq_self.mpr fun _ _ => rfl] at h5
          have h6 : DpAll K (cutS [D2] H4) zs ((qs.map fun q => decide (0 ≤ leadQ ws cs q) && decide (leadQ ws cs q ≤ mostQ q)).map PyData.bool) := by
            rw [List.map_map]
            exact h5
          have e := dpa_bls9 h6
          subst e
          refine ⟨D2, _, rfl, sql_of h4, ?_⟩
          rw [List.all_map]
          exact q _ (((s1.trans s2).trans s3).trans s4)
end
end Jl

set_option Elab.async false
set_option linter.all false
set_option maxRecDepth 100000
set_option maxHeartbeats 1000000
set_option pp.maxSteps 300
namespace Jl
open PySem PySem.Spec PyProof.Rows L2
open Evl (sz_of sz_lt)
local macro_rules | `(tactic| walk_at "at") => `(tactic| first | exact box0 | exact box1 | exact box2)
local macro_rules | `(tactic| walk_at "sq") => `(tactic| first | (show SqL _ _ _ _; assumption) | (show SqT _ _ _ _; assumption) | (show _ = some _; assumption))
local macro_rules | `(tactic| walk_at "side") => `(tactic| first
  | (show (0 : Int) < _; decide)
  | (show (0 : Int) < _; omega)
  | exact ⟨by decide, by decide, by decide⟩
  | exact sz_of (Nat.le_of_ble_eq_true rfl)
  | exact rfl
  | exact Or.inl (by decide)
  | exact Or.inr (by decide)
  | exact Or.inr ⟨by omega, by omega⟩
  | exact Or.inl ⟨by omega, by omega⟩
  | exact ⟨by decide, by decide +kernel⟩)
local macro_rules | `(tactic| walk_at "ev1") => `(tactic| first
  | refine ⟨_, rfl, ?_⟩
  | refine ⟨_, _, rfl, rfl, ?_⟩
  | refine ⟨_, _, _, _, rfl, rfl, (by walk_at "sq"), (by walk_at "at"), ?_⟩
  | refine ⟨_, _, rfl, (by walk_at "sq"), ?_⟩
  | refine ⟨_, _, rfl, Or.inl (by walk_at "sq"), ?_⟩
  | refine ⟨_, _, rfl, Or.inr (by walk_at "sq"), ?_⟩
  | refine Or.inl ⟨_, rfl, ?_⟩
  | refine Or.inr ⟨_, rfl, ?_⟩
  | refine ⟨(by walk_at "side"), ?_⟩
  | refine ⟨.inl ⟨rfl, _, (by walk_at "sq")⟩, ?_⟩
  | refine ⟨_, _, rfl, ?_⟩)
local macro_rules | `(tactic| walk_at "nrm") => `(tactic| dsimp only [tNil, tCons, tC, tCB])
local macro_rules | `(tactic| walk_at "ev") => `(tactic| repeat (walk_at "ev1"))

abbrev sc_silences_N : List Str := ["net", "counts", "going", "rows", "blocked", "found", "worker", "low", "least", "row"]
abbrev s_silences : Stmt := topS 9
theorem sc_silences : FnScope ["net", "counts", "going", "rows", "blocked", "found", "worker", "low", "least", "row"] ["net", "counts", "going"] (defScope s_silences) := ⟨rfl, rfl, rfl, by decide +kernel, rfl, by decide +kernel, by decide +kernel⟩
/-! ### who says nothing any more -/
def lowB (ws : List Str) (cs : List Int) (x : Str) (q : QD) : Bool := decide (q.en = x) && decide (leadQ ws cs q < q.gap)
def highB (ws : List Str) (cs : List Int) (q : QD) : Bool := decide (q.room ≤ leadQ ws cs q)
def blkB (ws : List Str) (qs : List QD) (cs : List Int) (x : Str) : Bool := qs.any fun q => highB ws cs q && decide (q.st = x)
def blkO (ws : List Str) (cs : List Int) (acc : List Str) (q : QD) : List Str := if highB ws cs q = true then addK acc q.st else acc
theorem mem_addK {acc : List Str} {k x : Str} : x ∈ addK acc k ↔ x ∈ acc ∨ k = x := by
  unfold addK
  split
  · refine ⟨.inl, fun h => ?_⟩
    rcases h with h | h
    · exact h
    · rw [← h]
      assumption
  · rw [List.mem_append, List.mem_singleton]
    exact ⟨fun h => h.imp id Eq.symm, fun h => h.imp id Eq.symm⟩
theorem mem_blk {ws : List Str} {cs : List Int} {x : Str} : ∀ (qs : List QD) (acc : List Str), decide (x ∈ qs.foldl (blkO ws cs) acc) = (decide (x ∈ acc) || blkB ws qs cs x)
  | [], acc => by
    show decide (x ∈ acc) = (decide (x ∈ acc) || false)
    rw [Bool.or_false]
  | q :: qs, acc => by
    rw [List.foldl_cons, mem_blk qs]
    unfold blkB
    rw [List.any_cons]
    unfold blkO
    cases h : highB ws cs q with
    | true =>
      rw [if_pos rfl, Bool.true_and, ← Bool.or_assoc]
      congr 1
      rw [Bool.eq_iff_iff]
      simp [mem_addK]
    | false =>
      rw [if_neg (by decide), Bool.false_and, Bool.false_or]
theorem blk_len {ws : List Str} {cs : List Int} : ∀ (qs : List QD) (acc : List Str), (qs.foldl (blkO ws cs) acc).length ≤ acc.length + qs.length
  | [], acc => Nat.le_refl _
  | q :: qs, acc => by
    rw [List.foldl_cons, List.length_cons]
    have h1 := blk_len (ws := ws) (cs := cs) qs (blkO ws cs acc q)
    have h2 : (blkO ws cs acc q).length ≤ acc.length + 1 := by
      unfold blkO
      split
      · exact addK_len
      · omega
    omega
def lowL (ws : List Str) (qs : List QD) (cs : List Int) (x : Str) : List Int := (qs.filter (lowB ws cs x)).map (leadQ ws cs)
def silG (ws : List Str) (qs : List QD) (cs : List Int) (many : Int) : List (Str × Int) → List Int → Option (List Int)
  | [], acc => some acc
  | (x, c) :: r, acc => if c < many ∧ blkB ws qs cs x = false then (match lowL ws qs cs x with
    | [] => none
    | n :: ms => silG ws qs cs many r (acc ++ [ms.foldl min n])) else silG ws qs cs many r acc
def silH (ws : List Str) (qs : List QD) (cs : List Int) : List Str → List Int → Option (List Int)
  | [], acc => some acc
  | x :: r, acc => if blkB ws qs cs x = false then (match lowL ws qs cs x with
    | [] => none
    | n :: ms => silH ws qs cs r (acc ++ [ms.foldl min n])) else silH ws qs cs r acc
def goP (many : Int) (r : List (Str × Int)) : List Str := (r.filter fun p => decide (p.2 < many)).map Prod.fst
theorem silG_H {ws : List Str} {qs : List QD} {cs : List Int} {many : Int} : ∀ (r : List (Str × Int)) (acc : List Int), silG ws qs cs many r acc = silH ws qs cs (goP many r) acc
  | [], acc => rfl
  | (x, c) :: r, acc => by
    have e : goP many ((x, c) :: r) = if c < many then x :: goP many r else goP many r := by
      unfold goP
      rw [List.filter_cons]
      by_cases h : c < many
      · rw [if_pos h, if_pos (decide_eq_true h)]
        rfl
      · rw [if_neg h, if_neg (by simp [h])]
    rw [e]
    unfold silG
    by_cases h : c < many
    · rw [if_pos h]
      unfold silH
      by_cases hb : blkB ws qs cs x = false
      · rw [if_pos ⟨h, hb⟩, if_pos hb]
        cases lowL ws qs cs x with
        | nil => rfl
        | cons n ms => exact silG_H r _
      · rw [if_neg (fun z => hb z.2), if_neg hb]
        exact silG_H r acc
    · rw [if_neg h, if_neg (fun z => h z.1)]
      exact silG_H r acc
def goF (ws : List Str) (cs : List Int) (many : Int) : List Str := goP many (ws.zip cs)
theorem silH_cons {ws : List Str} {qs : List QD} {cs : List Int} {x : Str} {r : List Str} {acc : List Int} : silH ws qs cs (x :: r) acc = if blkB ws qs cs x = false then (match lowL ws qs cs x with
    | [] => none
    | n :: ms => silH ws qs cs r (acc ++ [ms.foldl min n])) else silH ws qs cs r acc := rfl
def silF (ws : List Str) (qs : List QD) (cs : List Int) (many : Int) : Option (List Int) := silG ws qs cs many (ws.zip cs) []
theorem silF_H {ws : List Str} {qs : List QD} {cs : List Int} {many : Int} : silF ws qs cs many = silH ws qs cs (goF ws cs many) [] := silG_H _ _
theorem foldl_min9 : ∀ (ms : List Int) (n : Int), (ms.foldl min n = n ∨ ms.foldl min n ∈ ms) ∧ ms.foldl min n ≤ n ∧ ∀ x ∈ ms, ms.foldl min n ≤ x
  | [], n => ⟨.inl rfl, Int.le_refl _, fun x hx => absurd hx List.not_mem_nil⟩
  | a :: ms, n => by
    obtain ⟨h1, h2, h3⟩ := foldl_min9 ms (min n a)
    have e : (a :: ms).foldl min n = ms.foldl min (min n a) := rfl
    rw [e]
    refine ⟨?_, by omega, fun x hx => ?_⟩
    · rcases h1 with h1 | h1
      · rcases (by omega : min n a = n ∨ min n a = a) with e | e
        · exact .inl (h1.trans e)
        · exact .inr (by rw [h1, e]; exact List.mem_cons_self)
      · exact .inr (List.mem_cons_of_mem _ h1)
    · rcases List.mem_cons.mp hx with rfl | hx
      · omega
      · exact h3 x hx
theorem min_one {n : Int} {ms : List Int} {m : Int} (hm : m ∈ n :: ms) (h : ∀ y ∈ n :: ms, m ≤ y) : m = ms.foldl min n := by
  obtain ⟨h1, h2, h3⟩ := foldl_min9 ms n
  have e1 : ms.foldl min n ≤ m := by
    rcases List.mem_cons.mp hm with rfl | hm
    · exact h2
    · exact h3 m hm
  have e2 : m ≤ ms.foldl min n := by
    rcases h1 with h1 | h1
    · rw [h1]
      exact h n List.mem_cons_self
    · exact h _ (List.mem_cons_of_mem _ h1)
  omega
section
variable {P : Program} {w : World} {K : PySem.W.Frag} {mg : Str → Option Value} {base : Heap}
def spLow (K : PySem.W.Frag) : Sp := fun vs H Q _ => ∃ (v : V) (fb : Bool) (q : QD) (d : Int), vs = [v, .int d] ∧ Dp K H v (q.d fb) ∧ Q (.bl (decide (d < q.gap))) H
def spHigh (K : PySem.W.Frag) : Sp := fun vs H Q _ => ∃ (v : V) (fb : Bool) (q : QD) (d : Int), vs = [v, .int d] ∧ Dp K H v (q.d fb) ∧ Q (.bl (decide (q.room ≤ d))) H
theorem ok_is_low {f : Addr} {fd : FuncData} {k : Nat} (F : Fun K "is_low" "is_low" s_is_low f fd) : FnOk P w K mg base CX0 (k + 1) f fd ["queue", "lead"] (spLow K) := by
  refine F.ok sc_is_low (fun vs H Q E h => ?_) (fun cdv A outer s0 H vs Q E hr h => ?_)
  · obtain ⟨v, fb, q, d, rfl, _⟩ := h
    rfl
  · obtain ⟨v, fb, qd, d, rfl, hD, q⟩ := h
    refine ⟨_, (pss_one (ps_ret (pe_cmpR op_lt (pv 1) (pe_ix ix_lt (pv 0) pe_int (fun _ _ => rfl)) (nomark _)))), ?_⟩
    obtain ⟨a, rfl, hs⟩ := dp_q hD
    exact ⟨_, rfl, _, rfl, rIxF_at hs (atI_nat (j := 4) rfl) ⟨_, _, rfl, rfl, q⟩⟩
theorem ok_is_high {f : Addr} {fd : FuncData} {k : Nat} (F : Fun K "is_high" "is_high" s_is_high f fd) : FnOk P w K mg base CX0 (k + 1) f fd ["queue", "lead"] (spHigh K) := by
  refine F.ok sc_is_high (fun vs H Q E h => ?_) (fun cdv A outer s0 H vs Q E hr h => ?_)
  · obtain ⟨v, fb, q, d, rfl, _⟩ := h
    rfl
  · obtain ⟨v, fb, qd, d, rfl, hD, q⟩ := h
    refine ⟨_, (pss_one (ps_ret (pe_cmpR op_ge (pv 1) (pe_ix ix_lt (pv 0) pe_int (fun _ _ => rfl)) (nomark _)))), ?_⟩
    obtain ⟨a, rfl, hs⟩ := dp_q hD
    exact ⟨_, rfl, _, rfl, rIxF_at hs (atI_nat (j := 3) rfl) ⟨_, _, rfl, rfl, q⟩⟩
/-- a row of spans -/
theorem dp_span {H : Hp} {v : V} {fb : Bool} {ws : List Str} {cs : List Int} {q : QD} (h : Dp K H v (spnD fb ws cs q)) : ∃ t a, v = .ref t ∧ SqF true K H t [.ref a, .int (cntF ws cs q.en), .int (leadQ ws cs q)] ∧ SqF fb K H a [.str q.nm, .str q.st, .str q.en, .int q.room, .int q.gap] := by
  obtain ⟨t0, xt, rfl, ht, hxt⟩ := Dp.seq_of (f := true) h
  cases hxt with
  | cons c1 hxt =>
    cases hxt with
    | cons c2 hxt =>
      cases hxt with
      | cons c3 hxt =>
        cases hxt
        cases c2
        cases c3
        obtain ⟨a, rfl, hs⟩ := dp_q c1
        exact ⟨t0, a, rfl, ht, hs⟩
theorem span_dp {H : Hp} {t a : Addr} {fb : Bool} {ws : List Str} {cs : List Int} {q : QD} (h : SqF true K H t [.ref a, .int (cntF ws cs q.en), .int (leadQ ws cs q)]) (hs : SqF fb K H a [.str q.nm, .str q.st, .str q.en, .int q.room, .int q.gap]) : Dp K H (.ref t) (spnD fb ws cs q) :=
  .tup (show SqT K H t _ from h) (.cons (dp_row hs) (.cons (.int _) (.cons (.int _) .nil)))
theorem sqt_cut9 {H : Hp} {a F : Addr} {xs fv : List V} (h : SqT K H a xs) (hF : H F = some (.lst fv)) : SqT K (cutS [F] H) a xs := by
  rcases h with (h | ⟨o, h⟩) | h
  · refine .inl (.inl (cutS_at h (not1 fun z => ?_)))
    rw [z, hF] at h
    cases h
  · refine .inl (.inr ⟨o, cutS_at h (not1 fun z => ?_)⟩)
    rw [z, hF] at h
    cases h
  · exact .inr h
theorem seq5_cut {H : Hp} {a F : Addr} {fb : Bool} {s : Str} {xs fv : List V} (h : SqF fb K H a (.str s :: xs)) (hF : H F = some (.lst fv)) (hv : ∀ x ∈ fv, ∃ t, x = V.ref t) : SqF fb K (cutS [F] H) a (.str s :: xs) := by
  cases fb with
  | true => exact sqt_cut9 (show SqT K H a _ from h) hF
  | false =>
    have h : SqL K H a (.str s :: xs) := h
    rcases h with (h | ⟨o, h⟩) | h
    · refine .inl (.inl (cutS_at h (not1 fun z => ?_)))
      rw [z, hF] at h
      cases h
      obtain ⟨t, ht⟩ := hv _ List.mem_cons_self
      cases ht
    · refine .inl (.inr ⟨o, cutS_at h (not1 fun z => ?_)⟩)
      rw [z, hF] at h
      cases h
    · exact .inr h
theorem span_cut {H : Hp} {v : V} {F : Addr} {fb : Bool} {ws : List Str} {cs : List Int} {q : QD} {fv : List V} (h : Dp K H v (spnD fb ws cs q)) (hF : H F = some (.lst fv)) (hv : ∀ x ∈ fv, ∃ t, x = V.ref t) : Dp K (cutS [F] H) v (spnD fb ws cs q) := by
  obtain ⟨t, a, rfl, ht, ha⟩ := dp_span h
  exact span_dp (show SqF true K (cutS [F] H) t _ from sqt_cut9 (show SqT K H t _ from ht) hF) (seq5_cut ha hF hv)
theorem spans_ref {H : Hp} {fb : Bool} {ws : List Str} {cs : List Int} : ∀ {gs : List QD} {fv : List V}, DpAll K H fv (gs.map (spnD fb ws cs)) → ∀ x ∈ fv, ∃ t, x = V.ref t
  | [], _, .nil, x, h => absurd h List.not_mem_nil
  | g :: gs, _, .cons h1 h2, x, h => by
    rcases List.mem_cons.mp h with e | h
    · rw [e]
      obtain ⟨t, a, e, _⟩ := dp_span h1
      exact ⟨t, e⟩
    · exact spans_ref h2 x h
theorem silG_cons {ws : List Str} {qs : List QD} {cs : List Int} {many : Int} {x : Str} {c : Int} {r : List (Str × Int)} {acc : List Int} : silG ws qs cs many ((x, c) :: r) acc = if c < many ∧ blkB ws qs cs x = false then (match lowL ws qs cs x with
    | [] => none
    | n :: ms => silG ws qs cs many r (acc ++ [ms.foldl min n])) else silG ws qs cs many r acc := rfl
theorem sqL_dk {H : Hp} {G a : Addr} {u o' : HO} {xs : List V} (hG : H G = some u) (hu : ∀ ys : List V, u ≠ .lst ys ∧ ∀ o, u ≠ .frz o (.lst ys)) (h : SqL K H a xs) : SqL K (upd H G o') a xs := by
  rcases h with (h | ⟨o, h⟩) | h
  · exact .inl (.inl (by rw [upd_ne (fun e => by rw [e, hG] at h; exact (hu xs).1 (Option.some.inj h))]; exact h))
  · exact .inl (.inr ⟨o, by rw [upd_ne (fun e => by rw [e, hG] at h; exact (hu xs).2 o (Option.some.inj h))]; exact h⟩)
  · exact .inr h
theorem sqT_dk {H : Hp} {G a : Addr} {u o' : HO} {xs : List V} (hG : H G = some u) (hu : ∀ ys : List V, u ≠ .tup ys ∧ ∀ o, u ≠ .frz o (.tup ys)) (h : SqT K H a xs) : SqT K (upd H G o') a xs := by
  rcases h with (h | ⟨o, h⟩) | h
  · exact .inl (.inl (by rw [upd_ne (fun e => by rw [e, hG] at h; exact (hu xs).1 (Option.some.inj h))]; exact h))
  · exact .inl (.inr ⟨o, by rw [upd_ne (fun e => by rw [e, hG] at h; exact (hu xs).2 o (Option.some.inj h))]; exact h⟩)
  · exact .inr h
/-- data do not lie in a dict of names, locked or not -/
def Dky (u : HO) : Prop := ∃ kvs, u = .dK kvs ∨ ∃ o, u = .frz o (.dK kvs)
theorem Dky.l {u : HO} (h : Dky u) (ys : List V) : u ≠ .lst ys ∧ ∀ o, u ≠ .frz o (.lst ys) := by
  obtain ⟨kvs, rfl | ⟨o, rfl⟩⟩ := h
  · exact ⟨fun e => (by cases e), fun o e => (by cases e)⟩
  · exact ⟨fun e => (by cases e), fun o e => (by cases e)⟩
theorem Dky.t {u : HO} (h : Dky u) (ys : List V) : u ≠ .tup ys ∧ ∀ o, u ≠ .frz o (.tup ys) := by
  obtain ⟨kvs, rfl | ⟨o, rfl⟩⟩ := h
  · exact ⟨fun e => (by cases e), fun o e => (by cases e)⟩
  · exact ⟨fun e => (by cases e), fun o e => (by cases e)⟩
section
variable {H : Hp} {G : Addr} {u o' : HO}
mutual
theorem dp_dk (hG : H G = some u) (hu : Dky u) : ∀ (d : PyData) (v : V), Dp K H v d → Dp K (upd H G o') v d
  | .none, _, h => by cases h; exact .non
  | .bool b, _, h => by cases h; exact .bl b
  | .int i, _, h => by cases h; exact .int i
  | .str x, _, h => by cases h; exact .str x
  | .list ds, _, h => by
    cases h with
    | lst hs ha => exact .lst (sqL_dk hG hu.l hs) (dpa_dk hG hu ds _ ha)
  | .tuple ds, _, h => by
    cases h with
    | tup hs ha => exact .tup (sqT_dk hG hu.t hs) (dpa_dk hG hu ds _ ha)
  | .dict _, _, h => by cases h
theorem dpa_dk (hG : H G = some u) (hu : Dky u) : ∀ (ds : List PyData) (vs : List V), DpAll K H vs ds → DpAll K (upd H G o') vs ds
  | [], _, h => by cases h; exact .nil
  | d :: ds, _, h => by
    cases h with
    | cons h1 h2 => exact .cons (dp_dk hG hu d _ h1) (dpa_dk hG hu ds _ h2)
end
end
def spSil (K : PySem.W.Frag) : Sp := fun vs H Q _ => ∃ (v u : V) (G : Addr) (fb fc : Bool) (ws : List Str) (qs : List QD) (cs : List Int) (go : List Str), vs = [v, u, .ref G] ∧ Dp K H v (netD fb ws qs) ∧ Dp K H u (seqD fc (cs.map PyData.int)) ∧ NetC ws qs cs ∧ H G = some (.dK (kvT go)) ∧ go.length ≤ 1000 ∧
  ∀ H', Same H H' → (silH ws qs cs go [] = none → Q .non H') ∧ ∀ (ls : List Int) (l : Addr) (ys : List V) (gs : List QD), silH ws qs cs go [] = some ls → H' l = some (.lst ys) → DpAll K H' ys (gs.map (spnD fb ws cs)) → gs.map (leadQ ws cs) = ls → (∀ q ∈ gs, q ∈ qs) → Q (.ref l) H'
theorem ok_silences {f fS fL fH : Addr} {fd fdS fdL fdH : FuncData} {k : Nat} (F : Fun K "silences" "silences" s_silences f fd)
    (G_spans : FnOk P w K mg base CX0 k fS fdS ["net", "counts"] (spSpans K)) (g_spans : mg "spans" = some (.ref fS)) (F_spans : Fun K "spans" "spans" s_spans fS fdS) (b_spans : Binds K fdS ["net", "counts"] [])
    (G_is_low : FnOk P w K mg base CX0 k fL fdL ["queue", "lead"] (spLow K)) (g_is_low : mg "is_low" = some (.ref fL)) (F_is_low : Fun K "is_low" "is_low" s_is_low fL fdL) (b_is_low : Binds K fdL ["queue", "lead"] [])
    (G_is_high : FnOk P w K mg base CX0 k fH fdH ["queue", "lead"] (spHigh K)) (g_is_high : mg "is_high" = some (.ref fH)) (F_is_high : Fun K "is_high" "is_high" s_is_high fH fdH) (b_is_high : Binds K fdH ["queue", "lead"] [])
    (m_len : mg "len" = none) (m_min : mg "min" = none) : FnOk P w K mg base CX0 (k + 1) f fd ["net", "counts", "going"] (spSil K) := by
  refine F.ok sc_silences (fun vs H Q E h => ?_) (fun cdv A outer s0 H vs Q E hr h => ?_)
  · obtain ⟨v, u, G, fb, fc, ws, qs, cs, go, rfl, _⟩ := h
    rfl
  · obtain ⟨v, u, G, fb, fc, ws, qs, cs, go, rfl, hD, hU, hN, hG, hgo, q⟩ := h
    have hu := hu_of hr
    refine ⟨_, (pss_cons (ps_set (i := 3) sc_silences.nd rfl (Or.inl rfl) (pe_call G_spans hr (by rfl) g_spans F_spans.kp b_spans .nil pass0 (pa_cons (pv 0) (pa_cons (pv 1) pa_nil)))) 
    (pss_cons (ps_setDcX (ps_setDc (i := 4) (own := [("row", 9)]) (g := gName 9) (tt := tB (tCall (spHigh K) [] E0 (tCons (tOp (rIxF K) (tVar 9) (tC (.int 0))) (tCons (tOp (rIxF K) (tVar 9) (tC (.int 2))) tNil)))) (tk := tOp (rIxF K) (tOp (rIxF K) (tVar 9) (tC (.int 0))) (tC (.int 1))) rfl sc_silences.nd rfl rfl (swd_true rfl rfl rfl (by decide +kernel)) (pi_seq (pv 3)) (blkOk_by (own := [("row", 9)]) (N := sc_silences_N) (sc := defScope s_silences) (by decide +kernel)) (fun _ _ _ _ _ => pg_name (i := 9) sc_silences.nd rfl (Or.inl rfl)) (fun _ _ _ _ _ => (pts_one (pt_val (pe_call G_is_high hr (by rfl) g_is_high F_is_high.kp b_is_high .nil pass0 (pa_cons (pe_ix ix_lt (pv 9) pe_int (fun _ _ => rfl)) (pa_cons (pe_ix ix_lt (pv 9) pe_int (fun _ _ => rfl)) pa_nil)))))) (fun _ _ _ _ _ => (pe_ix ix_lt (pe_ix ix_lt (pv 9) pe_int (fun _ _ => rfl)) pe_int (fun _ _ => rfl))) (fun _ _ _ _ _ => pe_bl))) 
    (pss_cons (ps_set (i := 5) sc_silences.nd rfl (Or.inl rfl) (pe_lst pa_nil)) 
    (pss_cons (ps_lock (ps_forX (ps_for PassesOwn.never rfl (pi_keys (pv 2)) (pg_name (i := 6) sc_silences.nd rfl (Or.inr rfl)) (pss_one (ps_if (pt_cmp (pc_dnotin hu (pv 6) (pv 4))) 
        (pss_cons (ps_setLcX (ps_setLc (i := 7) (own := [("row", 9)]) (g := gName 9) (tt := tAnd (tTest (tOp rEq (tOp (rIxF K) (tOp (rIxF K) (tVar 9) (tC (.int 0))) (tC (.int 2))) (tVar 6))) (tB (tCall (spLow K) [] E0 (tCons (tOp (rIxF K) (tVar 9) (tC (.int 0))) (tCons (tOp (rIxF K) (tVar 9) (tC (.int 2))) tNil))))) rfl sc_silences.nd rfl rfl (sw_true rfl rfl rfl (by decide +kernel)) (pi_seq (pv 3)) (blkOk_by (own := [("row", 9)]) (N := sc_silences_N) (sc := defScope s_silences) (by decide +kernel)) (fun _ _ _ _ _ => pg_name (i := 9) sc_silences.nd rfl (Or.inl rfl)) (fun _ _ _ _ _ => (pts_one (PW.pt (pw_and (pt_cmpR op_eq (pe_ix ix_lt (pe_ix ix_lt (pv 9) pe_int (fun _ _ => rfl)) pe_int (fun _ _ => rfl)) (pv 6) (nomark _)) (pw_and1 (pt_val (pe_call G_is_low hr (by rfl) g_is_low F_is_low.kp b_is_low .nil pass0 (pa_cons (pe_ix ix_lt (pv 9) pe_int (fun _ _ => rfl)) (pa_cons (pe_ix ix_lt (pv 9) pe_int (fun _ _ => rfl)) pa_nil))))))))) (fun _ _ _ _ _ => (pv 9)))) 
        (pss_cons (ps_if (pt_cmpR op_eq (pe_callB call_len_seq (by rfl) m_len PySem.boot_len (pa_cons (pv 7) pa_nil)) pe_int (nomark _)) (pss_one (ps_ret pe_non)) pss_nil) 
        (pss_cons (ps_set (i := 8) sc_silences.nd rfl (Or.inr rfl) (pe_callB (cr_min rfl) (by rfl) m_min (by decide +kernel) (pa_cons (pe_lcX (pe_lc (own := [("row", 9)]) (g := gName 9) (tt := tYes) (te := (tOp (rIxF K) (tVar 9) (tC (.int 2)))) (by rfl) sc_silences.nd (pi_seq (pv 7)) (blkOk_by (own := [("row", 9)]) (N := sc_silences_N) (sc := defScope s_silences) (by decide +kernel)) (fun _ _ _ _ _ => pg_name (i := 9) sc_silences.nd rfl (Or.inl rfl)) (fun _ _ _ _ _ => pts_nil) (fun _ _ _ _ _ => (pe_ix ix_lt (pv 9) pe_int (fun _ _ => rfl))))) pa_nil))) 
        (pss_one (ps_expr (pe_bm PySem.F.plainAttrs_list PySem.F.slot_list_append PySem.F.type_list_append mt_append (pv 5) (pa_cons (pe_ix ix_list (pe_lcX (pe_lc (own := [("row", 9)]) (g := gName 9) (tt := tTest (tOp rEq (tOp (rIxF K) (tVar 9) (tC (.int 2))) (tVar 8))) (by rfl) sc_silences.nd (pi_seq (pv 7)) (blkOk_by (own := [("row", 9)]) (N := sc_silences_N) (sc := defScope s_silences) (by decide +kernel)) (fun _ _ _ _ _ => pg_name (i := 9) sc_silences.nd rfl (Or.inl rfl)) (fun _ _ _ _ _ => (pts_one (pt_cmpR op_eq (pe_ix ix_lt (pv 9) pe_int (fun _ _ => rfl)) (pv 8) (nomark _)))) (fun _ _ _ _ _ => (pv 9)))) pe_int (fun _ _ => rfl)) pa_nil))))))) pss_nil))))) 
    (pss_one (ps_ret (pv 5))))))), ?_⟩
    refine ⟨_, rfl, _, rfl, v, u, fb, fc, ws, qs, cs, rfl, hD, hU, hN, fun H1 l ys s1 hl0 hl1 hda => ?_⟩
    replace hda := cutS_le.dpa hda
    replace hD := s1.dp hD
    replace hU := s1.dp hU
    obtain ⟨a0, a1, a2, xq, rfl, N0⟩ := netAt hD
    obtain ⟨ac, xc, rfl, hc, hxc⟩ := Dp.seq_of hU
    have e := dpa_ints_of9 hxc
    subst e
    have i0 : atI [V.ref a1, V.ref a2] 0 = some (.ref a1) := atI_nat (j := 0) rfl
    have hcl := hN.cl
    have hwl := hN.wl
    have hql := hN.ql
    have hyl := dpa_len hda
    rw [List.length_map] at hyl
    have lk : ∀ ks : List Str, (kvT ks).length = ks.length := fun ks => by unfold kvT; rw [List.length_map]
    try dsimp only [gName, tSeq, tAsg]
    refine dc_of ?_
    refine .inl ?_
    refine ⟨_, rfl, ?_⟩
    refine ⟨l, rfl, ⟨ys, sql_of hl1⟩, fun B hB => ?_⟩
    refine dc_it (walk_list (K := K) (a := l) (xs := ys)) (fun i H' => Same H1 H' ∧ H' B = some (.dK (kvT ((qs.take i).foldl (blkO ws cs) [])))) ⟨.upd hB, upd_same⟩ (fun i H' _ p => sql_of (p.1 _ _ hl1)) (fun i x H2 H2' hi p y => ?_) (fun H2 p => ?_)
    · obtain ⟨s2, h1⟩ := p
      obtain ⟨rfl, hx⟩ := y
      obtain ⟨d, hd, hxd⟩ := dpa_get hda hx
      rw [List.getElem?_map] at hd
      cases hz : qs[i]? with
      | none =>
        rw [hz] at hd
        cases hd
      | some z =>
        rw [hz] at hd
        cases hd
        obtain ⟨t, a, rfl, ht, ha⟩ := dp_span (s2.dp hxd)
        refine ⟨rfl, ?_⟩
        refine ⟨_, rfl, rIxF_at ht (atI_nat (j := 0) rfl) ?_⟩
        refine ⟨_, rfl, rIxF_at ht (atI_nat (j := 2) rfl) ?_⟩
        refine ⟨.ref a, fb, z, _, rfl, dp_row ha, ?_⟩
        refine ⟨_, rfl, ?_⟩
        have et : (qs.take (i + 1)).foldl (blkO ws cs) [] = blkO ws cs ((qs.take i).foldl (blkO ws cs) []) z := by
          rw [List.take_add_one, hz, List.foldl_append]
          rfl
        have fl := blk_len (ws := ws) (cs := cs) (qs.take i) []
        rw [List.length_nil, List.length_take] at fl
        have eh : decide (z.room ≤ leadQ ws cs z) = highB ws cs z := rfl
        rw [eh]
        cases hh : highB ws cs z with
        | true =>
          refine iteT ?_
          refine ⟨_, rfl, rIxF_at ht (atI_nat (j := 0) rfl) (rIxF_at ha (atI_nat (j := 1) rfl) ?_)⟩
          refine ⟨_, .inr z.st, rfl, h1, by rw [lk]; exact sz_lt (by omega), s2.mut hB, ?_⟩
          rw [upd_same, putT, et]
          unfold blkO
          rw [if_pos hh]
        | false =>
          refine iteF ?_
          refine ⟨s2, ?_⟩
          rw [et]
          unfold blkO
          rw [if_neg (by rw [hh]; decide)]
          exact h1
    · obtain ⟨s2, h1⟩ := p
      rw [hyl, List.take_length] at h1
      refine ⟨by decide, fun Fa hFa => ?_⟩
      have e3 : Same H2 (cutS [Fa] (upd H2 Fa (.lst []))) := fun a o ha => by
        rw [cutS_out (not1 (ne_of_none ha hFa))]
        exact (Same.upd hFa) a o ha
      have hF3 : (upd H2 Fa (.lst [])) Fa = some (.lst []) := upd_same
      generalize upd H2 Fa (.lst []) = H3 at e3 hF3 ⊢
      generalize hres : silH ws qs cs go [] = res at q
      have hB2 : H2 B = some (.dK (kvT (qs.foldl (blkO ws cs) []))) := h1
      have hda2 := s2.dpa hda
      have hl2 := s2 _ _ hl1
      have hc2 := s2.sqF hc
      have N2 := N0.same s2
      have S2 := s1.trans s2
      have hG2 := S2 _ _ hG
      have nFG : Fa ≠ G := fun z => by
        rw [z, hG2] at hFa
        cases hFa
      have hG3 : H3 G = some (.dK (kvT go)) := cutS_le _ _ (e3 _ _ hG2)
      refine ⟨G, .dK (kvT go), hG3, trivial, fun od => ?_⟩
      have hda2 : DpAll K (upd H2 G (.frz od (.dK (kvT go)))) ys (qs.map (spnD fb ws cs)) := dpa_dk hG2 ⟨_, .inl rfl⟩ _ _ hda2
      have hl2 : (upd H2 G (.frz od (.dK (kvT go)))) l = some (.lst ys) := by
        rw [upd_ne (fun z => by rw [z, hG2] at hl2; cases hl2)]
        exact hl2
      have nBG : B ≠ G := fun z => by
        have hGb := s1 _ _ hG
        rw [z, hGb] at hB
        cases hB
      have hB2 : (upd H2 G (.frz od (.dK (kvT go)))) B = some (.dK (kvT (qs.foldl (blkO ws cs) []))) := by
        rw [upd_ne nBG]
        exact hB2
      have hGL : (upd H2 G (.frz od (.dK (kvT go)))) G = some (.frz od (.dK (kvT go))) := upd_same
      have back : ∀ H', Same (upd H2 G (.frz od (.dK (kvT go)))) H' → Same H (upd H' G (.dK (kvT go))) := fun H' e a o ha => by
        have h2 := S2 _ _ ha
        by_cases z : a = G
        · rw [z, upd_same, ← hG2, ← z]
          exact h2
        · rw [upd_ne z]
          exact e _ _ (by rw [upd_ne z]; exact h2)
      replace e3 : Same (upd H2 G (.frz od (.dK (kvT go)))) (cutS [Fa] (upd H3 G (.frz od (.dK (kvT go))))) := fun a o ha => by
        by_cases z : a = G
        · rw [z] at ha ⊢
          rw [cutS_out (not1 (fun z => nFG z.symm)), upd_same]
          rw [upd_same] at ha
          exact ha
        · rw [upd_ne z] at ha
          have h3 := e3 _ _ ha
          obtain ⟨h4, h5⟩ := cutS_some h3
          rw [cutS_out h4, upd_ne z]
          exact h5
      have hF3 : (upd H3 G (.frz od (.dK (kvT go)))) Fa = some (.lst []) := by
        rw [upd_ne nFG]
        exact hF3
      generalize upd H3 G (.frz od (.dK (kvT go))) = H3 at e3 hF3 ⊢
      generalize upd H2 G (.frz od (.dK (kvT go))) = H2 at hda2 hl2 hB2 hGL back e3 ⊢
      refine for_of ?_
      refine ⟨_, rfl, G, od, rfl, .inl ⟨kvT go, cutS_le _ _ (e3 _ _ hGL), ?_⟩⟩
      refine forR_it walk_keys (fun i σ Hc => ∃ (x6 x7 x8 : Option V) (fv : List V) (gs : List QD), σ = [some (.ref a0), some (.ref ac), some (.ref G), some (.ref l), some (.ref B), some (.ref Fa), x6, x7, x8, none] ∧ Hc Fa = some (.lst fv) ∧ DpAll K (cutS [Fa] Hc) fv (gs.map (spnD fb ws cs)) ∧ (∀ q ∈ gs, q ∈ qs) ∧ gs.length ≤ i ∧ silH ws qs cs (go.drop i) (gs.map (leadQ ws cs)) = res ∧ Same H2 (cutS [Fa] Hc)) ⟨_, _, _, [], [], rfl, hF3, .nil, fun q hq => absurd hq List.not_mem_nil, Nat.le_refl _, hres, e3⟩ (fun i σ Hc _ hh => ?_) (fun i x σ Hc Hc' hi hh y => ?_) (fun σ Hc hh => ?_)
      · obtain ⟨_, _, _, _, _, _, _, _, _, _, _, e⟩ := hh
        exact cutS_le _ _ (e _ _ hGL)
      · obtain ⟨x6, x7, x8, fv, gs, rfl, hf, hfd, hgq, hgl, hsil, e⟩ := hh
        obtain ⟨rfl, k1, v1, hx, rfl⟩ := y
        unfold kvT at hx
        rw [List.getElem?_map] at hx
        cases hz : go[i]? with
        | none =>
          rw [hz] at hx
          cases hx
        | some z =>
          rw [hz] at hx
          cases hx
          have hig : i < go.length := (List.getElem?_eq_some_iff.mp hz).1
          have hdr : go.drop i = z :: go.drop (i + 1) := by
            rw [List.drop_eq_getElem_cons hig]
            rw [List.getElem?_eq_getElem hig] at hz
            rw [Option.some.inj hz]
          rw [hdr, silH_cons] at hsil
          have e24 := e.trans cutS_le
          refine ⟨_, rfl, _, rfl, B, _, rfl, DGet.k (k := .inr z) (e24 _ _ hB2), ?_⟩
          · skip
            rw [inT, mem_blk, show decide (z ∈ ([] : List Str)) = false from decide_eq_false List.not_mem_nil, Bool.false_or]
            refine ⟨_, rfl, ?_⟩
            cases hbz : blkB ws qs cs z with
            | true =>
              refine iteF ?_
              rw [if_neg (fun z => by rw [hbz] at z; exact Bool.false_ne_true z.symm)] at hsil
              exact ⟨_, _, _, fv, gs, rfl, hf, hfd, hgq, by omega, hsil, e⟩
            | false =>
              refine iteT ?_
              rw [if_pos hbz] at hsil
              have hda4 := e24.dpa hda2
              have hl4 := e24 _ _ hl2
              have hq4 : qs.length ≤ 4000000 := Nat.le_trans hql (by decide)
              refine lc_of ?_
              refine .inl ?_
              refine ⟨_, rfl, l, rfl, ⟨ys, sql_of hl4⟩, ?_⟩
              refine lcw (Q := fun x H => gName 7 x _ H _) qs (spnD fb ws cs) (spnD fb ws cs) (lowB ws cs z) (fun q σ2 => ∃ t0 a, σ2 = [some (.ref a0), some (.ref ac), some (.ref G), some (.ref l), some (.ref B), some (.ref Fa), some (.str z), x7, x8, some (.ref t0)] ∧ SqF true K Hc' t0 [.ref a, .int (cntF ws cs q.en), .int (leadQ ws cs q)] ∧ SqF fb K Hc' a [.str q.nm, .str q.st, .str q.en, .int q.room, .int q.gap]) (walk_list (K := K) (a := l) (xs := ys)) (fun H' e => sql_of (e _ _ hl4)) hda4 hq4 (fun x q H5 R hq e5 hx rr => ?_) (fun q H5 σ2 hq e5 hB Q' q' => ?_) (fun q H5 σ2 T2 hq _ e5 eT tr hB Q' q' => ?_) (fun D2 zs H5 s5 hn5 h5 h6 => ?_)
              · obtain ⟨t0, a, rfl, ht, ha⟩ := dp_span hx
                exact rr _ ⟨t0, a, rfl, ht, ha⟩ rfl
              · obtain ⟨t0, a, rfl, ht, ha⟩ := hB
                have ht5 := e5.sqF ht
                have ha5 := e5.sqF ha
                refine ⟨_, rfl, rIxF_at ht5 (atI_nat (j := 0) rfl) (rIxF_at ha5 (atI_nat (j := 2) rfl) ?_)⟩
                refine ⟨_, rfl, rfl, _, rfl, ?_⟩
                have qq := q' H5 fun _ _ e => e
                unfold lowB at qq
                by_cases hqe : q.en = z
                · rw [decide_eq_true hqe, Bool.true_and] at qq
                  rw [decide_eq_true (show V.str q.en = V.str z by rw [hqe])]
                  refine iteT ?_
                  refine ⟨_, rfl, rIxF_at ht5 (atI_nat (j := 0) rfl) ?_⟩
                  refine ⟨_, rfl, rIxF_at ht5 (atI_nat (j := 2) rfl) ?_⟩
                  exact ⟨.ref a, fb, q, _, rfl, dp_row ha5, _, rfl, qq⟩
                · rw [decide_eq_false hqe, Bool.false_and] at qq
                  rw [decide_eq_false (fun zz => hqe (V.str.inj zz))]
                  exact iteF qq
              · obtain ⟨t0, a, rfl, ht, ha⟩ := hB
                exact ⟨_, rfl, q' H5 _ (fun _ _ e => e) (eT.dp (span_dp ht ha))⟩
              · have e5 := e.trans (cutS_mono s5)
                have hf5 := s5 _ _ hf
                have hfd5 := (cutS_mono s5).dpa hfd
                have h6 := cutS_le.dpa h6
                have zl := dpa_len h6
                rw [List.length_map] at zl
                generalize hlow : qs.filter (lowB ws cs z) = lows at h6 zl
                have ell : lowL ws qs cs z = lows.map (leadQ ws cs) := by
                  unfold lowL
                  rw [hlow]
                have lm : ∀ q ∈ lows, q ∈ qs := fun q hq => by
                  rw [← hlow] at hq
                  exact (List.mem_filter.mp hq).1
                have ll4 : lows.length ≤ 1000 := by
                  rw [← hlow]
                  exact Nat.le_trans (List.length_filter_le _ _) hql
                rw [ell] at hsil
                clear hlow ell
                try dsimp only [gName, List.set]
                refine ⟨_, rfl, D2, zs, rfl, .inl (sql_of h5), ?_⟩
                refine ⟨rfl, _, rfl, ?_⟩
                rw [zl]
                cases lows with
                | nil =>
                  refine iteT ?_
                  exact ⟨cutS_le _ _ (e5 _ _ hGL), (q _ (back _ (e5.trans cutS_le))).1 hsil.symm⟩
                | cons g0 gr =>
                  rw [decide_eq_false (fun zz => by have := V.int.inj zz; rw [List.length_cons] at this; omega)]
                  refine iteF ?_
                  try dsimp only [tNext]
                  refine lc_of ?_
                  refine .inl ?_
                  refine ⟨_, rfl, D2, rfl, ⟨zs, sql_of h5⟩, ?_⟩
                  have hg4 : (g0 :: gr).length ≤ 4000000 := Nat.le_trans ll4 (by decide)
                  refine lcw (Q := fun x H => tNil _ H fun xs H2 => rMin K (x :: xs) H2 fun x H1 => gName 8 x _ H1 _) (g0 :: gr) (spnD fb ws cs) (fun q => .int (leadQ ws cs q)) (fun _ => true) (fun q σ2 => ∃ t0 a, σ2 = [some (.ref a0), some (.ref ac), some (.ref G), some (.ref l), some (.ref B), some (.ref Fa), some (.str z), some (.ref D2), x8, some (.ref t0)] ∧ SqF true K H5 t0 [.ref a, .int (cntF ws cs q.en), .int (leadQ ws cs q)] ∧ SqF fb K H5 a [.str q.nm, .str q.st, .str q.en, .int q.room, .int q.gap]) (walk_list (K := K) (a := D2) (xs := zs)) (fun H' e => sql_of (e _ _ h5)) h6 hg4 (fun x q H6 R hq e6 hx rr => ?_) (fun q H6 σ2 hq e6 hB Q' q' => ?_) (fun q H6 σ2 T2 hq _ e6 eT tr hB Q' q' => ?_) (fun D3 us H6 s6 hn6 h7 h8 => ?_)
                  · obtain ⟨t0, a, rfl, ht, ha⟩ := dp_span hx
                    exact rr _ ⟨t0, a, rfl, ht, ha⟩ rfl
                  · dsimp only [tYes]
                    exact q' H6 fun _ _ e => e
                  · obtain ⟨t0, a, rfl, ht, ha⟩ := hB
                    exact ⟨_, rfl, rIxF_at (e6.sqF ht) (atI_nat (j := 2) rfl) (q' H6 _ (fun _ _ e => e) (.int _))⟩
                  · rw [show (g0 :: gr).filter (fun _ => true) = g0 :: gr from List.filter_eq_self.mpr fun _ _ => rfl] at h8
                    have h8 : DpAll K (cutS [D3] H6) us (((g0 :: gr).map (leadQ ws cs)).map PyData.int) := by
                      rw [List.map_map]
                      exact h8
                    have eu := dpa_ints_of9 h8
                    subst eu
                    refine ⟨D3, _, rfl, sql_of h7, Nat.succ_pos _, fun m hm hle => ?_⟩
                    have em := min_one (n := leadQ ws cs g0) (ms := gr.map (leadQ ws cs)) hm hle
                    have e6 := e5.trans (cutS_mono s6)
                    have hf6 := s6 _ _ hf5
                    have hfd6 := (cutS_mono s6).dpa hfd5
                    have h66 := s6.dpa h6
                    have h56 := s6 _ _ h5
                    clear h8 h7 hn6 s6 hn5 h5 h6 s5 hfd5 hf5
                    try dsimp only [gName, List.set]
                    refine ⟨_, rfl, ?_⟩
                    refine ⟨.inl ⟨rfl, _, sql_of hf6⟩, ?_⟩
                    refine lc_of ?_
                    refine .inl ?_
                    refine ⟨_, rfl, D2, rfl, ⟨zs, sql_of h56⟩, ?_⟩
                    refine lcw (Q := fun x H => tC (.int 0) _ H fun y H2 => rIxL K x y H2 fun v H3 => tNil _ H3 fun vs H4 => rAppend (.ref Fa) (v :: vs) H4 _) (g0 :: gr) (spnD fb ws cs) (spnD fb ws cs) (fun q => decide (leadQ ws cs q = m)) (fun q σ2 => ∃ t0 a, σ2 = [some (.ref a0), some (.ref ac), some (.ref G), some (.ref l), some (.ref B), some (.ref Fa), some (.str z), some (.ref D2), some (.int m), some (.ref t0)] ∧ SqF true K H6 t0 [.ref a, .int (cntF ws cs q.en), .int (leadQ ws cs q)] ∧ SqF fb K H6 a [.str q.nm, .str q.st, .str q.en, .int q.room, .int q.gap]) (walk_list (K := K) (a := D2) (xs := zs)) (fun H' e => sql_of (e _ _ h56)) h66 hg4 (fun x q H7 R hq e7 hx rr => ?_) (fun q H7 σ2 hq e7 hB Q' q' => ?_) (fun q H7 σ2 T2 hq _ e7 eT tr hB Q' q' => ?_) (fun D4 us H7 s7 hn7 h7 h8 => ?_)
                    · obtain ⟨t0, a, rfl, ht, ha⟩ := dp_span hx
                      exact rr _ ⟨t0, a, rfl, ht, ha⟩ rfl
                    · obtain ⟨t0, a, rfl, ht, ha⟩ := hB
                      refine ⟨_, rfl, rIxF_at (e7.sqF ht) (atI_nat (j := 2) rfl) ?_⟩
                      refine ⟨_, rfl, rfl, _, rfl, ?_⟩
                      have qq := q' H7 fun _ _ e => e
                      by_cases hqe : leadQ ws cs q = m
                      · rw [decide_eq_true hqe] at qq
                        rw [decide_eq_true (show V.int (leadQ ws cs q) = V.int m by rw [hqe])]
                        exact qq
                      · rw [decide_eq_false hqe] at qq
                        rw [decide_eq_false (fun zz => hqe (V.int.inj zz))]
                        exact qq
                    · obtain ⟨t0, a, rfl, ht, ha⟩ := hB
                      exact ⟨_, rfl, q' H7 _ (fun _ _ e => e) (eT.dp (span_dp ht ha))⟩
                    · have h8 := cutS_le.dpa h8
                      obtain ⟨q1, hq1, hlq⟩ : ∃ q1 ∈ g0 :: gr, leadQ ws cs q1 = m := by
                        obtain ⟨q1, h1, h2⟩ := List.mem_map.mp (show m ∈ (g0 :: gr).map (leadQ ws cs) from hm)
                        exact ⟨q1, h1, h2⟩
                      generalize hfl : (g0 :: gr).filter (fun q => decide (leadQ ws cs q = m)) = fl at h8
                      have hne : fl ≠ [] := fun zz => by
                        have : q1 ∈ (g0 :: gr).filter (fun q => decide (leadQ ws cs q = m)) := List.mem_filter.mpr ⟨hq1, decide_eq_true hlq⟩
                        rw [hfl, zz] at this
                        cases this
                      cases fl with
                      | nil => exact absurd rfl hne
                      | cons p0 pr =>
                        have hp0 : p0 ∈ (g0 :: gr).filter (fun q => decide (leadQ ws cs q = m)) := by
                          rw [hfl]
                          exact List.mem_cons_self
                        obtain ⟨hp1, hp2⟩ := List.mem_filter.mp hp0
                        have hp2 := of_decide_eq_true hp2
                        cases h8 with
                        | cons k1 k2 =>
                          have hf7 := s7 _ _ hf6
                          have hfd7 := (cutS_mono s7).dpa hfd6
                          have k1 := span_cut k1 hf7 (spans_ref hfd7)
                          have fvl := dpa_len hfd7
                          rw [List.length_map] at fvl
                          refine ⟨D4, _, 0, _, rfl, rfl, sql_of h7, atI_nat (j := 0) rfl, ?_⟩
                          refine ⟨Fa, fv, _, rfl, rfl, hf7, szL (by omega), ?_⟩
                          refine ⟨_, _, _, _, gs ++ [p0], rfl, upd_same, ?_, ?_, ?_, ?_, ?_⟩
                          · rw [cutS_upd List.mem_cons_self, List.map_append]
                            exact dpa_app hfd7 (dpa_one k1)
                          · intro q hq
                            rcases List.mem_append.mp hq with hq | hq
                            · exact hgq q hq
                            · rw [List.mem_singleton.mp hq]
                              exact lm p0 hp1
                          · rw [List.length_append, List.length_singleton]
                            omega
                          · rw [List.map_append, ← hsil]
                            show silH ws qs cs _ (_ ++ [leadQ ws cs p0]) = silH ws qs cs _ (_ ++ [(gr.map (leadQ ws cs)).foldl min (leadQ ws cs g0)])
                            rw [hp2, em]
                          · rw [cutS_upd List.mem_cons_self]
                            exact e6.trans (cutS_mono s7)
      · obtain ⟨x6, x7, x8, fv, gs, rfl, hf, hfd, hgq, hgl, hsil, e⟩ := hh
        rw [show (kvT go).length = go.length from lk go, List.drop_of_length_le (Nat.le_refl _)] at hsil
        have hsil : some (gs.map (leadQ ws cs)) = res := hsil
        have hGc := cutS_le _ _ (e _ _ hGL)
        have hFb : (upd Hc G (.dK (kvT go))) Fa = some (.lst fv) := by
          rw [upd_ne nFG]
          exact hf
        have qq := (q _ (back _ (e.trans cutS_le))).2 _ Fa fv gs hsil.symm hFb (dpa_dk hGc ⟨_, .inr ⟨_, rfl⟩⟩ _ _ (cutS_le.dpa hfd)) rfl hgq
        refine ⟨hGc, ?_⟩
        exact ⟨_, rfl, qq⟩
end
end Jl

set_option Elab.async false
set_option linter.all false
set_option maxRecDepth 100000
set_option maxHeartbeats 1000000
set_option pp.maxSteps 300
namespace Jl
open PySem PySem.Spec PyProof.Rows L2
open Evl (sz_of sz_lt)
local macro_rules | `(tactic| walk_at "at") => `(tactic| first | exact box0 | exact box1 | exact box2)
local macro_rules | `(tactic| walk_at "sq") => `(tactic| first | (show SqL _ _ _ _; assumption) | (show SqT _ _ _ _; assumption) | (show _ = some _; assumption))
local macro_rules | `(tactic| walk_at "side") => `(tactic| first
  | (show (0 : Int) < _; decide)
  | (show (0 : Int) < _; omega)
  | exact ⟨by decide, by decide, by decide⟩
  | exact sz_of (Nat.le_of_ble_eq_true rfl)
  | exact rfl
  | exact Or.inl (by decide)
  | exact Or.inr (by decide)
  | exact Or.inr ⟨by omega, by omega⟩
  | exact Or.inl ⟨by omega, by omega⟩
  | exact ⟨by decide, by decide +kernel⟩)
local macro_rules | `(tactic| walk_at "ev1") => `(tactic| first
  | refine ⟨_, rfl, ?_⟩
  | refine ⟨_, _, rfl, rfl, ?_⟩
  | refine ⟨_, _, _, _, rfl, rfl, (by walk_at "sq"), (by walk_at "at"), ?_⟩
  | refine ⟨_, _, rfl, (by walk_at "sq"), ?_⟩
  | refine ⟨_, _, rfl, Or.inl (by walk_at "sq"), ?_⟩
  | refine ⟨_, _, rfl, Or.inr (by walk_at "sq"), ?_⟩
  | refine Or.inl ⟨_, rfl, ?_⟩
  | refine Or.inr ⟨_, rfl, ?_⟩
  | refine ⟨(by walk_at "side"), ?_⟩
  | refine ⟨.inl ⟨rfl, _, (by walk_at "sq")⟩, ?_⟩
  | refine ⟨_, _, rfl, ?_⟩)
local macro_rules | `(tactic| walk_at "nrm") => `(tactic| dsimp only [tNil, tCons, tC, tCB])
local macro_rules | `(tactic| walk_at "ev") => `(tactic| repeat (walk_at "ev1"))

abbrev sc_going_on_N : List Str := ["net", "many", "counts", "place", "worker"]
abbrev s_going_on : Stmt := topS 11
theorem sc_going_on : FnScope ["net", "many", "counts", "place", "worker"] ["net", "many", "counts"] (defScope s_going_on) := ⟨rfl, rfl, rfl, by decide +kernel, rfl, by decide +kernel, by decide +kernel⟩
abbrev sc_is_stop_N : List Str := ["net", "counts", "going"]
abbrev s_is_stop : Stmt := topS 10
theorem sc_is_stop : FnScope ["net", "counts", "going"] ["net", "counts", "going"] (defScope s_is_stop) := ⟨rfl, rfl, rfl, by decide +kernel, rfl, by decide +kernel, by decide +kernel⟩
abbrev sc_can_be_left_N : List Str := ["net", "many", "counts", "count"]
abbrev s_can_be_left : Stmt := topS 12
theorem sc_can_be_left : FnScope ["net", "many", "counts", "count"] ["net", "many", "counts"] (defScope s_can_be_left) := ⟨rfl, rfl, rfl, by decide +kernel, rfl, by decide +kernel, by decide +kernel⟩
abbrev sc_price_N : List Str := ["net", "many", "counts", "crowded", "queue", "_", "lead"]
abbrev s_price : Stmt := topS 13
theorem sc_price : FnScope ["net", "many", "counts", "crowded", "queue", "_", "lead"] ["net", "many", "counts"] (defScope s_price) := ⟨rfl, rfl, rfl, by decide +kernel, rfl, by decide +kernel, by decide +kernel⟩
def leftF (ws : List Str) (qs : List QD) (cs : List Int) (rest : List Str) (many : Int) : Bool := !(cs.any fun c => decide (many < c)) && canF ws qs cs rest && (silF ws qs cs many).isSome
def crowdQ (ws : List Str) (cs : List Int) (q : QD) : Int := if leadQ ws cs q - q.room > 0 then leadQ ws cs q - q.room else 0
def priceF (ws : List Str) (qs : List QD) (cs : List Int) (rest : List Str) (many : Int) : Option Int := if leftF ws qs cs rest many = true then (match silF ws qs cs many with
    | none => none
    | some ls => some ((qs.map (crowdQ ws cs)).sum + ls.sum)) else none
theorem silG_len {ws : List Str} {qs : List QD} {cs : List Int} {many : Int} : ∀ {r : List (Str × Int)} {acc ls : List Int}, silG ws qs cs many r acc = some ls → ls.length ≤ acc.length + r.length
  | [], acc, ls, h => by
    have h : some acc = some ls := h
    cases h
    exact Nat.le_refl _
  | (x, c) :: r, acc, ls, h => by
    rw [silG_cons] at h
    rw [List.length_cons]
    by_cases hc : c < many ∧ blkB ws qs cs x = false
    · rw [if_pos hc] at h
      cases hl : lowL ws qs cs x with
      | nil =>
        rw [hl] at h
        cases h
      | cons n ms =>
        rw [hl] at h
        have := silG_len h
        rw [List.length_append, List.length_singleton] at this
        omega
    · rw [if_neg hc] at h
      have := silG_len h
      omega
def optV : Option Int → V
  | none => .non
  | some i => .int i
section
variable {P : Program} {w : World} {K : PySem.W.Frag} {mg : Str → Option Value} {base : Heap}
theorem goP_app {many : Int} {xs : List (Str × Int)} {p : Str × Int} : goP many (xs ++ [p]) = goP many xs ++ (if p.2 < many then [p.1] else []) := by
  unfold goP
  rw [List.filter_append, List.map_append]
  by_cases h : p.2 < many
  · rw [if_pos h, List.filter_cons, if_pos (decide_eq_true h)]
    rfl
  · rw [if_neg h, List.filter_cons, if_neg (by simp [h])]
    rfl
theorem goP_mem {many : Int} {xs : List (Str × Int)} {x : Str} (h : x ∈ goP many xs) : x ∈ xs.map Prod.fst := by
  unfold goP at h
  obtain ⟨p, h1, h2⟩ := List.mem_map.mp h
  exact List.mem_map.mpr ⟨p, (List.mem_filter.mp h1).1, h2⟩
theorem goP_len {many : Int} {xs : List (Str × Int)} : (goP many xs).length ≤ xs.length := by
  unfold goP
  rw [List.length_map]
  exact List.length_filter_le _ _
def spGo (K : PySem.W.Frag) : Sp := fun vs H Q _ => ∃ (v u : V) (fb fc : Bool) (ws : List Str) (qs : List QD) (cs : List Int) (many : Int), vs = [v, .int many, u] ∧ Dp K H v (netD fb ws qs) ∧ Dp K H u (seqD fc (cs.map PyData.int)) ∧ NetC ws qs cs ∧
  ∀ H' G, Same H H' → H' G = some (.dK (kvT (goF ws cs many))) → Q (.ref G) H'
theorem ok_going_on {f : Addr} {fd : FuncData} {k : Nat} (F : Fun K "going_on" "going_on" s_going_on f fd) (m_enumerate : mg "enumerate" = none) : FnOk P w K mg base CX0 (k + 1) f fd ["net", "many", "counts"] (spGo K) := by
  refine F.ok sc_going_on (fun vs H Q E h => ?_) (fun cdv A outer s0 H vs Q E hr h => ?_)
  · obtain ⟨v, u, fb, fc, ws, qs, cs, many, rfl, _⟩ := h
    rfl
  · obtain ⟨v, u, fb, fc, ws, qs, cs, many, rfl, hD, hU, hN, q⟩ := h
    refine ⟨_, (pss_one (ps_ret (pe_dcX (pe_dc (own := [("place", 3), ("worker", 4)]) (g := gTup K 2 (gCons (gName 3) (gCons (gName 4) gNil))) (tt := tTest (tOp (rI0 fun i j => .bl (decide (i < j))) (tOp (rIxF K) (tVar 2) (tVar 3)) (tVar 1))) (by rfl) sc_going_on.nd (pi_enumA (by rfl) m_enumerate (pa_cons (pe_ix ix_lt (pv 0) pe_int (fun _ _ => rfl)) pa_nil)) (blkOk_by (own := [("place", 3), ("worker", 4)]) (N := sc_going_on_N) (sc := defScope s_going_on) (by decide +kernel)) (fun _ _ _ _ _ => pg_tup rfl (pgs_cons (pg_name (i := 3) sc_going_on.nd rfl (Or.inl rfl)) (pgs_cons (pg_name (i := 4) sc_going_on.nd rfl (Or.inl rfl)) pgs_nil))) (fun _ _ _ _ _ => (pts_one (pt_cmpR op_lt (pe_ix ix_lt (pv 2) (pv 3) (fun _ _ => rfl)) (pv 1) (nomark _)))) (fun _ _ _ _ _ => (pv 4)) (fun _ _ _ _ _ => pe_bl))))), ?_⟩
    obtain ⟨a0, a1, a2, xq, rfl, N0⟩ := netAt hD
    obtain ⟨ac, xc, rfl, hc, hxc⟩ := Dp.seq_of hU
    have e := dpa_ints_of9 hxc
    subst e
    have i0 : atI [V.ref a1, V.ref a2] 0 = some (.ref a1) := atI_nat (j := 0) rfl
    have hcl := hN.cl
    have hwl := hN.wl
    refine dc_of ?_
    refine iEnumA_at (a := a1) (fun R' q' => ⟨_, rfl, rIxF_at N0.h0 i0 q'⟩) N0.h1 fun J w D hD => ?_
    refine dc_it w (fun i H' => Same H H' ∧ H' D = some (.dK (kvT (goP many ((ws.zip cs).take i))))) ⟨.upd hD, upd_same⟩ (fun i H' _ p => p.1.sqF N0.h1) (fun i x H1 H1' hi p y => ?_) (fun H2 p => ?_)
    · obtain ⟨s1, h1⟩ := p
      obtain ⟨T, x1, x2, rfl, hT, rfl, ex1, hx⟩ := y
      cases ex1
      have hx : (ws.map V.str)[i]? = some x2 := hx
      rw [List.getElem?_map] at hx
      rw [List.length_map] at hi
      cases hz : ws[i]? with
      | none =>
        rw [hz] at hx
        cases hx
      | some z =>
        rw [hz] at hx
        cases hx
        have hci : cs[i]? = some cs[i] := List.getElem?_eq_getElem (by omega)
        have hzi : (ws.zip cs)[i]? = some (z, cs[i]) := by rw [List.getElem?_zip_eq_some]; exact ⟨hz, hci⟩
        have nD : D ≠ T := ne_of_none h1 hT
        have s2 := s1.trans (Same.upd (o := .tup [.int (i : Nat), .str z]) hT)
        have hT2 : (upd H1 T (.tup [.int (i : Nat), .str z])) T = some (.tup [.int (i : Nat), .str z]) := upd_same
        have hD2 : (upd H1 T (.tup [.int (i : Nat), .str z])) D = some (.dK (kvT (goP many ((ws.zip cs).take i)))) := by
          rw [upd_ne nD]
          exact h1
        generalize upd H1 T (.tup [.int (i : Nat), .str z]) = H3 at s2 hT2 hD2 ⊢
        refine ⟨T, _, rfl, sqt_of hT2, rfl, _, _, rfl, _, _, rfl, rfl, rfl, ?_⟩
        refine ⟨_, rfl, _, rfl, rIxF_at (s2.sqF hc) (atI_nat (j := i) (by rw [List.getElem?_map, hci]; rfl)) ?_⟩
        refine ⟨_, rfl, _, _, rfl, rfl, _, rfl, ?_⟩
        have et : goP many ((ws.zip cs).take (i + 1)) = goP many ((ws.zip cs).take i) ++ (if cs[i] < many then [z] else []) := by
          rw [List.take_add_one, hzi]
          exact goP_app
        by_cases hcm : cs[i] < many
        · rw [decide_eq_true hcm]
          refine iteT ?_
          rw [if_pos hcm] at et
          have hno : z ∉ goP many ((ws.zip cs).take i) := fun hz2 => by
            have hz3 := goP_mem hz2
            obtain ⟨p, hp1, hp2⟩ := List.mem_map.mp hz3
            obtain ⟨k, hk1, hk2⟩ := List.mem_take_iff_getElem.mp hp1
            have hk3 : (ws.zip cs)[k]? = some p := by rw [List.getElem?_eq_getElem (show k < (ws.zip cs).length by omega)]; exact congrArg some hk2
            rw [show p = (p.1, p.2) from rfl, List.getElem?_zip_eq_some] at hk3
            rw [hp2] at hk3
            have := nd_ix hN.wn hz hk3.1
            omega
          have fl : (goP many ((ws.zip cs).take i)).length ≤ 1000 := by
            have := goP_len (many := many) (xs := (ws.zip cs).take i)
            rw [List.length_take, List.length_zip] at this
            omega
          refine ⟨_, rfl, _, .inr z, rfl, hD2, by rw [show (kvT (goP many ((ws.zip cs).take i))).length = _ from List.length_map ..]; exact sz_lt (by omega), s2.mut hD, ?_⟩
          rw [upd_same, putT, et]
          unfold addK
          rw [if_neg hno]
        · rw [decide_eq_false hcm]
          refine iteF ?_
          rw [if_neg hcm, List.append_nil] at et
          refine ⟨s2, ?_⟩
          rw [et]
          exact hD2
    · obtain ⟨s2, h2⟩ := p
      rw [List.length_map, List.take_of_length_le (by rw [List.length_zip]; omega)] at h2
      exact q H2 D s2 h2
def spStop (K : PySem.W.Frag) : Sp := fun vs H Q _ => ∃ (v u : V) (G : Addr) (fb fc : Bool) (ws : List Str) (qs : List QD) (cs : List Int) (r go : List Str), vs = [v, u, .ref G] ∧ Dp K H v (netD fb ws qs) ∧ Dp K H u (seqD fc (cs.map PyData.int)) ∧ NetC ws qs cs ∧ (∀ q ∈ qs, bdQ q) ∧ Idl qs 0 ws r ∧ H G = some (.dK (kvT go)) ∧ go.length ≤ 1000 ∧
  ∀ H', Same H H' → Q (.bl (canF ws qs cs (ws.filter fun x => decide (x ∈ r)) && (silH ws qs cs go []).isSome)) H'
theorem silH_some {ws : List Str} {qs : List QD} {cs : List Int} : ∀ {go : List Str} {acc ls : List Int}, silH ws qs cs go acc = some ls → True := fun _ => trivial
theorem ok_is_stop {f fC fS : Addr} {fd fdC fdS : FuncData} {k : Nat} (F : Fun K "is_stop" "is_stop" s_is_stop f fd)
    (G_can_stand : FnOk P w K mg base CX0 k fC fdC ["net", "counts"] (spCan K)) (g_can_stand : mg "can_stand" = some (.ref fC)) (F_can_stand : Fun K "can_stand" "can_stand" s_can_stand fC fdC) (b_can_stand : Binds K fdC ["net", "counts"] [])
    (G_silences : FnOk P w K mg base CX0 k fS fdS ["net", "counts", "going"] (spSil K)) (g_silences : mg "silences" = some (.ref fS)) (F_silences : Fun K "silences" "silences" s_silences fS fdS) (b_silences : Binds K fdS ["net", "counts", "going"] []) : FnOk P w K mg base CX0 (k + 1) f fd ["net", "counts", "going"] (spStop K) := by
  refine F.ok sc_is_stop (fun vs H Q E h => ?_) (fun cdv A outer s0 H vs Q E hr h => ?_)
  · obtain ⟨v, u, G, fb, fc, ws, qs, cs, r, go, rfl, _⟩ := h
    rfl
  · obtain ⟨v, u, G, fb, fc, ws, qs, cs, r, go, rfl, hD, hU, hN, hb, hI, hG, hgo, q⟩ := h
    refine ⟨_, (pss_one (ps_ret (pe_and (pe_call G_can_stand hr (by rfl) g_can_stand F_can_stand.kp b_can_stand .nil pass0 (pa_cons (pv 0) (pa_cons (pv 1) pa_nil))) (pe_one (pe_cmpR op_notN (pe_call G_silences hr (by rfl) g_silences F_silences.kp b_silences .nil pass0 (pa_cons (pv 0) (pa_cons (pv 1) (pa_cons (pv 2) pa_nil)))) pe_non (nomark _)))))), ?_⟩
    generalize hrest : (ws.filter fun x => decide (x ∈ r)) = rest at q
    refine ⟨_, rfl, _, rfl, v, u, fb, fc, ws, qs, cs, r, rfl, hD, hU, hN, hb, hI, fun H3 s3 => ?_⟩
    rw [hrest]
    refine ⟨_, rfl, ?_⟩
    cases hC : canF ws qs cs rest with
    | false =>
      refine iteF ?_
      rw [hC] at q
      exact q H3 s3
    | true =>
      refine iteT ?_
      rw [hC, Bool.true_and] at q
      refine ⟨_, rfl, _, rfl, _, rfl, v, u, G, fb, fc, ws, qs, cs, go, rfl, s3.dp hD, s3.dp hU, hN, s3 _ _ hG, hgo, fun H4 s4 => ⟨fun hn => ?_, fun ls l ys gs hs hl1 hda hgl hgq => ?_⟩⟩
      · rw [hn] at q
        exact ⟨rfl, q H4 (s3.trans s4)⟩
      · rw [hs] at q
        exact ⟨rfl, q H4 (s3.trans s4)⟩
def spLeft (K : PySem.W.Frag) : Sp := fun vs H Q _ => ∃ (v u : V) (fb fc : Bool) (ws : List Str) (qs : List QD) (cs : List Int) (r : List Str) (many : Int), vs = [v, .int many, u] ∧ Dp K H v (netD fb ws qs) ∧ Dp K H u (seqD fc (cs.map PyData.int)) ∧ NetC ws qs cs ∧ (∀ q ∈ qs, bdQ q) ∧ Idl qs 0 ws r ∧
  ∀ H', Same H H' → Q (.bl (leftF ws qs cs (ws.filter fun x => decide (x ∈ r)) many)) H'
theorem goF_len {ws : List Str} {qs : List QD} {cs : List Int} {many : Int} (hN : NetC ws qs cs) : (goF ws cs many).length ≤ 1000 := by
  have h1 := goP_len (many := many) (xs := ws.zip cs)
  rw [List.length_zip] at h1
  have := hN.wl
  unfold goF
  omega
theorem ok_can_be_left {f fT fO : Addr} {fd fdT fdO : FuncData} {k : Nat} (F : Fun K "can_be_left" "can_be_left" s_can_be_left f fd)
    (G_is_stop : FnOk P w K mg base CX0 k fT fdT ["net", "counts", "going"] (spStop K)) (g_is_stop : mg "is_stop" = some (.ref fT)) (F_is_stop : Fun K "is_stop" "is_stop" s_is_stop fT fdT) (b_is_stop : Binds K fdT ["net", "counts", "going"] [])
    (G_going_on : FnOk P w K mg base CX0 k fO fdO ["net", "many", "counts"] (spGo K)) (g_going_on : mg "going_on" = some (.ref fO)) (F_going_on : Fun K "going_on" "going_on" s_going_on fO fdO) (b_going_on : Binds K fdO ["net", "many", "counts"] [])
    (m_all : mg "all" = none) : FnOk P w K mg base CX0 (k + 1) f fd ["net", "many", "counts"] (spLeft K) := by
  refine F.ok sc_can_be_left (fun vs H Q E h => ?_) (fun cdv A outer s0 H vs Q E hr h => ?_)
  · obtain ⟨v, u, fb, fc, ws, qs, cs, r, many, rfl, _⟩ := h
    rfl
  · obtain ⟨v, u, fb, fc, ws, qs, cs, r, many, rfl, hD, hU, hN, hb, hI, q⟩ := h
    refine ⟨_, (pss_one (ps_ret (pe_and (pe_callB (cr_all rfl) (by rfl) m_all (by decide +kernel) (pa_cons (pe_lcX (pe_lc (own := [("count", 3)]) (g := gName 3) (tt := tYes) (by rfl) sc_can_be_left.nd (pi_seq (pv 2)) (blkOk_by (own := [("count", 3)]) (N := sc_can_be_left_N) (sc := defScope s_can_be_left) (by decide +kernel)) (fun _ _ _ _ _ => pg_name (i := 3) sc_can_be_left.nd rfl (Or.inl rfl)) (fun _ _ _ _ _ => pts_nil) (fun _ _ _ _ _ => (pe_cmpR op_le (pv 3) (pv 1) (nomark _))))) pa_nil)) (pe_one (pe_call G_is_stop hr (by rfl) g_is_stop F_is_stop.kp b_is_stop .nil pass0 (pa_cons (pv 0) (pa_cons (pv 2) (pa_cons (pe_call G_going_on hr (by rfl) g_going_on F_going_on.kp b_going_on .nil pass0 (pa_cons (pv 0) (pa_cons (pv 1) (pa_cons (pv 2) pa_nil)))) pa_nil)))))))), ?_⟩
    obtain ⟨ac, xc, rfl, hc, hxc⟩ := Dp.seq_of hU
    have hcl := hN.cl
    have hwl := hN.wl
    generalize hrest : (ws.filter fun x => decide (x ∈ r)) = rest at q
    have hc4 : cs.length ≤ 4000000 := by omega
    refine lc_of ?_
    refine iSeq_at (fun R' q' => ⟨_, rfl, q'⟩) hc fun J w => ?_
    refine lcw (Q := fun x H => tNil _ H fun xs H2 => rAll K (x :: xs) H2 _) cs PyData.int (fun c => .bool (decide (c ≤ many))) (fun _ => true) (fun c σ2 => σ2 = [some v, some (.int many), some (.ref ac), some (.int c)]) w (fun H' e => e.sqF hc) hxc hc4 (fun x c H2 R hz e1 hx rr => ?_) (fun c H2 σ2 hz e1 hB Q' q' => ?_) (fun c H2 σ2 T hz _ e1 eT tr hB Q' q' => ?_) (fun D zs H2 s2 hn2 h2 h3 => ?_)
    · cases hx
      exact rr _ rfl rfl
    · dsimp only [tYes]
      exact q' H2 fun _ _ e => e
    · subst hB
      exact ⟨_, rfl, _, rfl, _, _, rfl, rfl, q' H2 _ (fun _ _ e => e) (.bl _)⟩
    · rw [show cs.filter (fun _ => true) = cs from List.filter_eq_self.mpr fun _ _ => rfl] at h3
      have h4 : DpAll K (cutS [D] H2) zs ((cs.map fun c => decide (c ≤ many)).map PyData.bool) := by
        rw [List.map_map]
        exact h3
      have e := dpa_bls9 h4
      subst e
      refine ⟨D, _, rfl, sql_of h2, ?_⟩
      rw [List.all_map]
      refine ⟨_, rfl, ?_⟩
      have ea : cs.all (id ∘ fun c => decide (c ≤ many)) = !(cs.any fun c => decide (many < c)) := by
        rw [List.not_any_eq_all_not]
        congr 1
        funext c
        show decide (c ≤ many) = !decide (many < c)
        rw [Bool.eq_iff_iff]
        simp
      rw [ea]
      cases hA : cs.any fun c => decide (many < c) with
      | true =>
        refine iteF ?_
        have el : leftF ws qs cs rest many = false := by
          unfold leftF
          rw [hA]
          rfl
        rw [el] at q
        exact q H2 s2
      | false =>
        refine iteT ?_
        refine ⟨_, rfl, _, rfl, _, rfl, _, rfl, _, rfl, v, .ref ac, fb, fc, ws, qs, cs, many, rfl, s2.dp hD, s2.dp hU, hN, fun H3 G s3 hG => ?_⟩
        have s23 := s2.trans s3
        refine ⟨v, .ref ac, G, fb, fc, ws, qs, cs, r, goF ws cs many, rfl, s23.dp hD, s23.dp hU, hN, hb, hI, hG, goF_len hN, fun H4 s4 => ?_⟩
        rw [hrest]
        have el : leftF ws qs cs rest many = (canF ws qs cs rest && (silH ws qs cs (goF ws cs many) []).isSome) := by
          unfold leftF
          rw [hA, silF_H]
          rfl
        rw [el] at q
        exact q H4 (s23.trans s4)
def spPrice (K : PySem.W.Frag) : Sp := fun vs H Q _ => ∃ (v u : V) (fb fc : Bool) (ws : List Str) (qs : List QD) (cs : List Int) (r : List Str) (many : Int), vs = [v, .int many, u] ∧ Dp K H v (netD fb ws qs) ∧ Dp K H u (seqD fc (cs.map PyData.int)) ∧ NetC ws qs cs ∧ (∀ q ∈ qs, bdQ q) ∧ Idl qs 0 ws r ∧
  ∀ H', Same H H' → Q (optV (priceF ws qs cs (ws.filter fun x => decide (x ∈ r)) many)) H'
theorem ok_price {f fL fP fS fO : Addr} {fd fdL fdP fdS fdO : FuncData} {k : Nat} (F : Fun K "price" "price" s_price f fd)
    (G_can_be_left : FnOk P w K mg base CX0 k fL fdL ["net", "many", "counts"] (spLeft K)) (g_can_be_left : mg "can_be_left" = some (.ref fL)) (F_can_be_left : Fun K "can_be_left" "can_be_left" s_can_be_left fL fdL) (b_can_be_left : Binds K fdL ["net", "many", "counts"] [])
    (G_spans : FnOk P w K mg base CX0 k fP fdP ["net", "counts"] (spSpans K)) (g_spans : mg "spans" = some (.ref fP)) (F_spans : Fun K "spans" "spans" s_spans fP fdP) (b_spans : Binds K fdP ["net", "counts"] [])
    (G_silences : FnOk P w K mg base CX0 k fS fdS ["net", "counts", "going"] (spSil K)) (g_silences : mg "silences" = some (.ref fS)) (F_silences : Fun K "silences" "silences" s_silences fS fdS) (b_silences : Binds K fdS ["net", "counts", "going"] [])
    (G_going_on : FnOk P w K mg base CX0 k fO fdO ["net", "many", "counts"] (spGo K)) (g_going_on : mg "going_on" = some (.ref fO)) (F_going_on : Fun K "going_on" "going_on" s_going_on fO fdO) (b_going_on : Binds K fdO ["net", "many", "counts"] [])
    (m_sum : mg "sum" = none) (m_max : mg "max" = none) : FnOk P w K mg base CX0 (k + 1) f fd ["net", "many", "counts"] (spPrice K) := by
  refine F.ok sc_price (fun vs H Q E h => ?_) (fun cdv A outer s0 H vs Q E hr h => ?_)
  · obtain ⟨v, u, fb, fc, ws, qs, cs, r, many, rfl, _⟩ := h
    rfl
  · obtain ⟨v, u, fb, fc, ws, qs, cs, r, many, rfl, hD, hU, hN, hb, hI, q⟩ := h
    refine ⟨_, (pss_cons (ps_if (pt_not (pt_val (pe_call G_can_be_left hr (by rfl) g_can_be_left F_can_be_left.kp b_can_be_left .nil pass0 (pa_cons (pv 0) (pa_cons (pv 1) (pa_cons (pv 2) pa_nil)))))) (pss_one (ps_ret pe_non)) pss_nil) 
    (pss_cons (ps_set (i := 3) sc_price.nd rfl (Or.inl rfl) (pe_callB (cr_sum rfl) (by rfl) m_sum (by decide +kernel) (pa_cons (pe_lcX (pe_lc (own := [("queue", 4), ("_", 5), ("lead", 6)]) (g := gTup K 3 (gCons (gName 4) (gCons (gName 5) (gCons (gName 6) gNil)))) (tt := tYes) (te := tCB (fun xs H Q => ∃ i j, xs = [.int i, .int j] ∧ Q (.int (if j > i then j else i)) H) (tCons (tC (.int 0)) (tCons (tOp (rI0 fun i j => .int (i - j)) (tVar 6) (tOp (rIxF K) (tVar 4) (tC (.int 3)))) tNil))) (by rfl) sc_price.nd (pi_seq (pe_call G_spans hr (by rfl) g_spans F_spans.kp b_spans .nil pass0 (pa_cons (pv 0) (pa_cons (pv 2) pa_nil)))) (blkOk_by (own := [("queue", 4), ("_", 5), ("lead", 6)]) (N := sc_price_N) (sc := defScope s_price) (by decide +kernel)) (fun _ _ _ _ _ => pg_tup rfl (pgs_cons (pg_name (i := 4) sc_price.nd rfl (Or.inl rfl)) (pgs_cons (pg_name (i := 5) sc_price.nd rfl (Or.inl rfl)) (pgs_cons (pg_name (i := 6) sc_price.nd rfl (Or.inl rfl)) pgs_nil)))) (fun _ _ _ _ _ => pts_nil) (fun _ _ _ _ _ => (pe_callB (call_max2 rfl) (by rfl) m_max (by decide +kernel) (pa_cons pe_int (pa_cons (pe_op op_sub (pv 6) (pe_ix ix_lt (pv 4) pe_int (fun _ _ => rfl))) pa_nil)))))) pa_nil))) 
    (pss_one (ps_ret (pe_op op_add (pv 3) (pe_callB (cr_sum rfl) (by rfl) m_sum (by decide +kernel) (pa_cons (pe_lcX (pe_lc (own := [("_", 5), ("_", 5), ("lead", 6)]) (g := gTup K 3 (gCons (gName 5) (gCons (gName 5) (gCons (gName 6) gNil)))) (tt := tYes) (by rfl) sc_price.nd (pi_seq (pe_call G_silences hr (by rfl) g_silences F_silences.kp b_silences .nil pass0 (pa_cons (pv 0) (pa_cons (pv 2) (pa_cons (pe_call G_going_on hr (by rfl) g_going_on F_going_on.kp b_going_on .nil pass0 (pa_cons (pv 0) (pa_cons (pv 1) (pa_cons (pv 2) pa_nil)))) pa_nil))))) (blkOk_by (own := [("_", 5), ("_", 5), ("lead", 6)]) (N := sc_price_N) (sc := defScope s_price) (by decide +kernel)) (fun _ _ _ _ _ => pg_tup rfl (pgs_cons (pg_name (i := 5) sc_price.nd rfl (Or.inl rfl)) (pgs_cons (pg_name (i := 5) sc_price.nd rfl (Or.inl rfl)) (pgs_cons (pg_name (i := 6) sc_price.nd rfl (Or.inl rfl)) pgs_nil)))) (fun _ _ _ _ _ => pts_nil) (fun _ _ _ _ _ => (pv 6)))) pa_nil))))))), ?_⟩
    generalize hrest : (ws.filter fun x => decide (x ∈ r)) = rest at q
    refine ⟨_, rfl, _, rfl, _, rfl, v, u, fb, fc, ws, qs, cs, r, many, rfl, hD, hU, hN, hb, hI, fun H1 s1 => ?_⟩
    rw [hrest]
    refine ⟨_, rfl, ?_⟩
    cases hL : leftF ws qs cs rest many with
    | false =>
      refine iteT ?_
      have ep : priceF ws qs cs rest many = none := by
        unfold priceF
        rw [hL, if_neg (by decide)]
      rw [ep] at q
      exact q H1 s1
    | true =>
      refine iteF ?_
      have hsome : (silF ws qs cs many).isSome = true := by
        unfold leftF at hL
        rw [Bool.and_eq_true] at hL
        exact hL.2
      try dsimp only [tNext]
      have hq4 : qs.length ≤ 4000000 := Nat.le_trans hN.ql (by decide)
      refine lc_of ?_
      refine .inl ?_
      refine ⟨_, rfl, _, rfl, v, u, fb, fc, ws, qs, cs, rfl, s1.dp hD, s1.dp hU, hN, fun H2 l ys s2 hl0 hl1 hda => ?_⟩
      refine ⟨l, rfl, ⟨ys, sql_of hl1⟩, ?_⟩
      replace hda := cutS_le.dpa hda
      refine lcw (Q := fun x H => tNil _ H fun xs H2 => rSum K (x :: xs) H2 _) qs (spnD fb ws cs) (fun q => .int (crowdQ ws cs q)) (fun _ => true) (fun q σ2 => ∃ a, σ2 = [some v, some (.int many), some u, none, some (.ref a), some (.int (cntF ws cs q.en)), some (.int (leadQ ws cs q))] ∧ SqF fb K H2 a [.str q.nm, .str q.st, .str q.en, .int q.room, .int q.gap]) (walk_list (K := K) (a := l) (xs := ys)) (fun H' e => sql_of (e _ _ hl1)) hda hq4 (fun x q H3 R hq e3 hx rr => ?_) (fun q H3 σ2 hq e3 hB Q' q' => ?_) (fun q H3 σ2 T2 hq _ e3 eT tr hB Q' q' => ?_) (fun D zs H3 s3 hn3 h3 h4 => ?_)
      · obtain ⟨t0, a, rfl, ht, ha⟩ := dp_span hx
        exact ⟨t0, _, rfl, e3.sqT (show SqT K H2 t0 _ from ht), rfl, _, _, rfl, _, _, rfl, _, _, rfl, rfl, rr _ ⟨a, rfl, ha⟩ rfl⟩
      · dsimp only [tYes]
        exact q' H3 fun _ _ e => e
      · obtain ⟨a, rfl, ha⟩ := hB
        refine ⟨_, rfl, _, rfl, rIxF_at (e3.sqF ha) (atI_nat (j := 3) rfl) ⟨_, _, rfl, rfl, ?_⟩⟩
        exact ⟨_, _, rfl, q' H3 _ (fun _ _ e => e) (.int _)⟩
      · rw [show qs.filter (fun _ => true) = qs from List.filter_eq_self.mpr fun _ _ => rfl] at h4
        have h5 : DpAll K (cutS [D] H3) zs ((qs.map (crowdQ ws cs)).map PyData.int) := by
          rw [List.map_map]
          exact h4
        have e := dpa_ints_of9 h5
        subst e
        refine ⟨D, _, rfl, sql_of h3, ?_⟩
        try dsimp only [gName, tSeq, tAsg, List.set]
        refine ⟨_, rfl, ?_⟩
        have s13 := (s1.trans s2).trans s3
        refine lc_of ?_
        refine .inl ?_
        refine ⟨_, rfl, _, rfl, _, rfl, _, rfl, _, rfl, v, u, fb, fc, ws, qs, cs, many, rfl, s13.dp hD, s13.dp hU, hN, fun H3b G s3b hG => ?_⟩
        have s13 := s13.trans s3b
        refine ⟨v, u, G, fb, fc, ws, qs, cs, goF ws cs many, rfl, s13.dp hD, s13.dp hU, hN, hG, goF_len hN, fun H4 s4 => ⟨fun hn => ?_, fun ls l2 ys2 gs hs hl2 hda2 hgl hgq => ?_⟩⟩
        · rw [silF_H, hn] at hsome
          cases hsome
        · rw [← silF_H] at hs
          refine ⟨l2, rfl, ⟨ys2, sql_of hl2⟩, ?_⟩
          have hg4 : gs.length ≤ 4000000 := by
            have h1 := silG_len hs
            rw [← hgl, List.length_map, List.length_zip, List.length_nil] at h1
            have := hN.wl
            omega
          have ep : priceF ws qs cs rest many = some ((qs.map (crowdQ ws cs)).sum + ls.sum) := by
            unfold priceF
            rw [if_pos hL, hs]
          rw [ep] at q
          refine lcw (Q := fun x H => tNil _ H fun xs H2 => rSum K (x :: xs) H2 _) gs (spnD fb ws cs) (fun q => .int (leadQ ws cs q)) (fun _ => true) (fun q σ2 => σ2 = [some v, some (.int many), some u, some (.int (qs.map (crowdQ ws cs)).sum), none, some (.int (cntF ws cs q.en)), some (.int (leadQ ws cs q))]) (walk_list (K := K) (a := l2) (xs := ys2)) (fun H' e => sql_of (e _ _ hl2)) hda2 hg4 (fun x q H5 R hq e5 hx rr => ?_) (fun q H5 σ2 hq e5 hB Q' q' => ?_) (fun q H5 σ2 T2 hq _ e5 eT tr hB Q' q' => ?_) (fun D2 zs H5 s5 hn5 h6 h7 => ?_)
          · obtain ⟨t0, a, rfl, ht, ha⟩ := dp_span hx
            exact ⟨t0, _, rfl, e5.sqT (show SqT K H4 t0 _ from ht), rfl, _, _, rfl, _, _, rfl, _, _, rfl, rfl, rr _ rfl rfl⟩
          · dsimp only [tYes]
            exact q' H5 fun _ _ e => e
          · subst hB
            exact ⟨_, rfl, q' H5 _ (fun _ _ e => e) (.int _)⟩
          · rw [show gs.filter (fun _ => true) = gs from List.filter_eq_self.mpr fun _ _ => rfl] at h7
            have h8 : DpAll K (cutS [D2] H5) zs ((gs.map (leadQ ws cs)).map PyData.int) := by
              rw [List.map_map]
              exact h7
            have e := dpa_ints_of9 h8
            subst e
            refine ⟨D2, _, rfl, sql_of h6, ?_⟩
            rw [hgl]
            exact ⟨_, _, rfl, rfl, q _ ((s13.trans s4).trans s5)⟩
end
end Jl

set_option Elab.async false
set_option linter.all false
set_option maxRecDepth 100000
set_option maxHeartbeats 1000000
set_option pp.maxSteps 300
namespace Jl
open PySem PySem.Spec PyProof.Rows L2
open Evl (sz_of sz_lt)
local macro_rules | `(tactic| walk_at "at") => `(tactic| first | exact box0 | exact box1 | exact box2)
local macro_rules | `(tactic| walk_at "sq") => `(tactic| first | (show SqL _ _ _ _; assumption) | (show SqT _ _ _ _; assumption) | (show _ = some _; assumption))
local macro_rules | `(tactic| walk_at "side") => `(tactic| first
  | (show (0 : Int) < _; decide)
  | (show (0 : Int) < _; omega)
  | exact ⟨by decide, by decide, by decide⟩
  | exact sz_of (Nat.le_of_ble_eq_true rfl)
  | exact rfl
  | exact Or.inl (by decide)
  | exact Or.inr (by decide)
  | exact Or.inr ⟨by omega, by omega⟩
  | exact Or.inl ⟨by omega, by omega⟩
  | exact ⟨by decide, by decide +kernel⟩)
local macro_rules | `(tactic| walk_at "ev1") => `(tactic| first
  | refine ⟨_, rfl, ?_⟩
  | refine ⟨_, _, rfl, rfl, ?_⟩
  | refine ⟨_, _, _, _, rfl, rfl, (by walk_at "sq"), (by walk_at "at"), ?_⟩
  | refine ⟨_, _, rfl, (by walk_at "sq"), ?_⟩
  | refine ⟨_, _, rfl, Or.inl (by walk_at "sq"), ?_⟩
  | refine ⟨_, _, rfl, Or.inr (by walk_at "sq"), ?_⟩
  | refine Or.inl ⟨_, rfl, ?_⟩
  | refine Or.inr ⟨_, rfl, ?_⟩
  | refine ⟨(by walk_at "side"), ?_⟩
  | refine ⟨.inl ⟨rfl, _, (by walk_at "sq")⟩, ?_⟩
  | refine ⟨_, _, rfl, ?_⟩)
local macro_rules | `(tactic| walk_at "nrm") => `(tactic| dsimp only [tNil, tCons, tC, tCB])
local macro_rules | `(tactic| walk_at "ev") => `(tactic| repeat (walk_at "ev1"))

/-! ### data written out, beside a cut -/
def IsC (K : PySem.W.Frag) (S : List Addr) (H0 : Hp) (te : TE) (d : PyData) (σ : L2.St) : Prop := ∀ (H : Hp) (Q : VK), Same H0 H → Trk S H → (∀ H' v, Same H H' → Dp K (cutS S H') v d → Q v H') → te σ H Q
def AreC (K : PySem.W.Frag) (S : List Addr) (H0 : Hp) (t : TA) (ds : List PyData) (σ : L2.St) : Prop := ∀ (H : Hp) (Q : List V → Hp → Prop), Same H0 H → Trk S H → (∀ H' vs, Same H H' → DpAll K (cutS S H') vs ds → Q vs H') → t σ H Q
def RdL (K : PySem.W.Frag) (S : List Addr) (H0 : Hp) (te : TE) (ds : List PyData) (σ : L2.St) : Prop := ∀ (H : Hp) (Q : VK), Same H0 H → Trk S H → (∀ H' p vs, Same H H' → H' p = some (.lst vs) → DpAll K (cutS S H') vs ds → Q (.ref p) H') → te σ H Q
def NwL (K : PySem.W.Frag) (S : List Addr) (H0 : Hp) (te : TE) (ds : List PyData) (σ : L2.St) : Prop := ∀ (H : Hp) (Q : VK), Same H0 H → Trk S H → (∀ H' p vs, Same H H' → H p = none → H' p = some (.lst vs) → DpAll K (cutS (p :: S) H') vs ds → Q (.ref p) H') → te σ H Q
section
variable {K : PySem.W.Frag} {S : List Addr} {H0 : Hp} {σ : L2.St}
theorem ic_int {i : Int} : IsC K S H0 (tC (.int i)) (.int i) σ := fun H Q _ _ q => q H _ (fun _ _ e => e) (.int i)
theorem ic_str {x : Str} : IsC K S H0 (tC (.str x)) (.str x) σ := fun H Q _ _ q => q H _ (fun _ _ e => e) (.str x)
theorem ic_bl {b : Bool} : IsC K S H0 (tC (.bl b)) (.bool b) σ := fun H Q _ _ q => q H _ (fun _ _ e => e) (.bl b)
theorem ic_non : IsC K S H0 (tC .non) .none σ := fun H Q _ _ q => q H _ (fun _ _ e => e) .non
theorem ic_neg {i : Int} : IsC K S H0 (tUn (rU fun i => .int (-i)) (tC (.int i))) (.int (-i)) σ := fun H Q _ _ q => ⟨i, rfl, q H _ (fun _ _ e => e) (.int (-i))⟩
theorem ic_pow {i j : Int} (h : CPow i j) : IsC K S H0 (tOp (rI CPow fun i j => .int (i ^ j.toNat)) (tC (.int i)) (tC (.int j))) (.int (i ^ j.toNat)) σ := fun H Q _ _ q => ⟨i, j, rfl, rfl, h, q H _ (fun _ _ e => e) (.int _)⟩
theorem ac_nil : AreC K S H0 tNil [] σ := fun H Q _ _ q => q H _ (fun _ _ e => e) .nil
theorem ac_cons {te : TE} {t : TA} {d : PyData} {ds : List PyData} (h1 : IsC K S H0 te d σ) (h2 : AreC K S H0 t ds σ) : AreC K S H0 (tCons te t) (d :: ds) σ := fun H Q e tr q =>
  h1 H _ e tr fun H1 v s1 d1 => h2 H1 _ (e.trans s1) (tr.mono s1) fun H2 vs s2 d2 => q H2 (v :: vs) (s1.trans s2) (.cons ((cutS_mono s2).dp d1) d2)
theorem ic_tup {t : TA} {ds : List PyData} (h : AreC K S H0 t ds σ) (hl : ds.length ≤ 1000) : IsC K S H0 (tTup t) (.tuple ds) σ := fun H Q e tr q =>
  h H _ e tr fun H1 vs s1 d1 => ⟨Nat.le_of_lt (sz_lt (by rw [dpa_len d1]; omega)), fun p hp => q _ _ (s1.trans (.upd hp)) (dp_tup (tr.mono s1) hp d1)⟩
theorem ic_lst {t : TA} {ds : List PyData} (h : AreC K S H0 t ds σ) (hl : ds.length ≤ 1000) : IsC K S H0 (tLst t) (.list ds) σ := fun H Q e tr q =>
  h H _ e tr fun H1 vs s1 d1 => ⟨Nat.le_of_lt (sz_lt (by rw [dpa_len d1]; omega)), fun p hp => q _ _ (s1.trans (.upd hp)) (dp_lst (tr.mono s1) hp d1)⟩
theorem nw_lst {t : TA} {ds : List PyData} (h : AreC K S H0 t ds σ) (hl : ds.length ≤ 1000) : NwL K S H0 (tLst t) ds σ := fun H Q e tr q =>
  h H _ e tr fun H1 vs s1 d1 => ⟨Nat.le_of_lt (sz_lt (by rw [dpa_len d1]; omega)), fun p hp => q _ p vs (s1.trans (.upd hp)) (s1.free hp) upd_same ((cutS_into (.upd hp) hp).dpa d1)⟩
theorem rd_nw {te : TE} {ds : List PyData} (h : NwL K S H0 te ds σ) : RdL K S H0 te ds σ := fun H Q e tr q => h H Q e tr fun H' p vs s1 _ h1 d1 => q H' p vs s1 h1 (cutS_tail.dpa d1)
theorem rd_var {i : Nat} {p : Addr} {vs : List V} {ds : List PyData} (hi : σ[i]? = some (some (.ref p))) (hp : H0 p = some (.lst vs)) (hd : DpAll K (cutS S H0) vs ds) : RdL K S H0 (tVar i) ds σ := fun H Q e _ q =>
  ⟨_, hi, q H p vs (fun _ _ e => e) (e _ _ hp) ((cutS_mono e).dpa hd)⟩
theorem nw_cat {ta tb : TE} {ds es : List PyData} (h1 : RdL K S H0 ta ds σ) (h2 : RdL K S H0 tb es σ) (hl : ds.length + es.length ≤ 1000) : NwL K S H0 (tOp rCat ta tb) (ds ++ es) σ := fun H Q e tr q =>
  h1 H _ e tr fun H1 p1 v1 s1 g1 d1 => h2 H1 _ (e.trans s1) (tr.mono s1) fun H2 p2 v2 s2 g2 d2 => ⟨p1, p2, v1, v2, rfl, rfl, s2 _ _ g1, g2, Nat.le_of_lt (sz_lt (by rw [dpa_len d1, dpa_len d2]; omega)), fun p hp =>
    q _ p _ ((s1.trans s2).trans (.upd hp)) ((s1.trans s2).free hp) upd_same ((cutS_into (.upd hp) hp).dpa (dpa_app ((cutS_mono s2).dpa d1) d2))⟩
theorem ic_var {i : Nat} {v : V} {d : PyData} (hi : σ[i]? = some (some v)) (hd : Dp K (cutS S H0) v d) : IsC K S H0 (tVar i) d σ := fun H Q e _ q => ⟨v, hi, q H v (fun _ _ e => e) ((cutS_mono e).dp hd)⟩
theorem ic_add {ta tb : TE} {i j : Int} (h1 : IsC K S H0 ta (.int i) σ) (h2 : IsC K S H0 tb (.int j) σ) : IsC K S H0 (tOp (rI0 fun i j => .int (i + j)) ta tb) (.int (i + j)) σ := fun H Q e tr k =>
  h1 H _ e tr fun H1 v s1 d1 => h2 H1 _ (e.trans s1) (tr.mono s1) fun H2 u s2 d2 => by
    cases d1
    cases d2
    exact ⟨_, _, rfl, rfl, k H2 _ (s1.trans s2) (.int _)⟩
/-- tuples, one behind another -/
theorem ic_catT {ta tb : TE} {ds es : List PyData} (h1 : IsC K S H0 ta (.tuple ds) σ) (h2 : IsC K S H0 tb (.tuple es) σ) (hl : ds.length + es.length ≤ 1000) : IsC K S H0 (tOp (rCatA K) ta tb) (.tuple (ds ++ es)) σ := fun H Q e tr k =>
  h1 H _ e tr fun H1 v s1 d1 => h2 H1 _ (e.trans s1) (tr.mono s1) fun H2 u s2 d2 => by
    obtain ⟨c, xs, rfl, hc, hx⟩ := Dp.seq_of (f := true) ((cutS_mono s2).dp d1)
    obtain ⟨d, ys, rfl, hd, hy⟩ := Dp.seq_of (f := true) d2
    have lx := dpa_len hx
    have ly := dpa_len hy
    have s12 := s1.trans s2
    refine ⟨c, d, xs, ys, rfl, rfl, cutS_le.sqT hc, cutS_le.sqT hd, Nat.le_of_lt (sz_lt (by omega)), fun e0 => k H2 _ s12 ?_, fun _ e0 => k H2 _ s12 ?_, fun _ _ p hp => k _ _ (s12.trans (.upd hp)) ?_⟩
    · have : ds = [] := by rw [e0] at lx; exact List.eq_nil_of_length_eq_zero lx.symm
      rw [this]
      exact Dp.seq (f := true) hd hy
    · have : es = [] := by rw [e0] at ly; exact List.eq_nil_of_length_eq_zero ly.symm
      rw [this, List.append_nil]
      exact Dp.seq (f := true) hc hx
    · exact dp_tup (tr.mono s12) hp (dpa_app hx hy)
end
/-! ### lists, one behind another, however they stand -/
def rCatL (K : PySem.W.Frag) : R2 := fun x y H Q => ∃ (l b : Addr) (xs zs : List V), x = .ref l ∧ y = .ref b ∧ SqL K H l xs ∧ SqL K H b zs ∧ xs.length + zs.length ≤ sizeLine ∧ ∀ p, H p = none → Q (.ref p) (upd H p (.lst (xs ++ zs)))
theorem op_catL {X : Cx} : OpR X (binaryOp .Add) (rCatL X.K) := by
  intro pins s σ H x y v u Q I rx ry hyp
  obtain ⟨l, b, xs, zs, ex, ey, h1, h2, hz, q⟩ := hyp
  subst ex ey
  cases rx
  cases ry
  obtain ⟨i1, r1, p1, _⟩ := I.list h1
  obtain ⟨i2, r2, p2, _⟩ := I.list h2
  obtain ⟨⟨c1, d1, t1, s1⟩, g1, k1, n1, e1⟩ := p1.isList
  obtain ⟨⟨c2, d2, t2, s2⟩, g2, k2, n2, e2⟩ := p2.isList
  have k1 : c1 = .type "list" := k1
  have e1 : t1 = .seq i1.toArray n1 := e1
  have k2 : c2 = .type "list" := k2
  have e2 : t2 = .seq i2.toArray n2 := e2
  subst k1 e1 k2 e2
  have l1 := r1.length
  have l2 := r2.length
  refine concat_meets ⟨_, g1, rfl⟩ ⟨_, g2, rfl⟩ noFill_list_add seq_list_add PySem.F.slot_list_add PySem.F.entry_list_add (PySem.F.args_list_add_2 (.ref l) (.ref b)) (list_addW l b i1.toArray i2.toArray n1 n2 d1 d2 s1 s2 (by rw [List.size_toArray, List.size_toArray]; omega)) ⟨g1, g2, ?_⟩
  have ea : i1.toArray ++ i2.toArray = (i1 ++ i2).toArray := by simp only [List.append_toArray]
  rw [ea]
  have I2 := I.lnew (t' := s.toks) (r1.append r2) (by rw [List.length_append]; omega)
  exact ⟨.ref _, _, I2, rfl, q _ I.fresh⟩
theorem ic_catL {K : PySem.W.Frag} {S : List Addr} {H0 : Hp} {σ : L2.St} {ta tb : TE} {ds es : List PyData} (h1 : IsC K S H0 ta (.list ds) σ) (h2 : IsC K S H0 tb (.list es) σ) (hl : ds.length + es.length ≤ 1000) : IsC K S H0 (tOp (rCatL K) ta tb) (.list (ds ++ es)) σ := fun H Q e tr k =>
  h1 H _ e tr fun H1 v s1 d1 => h2 H1 _ (e.trans s1) (tr.mono s1) fun H2 u s2 d2 => by
    obtain ⟨c, xs, rfl, hc, hx⟩ := Dp.seq_of (f := false) ((cutS_mono s2).dp d1)
    obtain ⟨d, ys, rfl, hd, hy⟩ := Dp.seq_of (f := false) d2
    have lx := dpa_len hx
    have ly := dpa_len hy
    have s12 := s1.trans s2
    exact ⟨c, d, xs, ys, rfl, rfl, cutS_le.sqL hc, cutS_le.sqL hd, Nat.le_of_lt (sz_lt (by omega)), fun p hp => k _ _ (s12.trans (.upd hp)) (dp_lst (tr.mono s12) hp (dpa_app hx hy))⟩

section
variable {K : PySem.W.Frag} {S : List Addr} {H0 : Hp} {σ : L2.St}
theorem asg_ic {te : TE} {i : Nat} {u : TS} {D : Ends} {H : Hp} {d : PyData} (h : IsC K [] H te d σ) (q : ∀ H' v, Same H H' → Dp K H' v d → u D (σ.set i (some v)) H') : tSeq (tAsg te (gName i)) u D σ H := h H _ (fun _ _ e => e) Trk.nil fun H' v s1 h1 => q H' v s1 (by rwa [cutS_nil] at h1)
theorem call_ac {t : TA} {ds : List PyData} {sp : Sp} {E : XK} {H : Hp} {Q : VK} (h : AreC K [] H t ds σ) (q : ∀ H' vs, Same H H' → DpAll K H' vs ds → sp (vs ++ []) H' Q E) : tCall sp [] E t σ H Q := h H _ (fun _ _ e => e) Trk.nil fun H' vs s1 h1 => q H' vs s1 (by rwa [cutS_nil] at h1)
theorem ic_ix {i : Nat} {j : Int} {f : Bool} {a : Addr} {xs : List V} {v : V} {d : PyData} (hi : σ[i]? = some (some (.ref a))) (hs : SqF f K (cutS S H0) a xs) (hj : atI xs j = some v) (hd : Dp K (cutS S H0) v d) : IsC K S H0 (tOp (rIxF K) (tVar i) (tC (.int j))) d σ := fun H Q e _ q =>
  ⟨_, hi, rIxF_at (cutS_le.sqF ((cutS_mono e).sqF hs)) hj (q H v (fun _ _ e => e) ((cutS_mono e).dp hd))⟩

theorem par_ac {ta : TA} {i j : Nat} {u : TS} {D : Ends} {H : Hp} {d1 d2 : PyData} (h : AreC K [] H ta [d1, d2] σ) (q : ∀ H' v w, Same H H' → Dp K H' v d1 → Dp K H' w d2 → u D ((σ.set i (some v)).set j (some w)) H') : tSeq (tPar i j ta) u D σ H := h H _ (fun _ _ e => e) Trk.nil fun H' vs s1 h1 => by
  rw [cutS_nil] at h1
  cases h1 with
  | cons k1 h1 =>
    cases h1 with
    | cons k2 h1 =>
      cases h1
      exact ⟨_, _, rfl, q H' _ _ s1 k1 k2⟩
theorem ic_sub {ta tb : TE} {i j : Int} (h1 : IsC K S H0 ta (.int i) σ) (h2 : IsC K S H0 tb (.int j) σ) : IsC K S H0 (tOp (rI0 fun i j => .int (i - j)) ta tb) (.int (i - j)) σ := fun H Q e tr k =>
  h1 H _ e tr fun H1 v s1 d1 => h2 H1 _ (e.trans s1) (tr.mono s1) fun H2 u s2 d2 => by
    cases d1
    cases d2
    exact ⟨_, _, rfl, rfl, k H2 _ (s1.trans s2) (.int _)⟩
theorem ic_mul {ta tb : TE} {i j : Int} (hc : CMul i j) (h1 : IsC K S H0 ta (.int i) σ) (h2 : IsC K S H0 tb (.int j) σ) : IsC K S H0 (tOp (rI CMul fun i j => .int (i * j)) ta tb) (.int (i * j)) σ := fun H Q e tr k =>
  h1 H _ e tr fun H1 v s1 d1 => h2 H1 _ (e.trans s1) (tr.mono s1) fun H2 u s2 d2 => by
    cases d1
    cases d2
    exact ⟨_, _, rfl, rfl, hc, k H2 _ (s1.trans s2) (.int _)⟩
theorem ic_and {ta tb : TE} {b : Bool} (h1 : IsC K S H0 ta (.bool true) σ) (h2 : IsC K S H0 tb (.bool b) σ) : IsC K S H0 (tAndV ta tb) (.bool b) σ := fun H Q e tr k =>
  h1 H _ e tr fun H1 v s1 d1 => by
    cases d1
    exact ⟨_, rfl, iteT (h2 H1 _ (e.trans s1) (tr.mono s1) fun H2 u s2 d2 => k H2 u (s1.trans s2) d2)⟩
theorem ret_ic {te : TE} {D : Ends} {H : Hp} {d : PyData} (h : IsC K [] H te d σ) (q : ∀ H' v, Same H H' → Dp K H' v d → D.rt v H') : tRet te D σ H := h H _ (fun _ _ e => e) Trk.nil fun H' v s1 h1 => q H' v s1 (by rwa [cutS_nil] at h1)
theorem isc_same {te : TE} {d : PyData} {H1 : Hp} (h : IsC K [] H0 te d σ) (e : Same H0 H1) : IsC K [] H1 te d σ := fun H Q e1 tr k => h H Q (e.trans e1) tr k
end
end Jl

set_option Elab.async false
set_option linter.all false
set_option maxRecDepth 100000
set_option maxHeartbeats 1000000
set_option pp.maxSteps 300
namespace Jl
open PySem PySem.Spec PyProof.Rows L2
open Evl (sz_of sz_lt)
local macro_rules | `(tactic| walk_at "at") => `(tactic| first | exact box0 | exact box1 | exact box2)
local macro_rules | `(tactic| walk_at "sq") => `(tactic| first | (show SqL _ _ _ _; assumption) | (show SqT _ _ _ _; assumption) | (show _ = some _; assumption))
local macro_rules | `(tactic| walk_at "side") => `(tactic| first
  | (show (0 : Int) < _; decide)
  | (show (0 : Int) < _; omega)
  | exact ⟨by decide, by decide, by decide⟩
  | exact sz_of (Nat.le_of_ble_eq_true rfl)
  | exact rfl
  | exact Or.inl (by decide)
  | exact Or.inr (by decide)
  | exact Or.inr ⟨by omega, by omega⟩
  | exact Or.inl ⟨by omega, by omega⟩
  | exact ⟨by decide, by decide +kernel⟩)
local macro_rules | `(tactic| walk_at "ev1") => `(tactic| first
  | refine ⟨_, rfl, ?_⟩
  | refine ⟨_, _, rfl, rfl, ?_⟩
  | refine ⟨_, _, _, _, rfl, rfl, (by walk_at "sq"), (by walk_at "at"), ?_⟩
  | refine ⟨_, _, rfl, (by walk_at "sq"), ?_⟩
  | refine ⟨_, _, rfl, Or.inl (by walk_at "sq"), ?_⟩
  | refine ⟨_, _, rfl, Or.inr (by walk_at "sq"), ?_⟩
  | refine Or.inl ⟨_, rfl, ?_⟩
  | refine Or.inr ⟨_, rfl, ?_⟩
  | refine ⟨(by walk_at "side"), ?_⟩
  | refine ⟨.inl ⟨rfl, _, (by walk_at "sq")⟩, ?_⟩
  | refine ⟨_, _, rfl, ?_⟩)
local macro_rules | `(tactic| walk_at "nrm") => `(tactic| dsimp only [tNil, tCons, tC, tCB])
local macro_rules | `(tactic| walk_at "ev") => `(tactic| repeat (walk_at "ev1"))

abbrev sc_w_says_N : List Str := ["_law_web", "_law_most", "_law_row", "_law_due", "_law_soft", "_law_flat", "_law_got", "_law_fine"]
abbrev s_w_says : Stmt := topS 20
theorem sc_w_says : FnScope ["_law_web", "_law_most", "_law_row", "_law_due", "_law_soft", "_law_flat", "_law_got", "_law_fine"] ["_law_web", "_law_most", "_law_row", "_law_due"] (defScope s_w_says) := ⟨rfl, rfl, rfl, by decide +kernel, rfl, by decide +kernel, by decide +kernel⟩
/-- keywords, the last first -/
def gRev {α : Type} (us ws : List α) : List α := us ++ ws.reverse
theorem vals_rev {vs : List V} {us : List Value} (h : Vals vs us) : Vals vs.reverse us.reverse := by
  induction h with
  | nil => exact .nil
  | cons h1 _ ih =>
    rw [List.reverse_cons, List.reverse_cons]
    exact vals_app ih (.cons h1 .nil)
def gR0 {α : Type} (us ws : List α) : List α := match us with
  | [] => ws.reverse
  | _ :: _ => []
def gR1 {α : Type} (us ws : List α) : List α := match us with
  | [x] => x :: ws.reverse
  | _ => []
theorem vals_gR0 {vs : List V} {us : List Value} {zs : List V} {ws : List Value} (h : Vals vs us) (h2 : Vals zs ws) : Vals (gR0 vs zs) (gR0 us ws) := by
  cases h with
  | nil => exact vals_rev h2
  | cons _ _ => exact .nil
theorem vals_gR1 {vs : List V} {us : List Value} {zs : List V} {ws : List Value} (h : Vals vs us) (h2 : Vals zs ws) : Vals (gR1 vs zs) (gR1 us ws) := by
  cases h with
  | nil => exact .nil
  | cons h1 h =>
    cases h with
    | nil => exact .cons h1 (vals_rev h2)
    | cons _ _ => exact .nil
theorem vals_gRev {vs : List V} {us : List Value} {zs : List V} {ws : List Value} (h : Vals vs us) (h2 : Vals zs ws) : Vals (gRev vs zs) (gRev us ws) := vals_app h (vals_rev h2)
def optD : Option Int → PyData
  | none => .none
  | some i => .int i
theorem dp_opt {K : PySem.W.Frag} {H : Hp} : ∀ d : Option Int, Dp K H (optV d) (optD d)
  | none => .non
  | some i => .int i
theorem opt_dp {K : PySem.W.Frag} {H : Hp} {x : V} : ∀ {d : Option Int}, Dp K H x (optD d) → x = optV d
  | none, h => by
    cases h
    rfl
  | some i, h => by
    cases h
    rfl
structure Cas (ws : List Str) (qs : List QD) (cs : List Int) (many : Int) (d : Option Int) : Prop where
  nc : NetC ws qs cs
  w60 : ws.length ≤ 60
  q60 : qs.length ≤ 60
  bd : ∀ q ∈ qs, bdQ q
  okw : ∀ x ∈ ws, PyData.strOk x = true
  okn : ∀ q ∈ qs, PyData.strOk q.nm = true
  ev : ∃ r, Idl qs 0 ws r ∧ priceF ws qs cs (ws.filter fun x => decide (x ∈ r)) many = d
theorem left_some {ws : List Str} {qs : List QD} {cs : List Int} {rest : List Str} {many : Int} : leftF ws qs cs rest many = (priceF ws qs cs rest many).isSome := by
  unfold priceF
  cases hL : leftF ws qs cs rest many with
  | false => rw [if_neg (by decide)]; rfl
  | true =>
    rw [if_pos rfl]
    have h : (silF ws qs cs many).isSome = true := by
      unfold leftF at hL
      rw [Bool.and_eq_true] at hL
      exact hL.2
    cases hs : silF ws qs cs many with
    | none =>
      rw [hs] at h
      cases h
    | some ls => rfl
theorem shaped_of9 {d : PyData} (h1 : d.canLay0 = true) (h2 : d.depth ≤ 60) : SeqAt.shaped d = true := by
  unfold SeqAt.shaped
  rw [h1, decide_eq_true (show d.depth ≤ 64 by omega)]
  rfl
theorem net_shaped9 {f : Bool} {ws : List Str} {qs : List QD} (okw : ∀ x ∈ ws, PyData.strOk x = true) (okn : ∀ q ∈ qs, PyData.strOk q.nm = true) (qw : ∀ q ∈ qs, q.st ∈ ws ∧ q.en ∈ ws) : SeqAt.shaped (netD f ws qs) = true := by
  have c1 : ∀ x ∈ ws, (PyData.str x).canLay0 = true := fun x hx => by
    rw [PyData.canLay0]
    exact okw x hx
  refine shaped_of9 (can_seq fun d hd => ?_) (Nat.le_trans (dep_seq (n := 2) fun d hd => ?_) (by decide))
  · rcases mem2 hd with rfl | rfl
    · refine can_seq fun d hd => ?_
      obtain ⟨x, hx, rfl⟩ := List.mem_map.mp hd
      exact c1 x hx
    · refine can_seq fun d hd => ?_
      obtain ⟨q, hq, rfl⟩ := List.mem_map.mp hd
      refine can_seq fun d hd => ?_
      have hw := qw q hq
      rcases mem5 hd with rfl | rfl | rfl | rfl | rfl
      · rw [PyData.canLay0]
        exact okn q hq
      · exact c1 _ hw.1
      · exact c1 _ hw.2
      · simp [PyData.canLay0]
      · simp [PyData.canLay0]
  · rcases mem2 hd with rfl | rfl
    · refine dep_seq (n := 1) fun d hd => ?_
      obtain ⟨x, hx, rfl⟩ := List.mem_map.mp hd
      simp [PyData.depth]
    · refine dep_seq (n := 1) fun d hd => ?_
      obtain ⟨q, hq, rfl⟩ := List.mem_map.mp hd
      refine dep_seq (n := 0) fun d hd => ?_
      rcases mem5 hd with rfl | rfl | rfl | rfl | rfl <;> simp [PyData.depth]
section
variable {K : PySem.W.Frag} {H0 : Hp} {σ : L2.St}
theorem ic_same {E : XK} {t : TA} {d : PyData} (h : AreC K [] H0 t [d, d] σ) (ok : okD 4 d) : IsC K [] H0 (tCall (spSame K 4) [] E t) (.bool true) σ := fun H Q e tr k =>
  h H _ e tr fun H1 vs s1 hd => by
    rw [cutS_nil] at hd
    cases hd with
    | cons h1 hd =>
      cases hd with
      | cons h2 hd =>
        cases hd
        exact ⟨_, _, d, rfl, h1, h2, ok, fun H2 s2 => k H2 _ (s1.trans s2) (.bl true)⟩
theorem ic_lists9 {E : XK} {i : Nat} {v : V} {fb : Bool} {ws : List Str} {qs : List QD} (hi : σ[i]? = some (some v)) (hd : Dp K H0 v (netD fb ws qs)) (h1 : ws.length ≤ 60) (h2 : qs.length ≤ 60) : IsC K [] H0 (tCall (spLists K 4) [] E (tCons (tVar i) tNil)) (netD false ws qs) σ := fun H Q e tr q =>
  ⟨_, hi, v, _, [], rfl, Trk.nil, by rw [cutS_nil]; exact e.dp hd, net_okD h1 h2, fun H2 y s2 hy => by
    rw [net_lists] at hy
    exact q H2 y s2 hy⟩
theorem ic_notN {i : Nat} {d : Option Int} (hi : σ[i]? = some (some (optV d))) : IsC K [] H0 (tOp (fun x y H Q => y = V.non ∧ Q (.bl (!decide (x = V.non))) H) (tVar i) (tC .non)) (.bool d.isSome) σ := fun H Q e tr q => by
  refine ⟨_, hi, rfl, ?_⟩
  have e2 : (!decide (optV d = V.non)) = d.isSome := by
    cases d with
    | none => exact congrArg not (decide_eq_true rfl)
    | some i => exact congrArg not (decide_eq_false fun z => nomatch z)
  rw [e2]
  exact q H _ (fun _ _ e => e) (.bl _)
variable {ws : List Str} {qs : List QD} {cs : List Int} {many : Int} {d : Option Int}
theorem ic_left9 {E : XK} {t : TA} {fb fc : Bool} (h : AreC K [] H0 t [netD fb ws qs, .int many, seqD fc (cs.map PyData.int)] σ) (c : Cas ws qs cs many d) : IsC K [] H0 (tCall (spLeft K) [] E t) (.bool d.isSome) σ := fun H Q e tr k =>
  h H _ e tr fun H1 vs s1 hd => by
    rw [cutS_nil] at hd
    obtain ⟨r, hr, hp⟩ := c.ev
    cases hd with
    | cons h1 hd =>
      cases hd with
      | cons h2 hd =>
        cases hd with
        | cons h3 hd =>
          cases hd
          cases h2
          refine ⟨_, _, fb, fc, ws, qs, cs, r, many, rfl, h1, h3, c.nc, c.bd, hr, fun H2 s2 => ?_⟩
          rw [left_some, hp]
          exact k H2 _ (s1.trans s2) (.bl _)
theorem ic_price9 {E : XK} {t : TA} {fb fc : Bool} (h : AreC K [] H0 t [netD fb ws qs, .int many, seqD fc (cs.map PyData.int)] σ) (c : Cas ws qs cs many d) : IsC K [] H0 (tCall (spPrice K) [] E t) (optD d) σ := fun H Q e tr k =>
  h H _ e tr fun H1 vs s1 hd => by
    rw [cutS_nil] at hd
    obtain ⟨r, hr, hp⟩ := c.ev
    cases hd with
    | cons h1 hd =>
      cases hd with
      | cons h2 hd =>
        cases hd with
        | cons h3 hd =>
          cases hd
          cases h2
          refine ⟨_, _, fb, fc, ws, qs, cs, r, many, rfl, h1, h3, c.nc, c.bd, hr, fun H2 s2 => ?_⟩
          rw [hp]
          exact k H2 _ (s1.trans s2) (dp_opt d)
theorem ic_leftK9 {E : XK} {t : TA} {fb fc : Bool} (h : AreC K [] H0 t [seqD fc (cs.map PyData.int), .int many, netD fb ws qs] σ) (c : Cas ws qs cs many d) : IsC K [] H0 (tCallK0 (spLeft K) gR0 E t) (.bool d.isSome) σ := fun H Q e tr k =>
  h H _ e tr fun H1 vs s1 hd => by
    rw [cutS_nil] at hd
    obtain ⟨r, hr, hp⟩ := c.ev
    cases hd with
    | cons h3 hd =>
      cases hd with
      | cons h2 hd =>
        cases hd with
        | cons h1 hd =>
          cases hd
          cases h2
          refine ⟨_, _, fb, fc, ws, qs, cs, r, many, rfl, h1, h3, c.nc, c.bd, hr, fun H2 s2 => ?_⟩
          rw [left_some, hp]
          exact k H2 _ (s1.trans s2) (.bl _)
theorem ic_priceK9 {E : XK} {t tk : TA} {fb fc : Bool} (h : AreC K [] H0 t [netD fb ws qs] σ) (h' : ∀ H1, Same H0 H1 → AreC K [] H1 tk [seqD fc (cs.map PyData.int), .int many] σ) (c : Cas ws qs cs many d) : IsC K [] H0 (tCallK (spPrice K) gR1 E t tk) (optD d) σ := fun H Q e tr k =>
  h H _ e tr fun H1 vs s1 hd => by
    rw [cutS_nil] at hd
    obtain ⟨r, hr, hp⟩ := c.ev
    cases hd with
    | cons h1 hd =>
      cases hd
      refine h' H1 (e.trans s1) H1 _ (fun _ _ e => e) Trk.nil fun H2 zs s2 hz => ?_
      rw [cutS_nil] at hz
      cases hz with
      | cons h3 hz =>
        cases hz with
        | cons h2 hz =>
          cases hz
          cases h2
          refine ⟨_, _, fb, fc, ws, qs, cs, r, many, rfl, s2.dp h1, h3, c.nc, c.bd, hr, fun H3 s3 => ?_⟩
          rw [hp]
          exact k H3 _ ((s1.trans s2).trans s3) (dp_opt d)
end
section
variable {P : Program} {w : World} {K : PySem.W.Frag} {mg : Str → Option Value} {base : Heap}
def spSays (K : PySem.W.Frag) : Sp := fun vs H Q _ => ∃ (v u : V) (ws : List Str) (qs : List QD) (cs : List Int) (many : Int) (d : Option Int), vs = [v, .int many, u, optV d] ∧ Dp K H v (netD true ws qs) ∧ Dp K H u (seqD true (cs.map PyData.int)) ∧ Cas ws qs cs many d ∧ ∀ H', Same H H' → Q (.bl true) H'
theorem ok_w_says {f fC fP fL fS : Addr} {fd fdC fdP fdL fdS : FuncData} {k : Nat} (F : Fun K "_law_says" "_law_says" s_w_says f fd)
    (G_can_be_left : FnOk P w K mg base CX0 k fC fdC ["net", "many", "counts"] (spLeft K)) (g_can_be_left : mg "can_be_left" = some (.ref fC)) (F_can_be_left : Fun K "can_be_left" "can_be_left" s_can_be_left fC fdC) (b_can_be_left : Binds K fdC ["net", "many", "counts"] [])
    (G_price : FnOk P w K mg base CX0 k fP fdP ["net", "many", "counts"] (spPrice K)) (g_price : mg "price" = some (.ref fP)) (F_price : Fun K "price" "price" s_price fP fdP) (b_price : Binds K fdP ["net", "many", "counts"] [])
    (G_w_lists : FnOk P w K mg base CX0 k fL fdL ["_law_matter"] (spLists K 4)) (g_w_lists : mg "_law_lists" = some (.ref fL)) (F_w_lists : Fun K "_law_lists" "_law_lists" s_w_lists fL fdL) (b_w_lists : Binds K fdL ["_law_matter"] [])
    (G_w_same : FnOk P w K mg base CX0 k fS fdS ["_law_got", "_law_due"] (spSame K 4)) (g_w_same : mg "_law_same" = some (.ref fS)) (F_w_same : Fun K "_law_same" "_law_same" s_w_same fS fdS) (b_w_same : Binds K fdS ["_law_got", "_law_due"] [])
    (kb_can_be_left : KBinds K fdC ["net", "many", "counts"] ["counts", "many", "net"] gR0 gR0) (kb_price : KBinds K fdP ["net", "many", "counts"] ["counts", "many"] gR1 gR1) (m_list : mg "list" = none) : FnOk P w K mg base CX0 (k + 1) f fd ["_law_web", "_law_most", "_law_row", "_law_due"] (spSays K) := by
  refine F.ok sc_w_says (fun vs H Q E h => ?_) (fun cdv A outer s0 H vs Q E hr h => ?_)
  · obtain ⟨v, u, ws, qs, cs, many, d, rfl, _⟩ := h
    rfl
  · obtain ⟨v, u, ws, qs, cs, many, d, rfl, hD, hU, c, q⟩ := h
    refine ⟨_, (pss_cons (ps_par (i := 4) (j := 5) (by rfl) sc_w_says.nd rfl rfl (by decide) rfl rfl (pa_cons (pe_call G_w_lists hr (by rfl) g_w_lists F_w_lists.kp b_w_lists .nil pass0 (pa_cons (pv 0) pa_nil)) (pa_cons (pe_callTy call_list_of (by rfl) m_list (by decide +kernel) (pa_cons (pv 2) pa_nil)) pa_nil)) (by rfl)) 
    (pss_cons (ps_set (i := 6) sc_w_says.nd rfl (Or.inl rfl) (pe_lst (pa_cons (pe_call G_can_be_left hr (by rfl) g_can_be_left F_can_be_left.kp b_can_be_left .nil pass0 (pa_cons (pv 0) (pa_cons (pv 1) (pa_cons (pv 2) pa_nil)))) (pa_cons (pe_call G_price hr (by rfl) g_price F_price.kp b_price .nil pass0 (pa_cons (pv 0) (pa_cons (pv 1) (pa_cons (pv 2) pa_nil)))) (pa_cons (pe_callK0 G_can_be_left hr (by rfl) g_can_be_left F_can_be_left.kp kb_can_be_left pass0 (pk_cons (pv 5) (pk_cons (pv 1) (pk_cons (pv 4) pk_nil)))) pa_nil))))) 
    (pss_cons (ps_set (i := 7) sc_w_says.nd rfl (Or.inl rfl) (pe_call G_w_same hr (by rfl) g_w_same F_w_same.kp b_w_same .nil pass0 (pa_cons (pv 6) (pa_cons (pe_lst (pa_cons (pe_cmpR op_notN (pv 3) pe_non (nomark _)) (pa_cons (pv 3) (pa_cons (pe_cmpR op_notN (pv 3) pe_non (nomark _)) pa_nil)))) pa_nil)))) 
    (pss_one (ps_ret (pe_and (pv 7) (pe_and (pe_call G_w_same hr (by rfl) g_w_same F_w_same.kp b_w_same .nil pass0 (pa_cons (pe_callK G_price hr (by rfl) g_price F_price.kp kb_price pass0 (pa_cons (pv 4) pa_nil) (pk_cons (pv 5) (pk_cons (pv 1) pk_nil))) (pa_cons (pv 3) pa_nil))) (pe_one (pe_cmpR (op_eqD hr.units) (pv 4) (pe_call G_w_lists hr (by rfl) g_w_lists F_w_lists.kp b_w_lists .nil pass0 (pa_cons (pv 0) pa_nil)) (nomark _)))))))))), ?_⟩
    have hsh := net_shaped9 (f := false) c.okw c.okn c.nc.qw
    refine par_ac (K := K) (d1 := netD false ws qs) (d2 := seqD false (cs.map PyData.int)) (ac_cons (ic_lists9 (i := 0) rfl hD c.w60 c.q60) (ac_cons ?_ ac_nil)) fun H1 v4 v5 s1 k4 k5 => ?_
    · intro H2 Q' e tr k'
      obtain ⟨a, xs, rfl, g1, g2⟩ := Dp.seq_of (f := true) hU
      have g1 : SqT K H a xs := g1
      exact ⟨_, rfl, a, xs, rfl, .inr (e.sqT g1), fun l hl => k' _ (.ref l) (.upd hl) (by rw [cutS_nil]; exact .lst (sql_of upd_same) ((Same.upd hl).dpa (e.dpa g2)))⟩
    · replace hD := s1.dp hD
      replace hU := s1.dp hU
      try dsimp only [List.set]
      refine asg_ic (K := K) (d := .list [.bool d.isSome, optD d, .bool d.isSome]) (ic_lst (ac_cons (ic_left9 (ac_cons (ic_var rfl (by rw [cutS_nil]; exact hD)) (ac_cons (ic_var rfl (.int _)) (ac_cons (ic_var rfl (by rw [cutS_nil]; exact hU)) ac_nil))) c) (ac_cons (ic_price9 (ac_cons (ic_var rfl (by rw [cutS_nil]; exact hD)) (ac_cons (ic_var rfl (.int _)) (ac_cons (ic_var rfl (by rw [cutS_nil]; exact hU)) ac_nil))) c) (ac_cons (ic_leftK9 (ac_cons (ic_var rfl (by rw [cutS_nil]; exact k5)) (ac_cons (ic_var rfl (.int _)) (ac_cons (ic_var rfl (by rw [cutS_nil]; exact k4)) ac_nil))) c) ac_nil))) (by show 3 ≤ 1000; decide)) fun H2 v6 s2 k6 => ?_
      try dsimp only [List.set]
      have okl : okD 4 (.list [.bool d.isSome, optD d, .bool d.isSome]) := (okD_seq (f := false)).mpr ⟨by show 3 ≤ 4000000; decide, fun x hx => by
        rcases mem3 hx with rfl | rfl | rfl
        · trivial
        · cases d <;> trivial
        · trivial⟩
      refine asg_ic (K := K) (d := .bool true) (ic_same (d := .list [.bool d.isSome, optD d, .bool d.isSome]) (ac_cons (ic_var rfl (by rw [cutS_nil]; exact k6)) (ac_cons (ic_lst (ac_cons (ic_notN (i := 3) rfl) (ac_cons (ic_var rfl (dp_opt d)) (ac_cons (ic_notN (i := 3) rfl) ac_nil))) (by show 3 ≤ 1000; decide)) ac_nil)) okl) fun H3 v7 s3 k7 => ?_
      cases k7
      try dsimp only [List.set]
      have s23 := s2.trans s3
      have okd : okD 4 (optD d) := by cases d <;> trivial
      refine ret_ic (K := K) (d := .bool true) (ic_and (ic_var rfl (.bl true)) (ic_and (ic_same (d := optD d) (ac_cons (ic_priceK9 (ac_cons (ic_var rfl (by rw [cutS_nil]; exact s23.dp k4)) ac_nil) (fun H5 s5 => ac_cons (ic_var rfl (by rw [cutS_nil]; exact s5.dp (s23.dp k5))) (ac_cons (ic_var rfl (.int _)) ac_nil)) c) (ac_cons (ic_var rfl (dp_opt d)) ac_nil)) okd) ?_)) fun H4 v s4 kv => ?_
      · intro H5 Q' e tr k'
        refine ⟨_, rfl, ?_⟩
        refine ic_lists9 (i := 0) rfl (s23.dp hD) c.w60 c.q60 H5 _ e tr fun H6 y s6 hy => ?_
        rw [cutS_nil] at hy
        have k46 := s6.dp (e.dp (s23.dp k4))
        refine ⟨_, _, k46, hy, hsh, hsh, ?_⟩
        rw [SeqAt.eqv_refl _ (SeqAt.canLay_of_shaped hsh)]
        exact k' H6 _ s6 (.bl true)
      · cases kv
        exact q H4 (s1.trans (s23.trans s4))
end
end Jl

set_option Elab.async false
set_option linter.all false
set_option maxRecDepth 100000
set_option maxHeartbeats 1000000
set_option pp.maxSteps 300
namespace Jl
open PySem PySem.Spec PyProof.Rows L2
open Evl (sz_of sz_lt)
local macro_rules | `(tactic| walk_at "at") => `(tactic| first | exact box0 | exact box1 | exact box2)
local macro_rules | `(tactic| walk_at "sq") => `(tactic| first | (show SqL _ _ _ _; assumption) | (show SqT _ _ _ _; assumption) | (show _ = some _; assumption))
local macro_rules | `(tactic| walk_at "side") => `(tactic| first
  | (show (0 : Int) < _; decide)
  | (show (0 : Int) < _; omega)
  | exact ⟨by decide, by decide, by decide⟩
  | exact sz_of (Nat.le_of_ble_eq_true rfl)
  | exact rfl
  | exact Or.inl (by decide)
  | exact Or.inr (by decide)
  | exact Or.inr ⟨by omega, by omega⟩
  | exact Or.inl ⟨by omega, by omega⟩
  | exact ⟨by decide, by decide +kernel⟩)
local macro_rules | `(tactic| walk_at "ev1") => `(tactic| first
  | refine ⟨_, rfl, ?_⟩
  | refine ⟨_, _, rfl, rfl, ?_⟩
  | refine ⟨_, _, _, _, rfl, rfl, (by walk_at "sq"), (by walk_at "at"), ?_⟩
  | refine ⟨_, _, rfl, (by walk_at "sq"), ?_⟩
  | refine ⟨_, _, rfl, Or.inl (by walk_at "sq"), ?_⟩
  | refine ⟨_, _, rfl, Or.inr (by walk_at "sq"), ?_⟩
  | refine Or.inl ⟨_, rfl, ?_⟩
  | refine Or.inr ⟨_, rfl, ?_⟩
  | refine ⟨(by walk_at "side"), ?_⟩
  | refine ⟨.inl ⟨rfl, _, (by walk_at "sq")⟩, ?_⟩
  | refine ⟨_, _, rfl, ?_⟩)
local macro_rules | `(tactic| walk_at "nrm") => `(tactic| dsimp only [tNil, tCons, tC, tCB])
local macro_rules | `(tactic| walk_at "ev") => `(tactic| repeat (walk_at "ev1"))

def stepP (ps : List (Str × Str)) (l : List Str) : List Str := l.filter fun w => decide (w ∈ ps.foldl (fun acc p => if p.1 ∈ l then addK acc p.2 else acc) [])
theorem stepI_P {qs : List QD} {l : List Str} : stepI qs l = stepP (qs.map fun q => (q.st, q.en)) l := by
  unfold stepI stepP fedL
  rw [List.foldl_map]
  rfl
def runP (ps : List (Str × Str)) : Nat → Nat → List Str → Option (List Str)
  | 0, _, _ => none
  | k + 1, n, l => if l.length = n then some l else runP ps k l.length (stepP ps l)
theorem idl_run {qs : List QD} {r : List Str} : ∀ {k n : Nat} {l : List Str}, runP (qs.map fun q => (q.st, q.en)) k n l = some r → Idl qs n l r
  | 0, _, _, h => nomatch h
  | k + 1, n, l, h => by
    unfold runP at h
    by_cases e : l.length = n
    · rw [if_pos e] at h
      cases h
      subst e
      exact .stop _
    · rw [if_neg e] at h
      refine .go n l r e (idl_run (k := k) ?_)
      rw [stepI_P]
      exact h
def sA : Str := Str.ofString "a"
def sB : Str := Str.ofString "b"
def sC : Str := Str.ofString "c"
def sD : Str := Str.ofString "d"
def sI : Str := Str.ofString "i"
def sS : Str := Str.ofString "s"
def sP : Str := Str.ofString "p"
def sQ : Str := Str.ofString "q"
def sR : Str := Str.ofString "r"
def sU : Str := Str.ofString "u"
def sV : Str := Str.ofString "v"

/-! ### numbers a * g + b, compared for all g from 1 -/
abbrev Ln := Int × Int
def ev (g : Int) (l : Ln) : Int := l.1 * g + l.2
def subL (l m : Ln) : Ln := (l.1 - m.1, l.2 - m.2)
def addL (l m : Ln) : Ln := (l.1 + m.1, l.2 + m.2)
theorem ev_sub {g : Int} {l m : Ln} : ev g (subL l m) = ev g l - ev g m := by
  unfold ev subL
  rw [Int.sub_mul]
  omega
theorem ev_add {g : Int} {l m : Ln} : ev g (addL l m) = ev g l + ev g m := by
  unfold ev addL
  rw [Int.add_mul]
  omega
def leL (l m : Ln) : Option Bool := if 0 ≤ m.1 - l.1 ∧ 0 ≤ (m.1 - l.1) + (m.2 - l.2) then some true else if m.1 - l.1 ≤ 0 ∧ (m.1 - l.1) + (m.2 - l.2) < 0 then some false else none
theorem leL_ok {g : Int} (hg : 1 ≤ g) {l m : Ln} {r : Bool} (h : leL l m = some r) : decide (ev g l ≤ ev g m) = r := by
  have e : ev g m - ev g l = (m.1 - l.1) * g + (m.2 - l.2) := by
    unfold ev
    rw [Int.sub_mul]
    omega
  unfold leL at h
  by_cases c1 : 0 ≤ m.1 - l.1 ∧ 0 ≤ (m.1 - l.1) + (m.2 - l.2)
  · rw [if_pos c1] at h
    cases h
    have : (m.1 - l.1) * 1 ≤ (m.1 - l.1) * g := Int.mul_le_mul_of_nonneg_left hg c1.1
    exact decide_eq_true (by omega)
  · rw [if_neg c1] at h
    by_cases c2 : m.1 - l.1 ≤ 0 ∧ (m.1 - l.1) + (m.2 - l.2) < 0
    · rw [if_pos c2] at h
      cases h
      have : (l.1 - m.1) * 1 ≤ (l.1 - m.1) * g := Int.mul_le_mul_of_nonneg_left hg (by omega)
      have e2 : (m.1 - l.1) * g = -((l.1 - m.1) * g) := by
        rw [← Int.neg_mul]
        congr 1
        omega
      exact decide_eq_false (by omega)
    · rw [if_neg c2] at h
      cases h
def ltL (l m : Ln) : Option Bool := (leL m l).map not
theorem ltL_ok {g : Int} (hg : 1 ≤ g) {l m : Ln} {r : Bool} (h : ltL l m = some r) : decide (ev g l < ev g m) = r := by
  unfold ltL at h
  cases hb : leL m l with
  | none =>
    rw [hb] at h
    cases h
  | some b =>
    rw [hb] at h
    cases h
    rw [← leL_ok hg hb]
    by_cases c : ev g m ≤ ev g l
    · rw [decide_eq_true c, decide_eq_false (by omega)]
      rfl
    · rw [decide_eq_false c, decide_eq_true (by omega)]
      rfl
structure QL where
  nm : Str
  st : Str
  en : Str
  room : Ln
  gap : Ln
def evQ (g : Int) (q : QL) : QD := ⟨q.nm, q.st, q.en, ev g q.room, ev g q.gap⟩
def cntL : List Str → List Ln → Str → Ln
  | w :: ws, c :: cs, x => if w = x then c else cntL ws cs x
  | _, _, _ => (0, 0)
theorem ev_zero {g : Int} : ev g (0, 0) = 0 := by
  unfold ev
  omega
theorem cnt_ok {g : Int} {x : Str} : ∀ {ws : List Str} {cs : List Ln}, cntF ws (cs.map (ev g)) x = ev g (cntL ws cs x)
  | [], _ => ev_zero.symm
  | _ :: _, [] => ev_zero.symm
  | w :: ws, c :: cs => by
    show (if w = x then ev g c else cntF ws (cs.map (ev g)) x) = ev g (if w = x then c else cntL ws cs x)
    by_cases e : w = x
    · rw [if_pos e, if_pos e]
    · rw [if_neg e, if_neg e, cnt_ok]
def leadL (ws : List Str) (cs : List Ln) (q : QL) : Ln := subL (cntL ws cs q.st) (cntL ws cs q.en)
theorem lead_ok {g : Int} {ws : List Str} {cs : List Ln} {q : QL} : leadQ ws (cs.map (ev g)) (evQ g q) = ev g (leadL ws cs q) := by
  unfold leadQ leadL
  rw [ev_sub, ← cnt_ok, ← cnt_ok]
  rfl
def anyO {α : Type} (f : α → Option Bool) : List α → Option Bool
  | [] => some false
  | a :: l => match f a, anyO f l with
    | some x, some y => some (x || y)
    | _, _ => none
theorem any_ok {α : Type} {f : α → Option Bool} {p : α → Bool} : ∀ {l : List α} {r : Bool}, (∀ a ∈ l, ∀ r, f a = some r → p a = r) → anyO f l = some r → l.any p = r
  | [], r, _, h => by
    cases h
    rfl
  | a :: l, r, hf, h => by
    unfold anyO at h
    cases h1 : f a with
    | none => rw [h1] at h; cases h
    | some x =>
      cases h2 : anyO f l with
      | none => rw [h1, h2] at h; cases h
      | some y =>
        rw [h1, h2] at h
        cases h
        rw [List.any_cons, hf a List.mem_cons_self x h1, any_ok (fun b hb => hf b (List.mem_cons_of_mem _ hb)) h2]
def allO {α : Type} (f : α → Option Bool) : List α → Option Bool
  | [] => some true
  | a :: l => match f a, allO f l with
    | some x, some y => some (x && y)
    | _, _ => none
theorem all_ok {α : Type} {f : α → Option Bool} {p : α → Bool} : ∀ {l : List α} {r : Bool}, (∀ a ∈ l, ∀ r, f a = some r → p a = r) → allO f l = some r → l.all p = r
  | [], r, _, h => by
    cases h
    rfl
  | a :: l, r, hf, h => by
    unfold allO at h
    cases h1 : f a with
    | none => rw [h1] at h; cases h
    | some x =>
      cases h2 : allO f l with
      | none => rw [h1, h2] at h; cases h
      | some y =>
        rw [h1, h2] at h
        cases h
        rw [List.all_cons, hf a List.mem_cons_self x h1, all_ok (fun b hb => hf b (List.mem_cons_of_mem _ hb)) h2]
def filO {α : Type} (f : α → Option Bool) : List α → Option (List α)
  | [] => some []
  | a :: l => match f a, filO f l with
    | some x, some y => some (if x = true then a :: y else y)
    | _, _ => none
theorem fil_ok {α : Type} {f : α → Option Bool} {p : α → Bool} : ∀ {l r : List α}, (∀ a ∈ l, ∀ r, f a = some r → p a = r) → filO f l = some r → l.filter p = r
  | [], r, _, h => by
    cases h
    rfl
  | a :: l, r, hf, h => by
    unfold filO at h
    cases h1 : f a with
    | none => rw [h1] at h; cases h
    | some x =>
      cases h2 : filO f l with
      | none => rw [h1, h2] at h; cases h
      | some y =>
        rw [h1, h2] at h
        cases h
        rw [List.filter_cons, hf a List.mem_cons_self x h1, fil_ok (fun b hb => hf b (List.mem_cons_of_mem _ hb)) h2]
def lowO (ws : List Str) (qs : List QL) (cs : List Ln) (x : Str) : Option (List Ln) := match filO (fun q => if q.en = x then ltL (leadL ws cs q) q.gap else some false) qs with
  | none => none
  | some l => some (l.map (leadL ws cs))
theorem low_ok {g : Int} (hg : 1 ≤ g) {ws : List Str} {qs : List QL} {cs : List Ln} {x : Str} {r : List Ln} (h : lowO ws qs cs x = some r) : lowL ws (qs.map (evQ g)) (cs.map (ev g)) x = r.map (ev g) := by
  unfold lowO at h
  cases h1 : filO (fun q => if q.en = x then ltL (leadL ws cs q) q.gap else some false) qs with
  | none => rw [h1] at h; cases h
  | some l =>
    rw [h1] at h
    cases h
    have e := fil_ok (p := fun q => lowB ws (cs.map (ev g)) x (evQ g q)) (fun q _ r hr => by
      unfold lowB
      by_cases c : q.en = x
      · rw [if_pos c] at hr
        rw [decide_eq_true (show (evQ g q).en = x from c), Bool.true_and, lead_ok]
        exact ltL_ok hg hr
      · rw [if_neg c] at hr
        cases hr
        rw [decide_eq_false (show ¬ (evQ g q).en = x from c), Bool.false_and]) h1
    unfold lowL
    rw [List.filter_map, List.map_map, List.map_map, ← e]
    exact List.map_congr_left fun q _ => lead_ok
def blkO9 (ws : List Str) (qs : List QL) (cs : List Ln) (x : Str) : Option Bool := anyO (fun q => if q.st = x then leL q.room (leadL ws cs q) else some false) qs
theorem blk_ok {g : Int} (hg : 1 ≤ g) {ws : List Str} {qs : List QL} {cs : List Ln} {x : Str} {r : Bool} (h : blkO9 ws qs cs x = some r) : blkB ws (qs.map (evQ g)) (cs.map (ev g)) x = r := by
  unfold blkB
  rw [List.any_map]
  refine any_ok (fun q _ r hr => ?_) h
  show (highB ws (cs.map (ev g)) (evQ g q) && decide (q.st = x)) = r
  by_cases c : q.st = x
  · rw [if_pos c] at hr
    rw [decide_eq_true c, Bool.and_true]
    unfold highB
    rw [lead_ok]
    exact leL_ok hg hr
  · rw [if_neg c] at hr
    cases hr
    rw [decide_eq_false c, Bool.and_false]
def minO : Ln → List Ln → Option Ln
  | n, [] => some n
  | n, a :: ms => match leL n a with
    | none => none
    | some b => minO (if b = true then n else a) ms
theorem min_ok {g : Int} (hg : 1 ≤ g) : ∀ {ms : List Ln} {n r : Ln}, minO n ms = some r → (ms.map (ev g)).foldl min (ev g n) = ev g r
  | [], n, r, h => by
    cases h
    rfl
  | a :: ms, n, r, h => by
    unfold minO at h
    cases h1 : leL n a with
    | none => rw [h1] at h; cases h
    | some b =>
      rw [h1] at h
      have h2 := leL_ok hg h1
      rw [List.map_cons, List.foldl_cons]
      have e : min (ev g n) (ev g a) = ev g (if b = true then n else a) := by
        cases b with
        | true =>
          have := of_decide_eq_true h2
          rw [if_pos rfl]
          omega
        | false =>
          have := of_decide_eq_false h2
          rw [if_neg (by decide)]
          omega
      rw [e]
      exact min_ok hg h
def silO (ws : List Str) (qs : List QL) (cs : List Ln) (many : Ln) : List (Str × Ln) → List Ln → Option (Option (List Ln))
  | [], acc => some (some acc)
  | (x, c) :: r, acc => match ltL c many, blkO9 ws qs cs x with
    | some true, some false => match lowO ws qs cs x with
      | none => none
      | some [] => some none
      | some (n :: ms) => match minO n ms with
        | none => none
        | some m => silO ws qs cs many r (acc ++ [m])
    | some _, some _ => silO ws qs cs many r acc
    | _, _ => none
theorem sil_ok {g : Int} (hg : 1 ≤ g) {ws : List Str} {qs : List QL} {cs : List Ln} {many : Ln} : ∀ {l : List (Str × Ln)} {acc : List Ln} {r : Option (List Ln)}, silO ws qs cs many l acc = some r → silG ws (qs.map (evQ g)) (cs.map (ev g)) (ev g many) (l.map fun p => (p.1, ev g p.2)) (acc.map (ev g)) = r.map (List.map (ev g))
  | [], acc, r, h => by
    cases h
    rfl
  | (x, c) :: l, acc, r, h => by
    unfold silO at h
    rw [List.map_cons, silG_cons]
    cases h1 : ltL c many with
    | none => rw [h1] at h; cases h
    | some b1 =>
      cases h2 : blkO9 ws qs cs x with
      | none => rw [h1, h2] at h; cases b1 <;> cases h
      | some b2 =>
        rw [h1, h2] at h
        have k1 := ltL_ok hg h1
        have k2 := blk_ok hg h2
        have skip : (b1 = true → b2 = true) → silO ws qs cs many l acc = some r → (if ev g c < ev g many ∧ blkB ws (qs.map (evQ g)) (cs.map (ev g)) x = false then (match lowL ws (qs.map (evQ g)) (cs.map (ev g)) x with
            | [] => none
            | n :: ms => silG ws (qs.map (evQ g)) (cs.map (ev g)) (ev g many) (l.map fun p => (p.1, ev g p.2)) (acc.map (ev g) ++ [ms.foldl min n])) else silG ws (qs.map (evQ g)) (cs.map (ev g)) (ev g many) (l.map fun p => (p.1, ev g p.2)) (acc.map (ev g))) = r.map (List.map (ev g)) := fun hb h => by
          rw [if_neg (fun z => by
            rw [k2] at z
            have : b1 = true := by rw [← k1]; exact decide_eq_true z.1
            rw [hb this] at z
            exact Bool.noConfusion z.2)]
          exact sil_ok hg h
        cases b1 with
        | false => exact skip (fun z => nomatch z) (by cases b2 <;> exact h)
        | true =>
          cases b2 with
          | true => exact skip (fun _ => rfl) h
          | false =>
            rw [if_pos ⟨of_decide_eq_true k1, k2⟩]
            cases h3 : lowO ws qs cs x with
            | none => rw [h3] at h; cases h
            | some ys =>
              rw [h3] at h
              rw [low_ok hg h3]
              cases ys with
              | nil =>
                cases h
                rfl
              | cons n ms =>
                cases h4 : minO n ms with
                | none =>
                  have h : (match minO n ms with
                    | none => none
                    | some m => silO ws qs cs many l (acc ++ [m])) = some r := h
                  rw [h4] at h
                  cases h
                | some m =>
                  have h : (match minO n ms with
                    | none => none
                    | some m => silO ws qs cs many l (acc ++ [m])) = some r := h
                  rw [h4] at h
                  have := sil_ok hg (acc := acc ++ [m]) h
                  rw [List.map_append] at this
                  show silG ws _ _ _ _ (acc.map (ev g) ++ [(ms.map (ev g)).foldl min (ev g n)]) = _
                  rw [min_ok hg h4]
                  exact this
end Jl

set_option Elab.async false
set_option linter.all false
set_option maxRecDepth 100000
set_option maxHeartbeats 1000000
set_option pp.maxSteps 300
namespace Jl
open PySem PySem.Spec PyProof.Rows L2
open Evl (sz_of sz_lt)
local macro_rules | `(tactic| walk_at "at") => `(tactic| first | exact box0 | exact box1 | exact box2)
local macro_rules | `(tactic| walk_at "sq") => `(tactic| first | (show SqL _ _ _ _; assumption) | (show SqT _ _ _ _; assumption) | (show _ = some _; assumption))
local macro_rules | `(tactic| walk_at "side") => `(tactic| first
  | (show (0 : Int) < _; decide)
  | (show (0 : Int) < _; omega)
  | exact ⟨by decide, by decide, by decide⟩
  | exact sz_of (Nat.le_of_ble_eq_true rfl)
  | exact rfl
  | exact Or.inl (by decide)
  | exact Or.inr (by decide)
  | exact Or.inr ⟨by omega, by omega⟩
  | exact Or.inl ⟨by omega, by omega⟩
  | exact ⟨by decide, by decide +kernel⟩)
local macro_rules | `(tactic| walk_at "ev1") => `(tactic| first
  | refine ⟨_, rfl, ?_⟩
  | refine ⟨_, _, rfl, rfl, ?_⟩
  | refine ⟨_, _, _, _, rfl, rfl, (by walk_at "sq"), (by walk_at "at"), ?_⟩
  | refine ⟨_, _, rfl, (by walk_at "sq"), ?_⟩
  | refine ⟨_, _, rfl, Or.inl (by walk_at "sq"), ?_⟩
  | refine ⟨_, _, rfl, Or.inr (by walk_at "sq"), ?_⟩
  | refine Or.inl ⟨_, rfl, ?_⟩
  | refine Or.inr ⟨_, rfl, ?_⟩
  | refine ⟨(by walk_at "side"), ?_⟩
  | refine ⟨.inl ⟨rfl, _, (by walk_at "sq")⟩, ?_⟩
  | refine ⟨_, _, rfl, ?_⟩)
local macro_rules | `(tactic| walk_at "nrm") => `(tactic| dsimp only [tNil, tCons, tC, tCB])
local macro_rules | `(tactic| walk_at "ev") => `(tactic| repeat (walk_at "ev1"))

def mostO (lead : Ln) (q : QL) : Option Bool :=
  if leL (0, 1) q.gap = some true ∧ leL (0, 0) q.room = some true ∧ leL lead q.room = some true then some true
  else if leL (0, 2) q.gap = some true ∧ leL (0, 0) q.room = some true ∧ leL lead (addL q.room (addL q.room (0, 1))) = some true then some true
  else if q.gap.1 = 0 then leL lead (q.gap.2 * q.room.1, q.gap.2 * q.room.2 + q.gap.2 - 1)
  else none
theorem leL_t {g : Int} (hg : 1 ≤ g) {l m : Ln} (h : leL l m = some true) : ev g l ≤ ev g m := of_decide_eq_true (leL_ok hg h)
theorem ev_c {g c : Int} : ev g (0, c) = c := by
  unfold ev
  omega
theorem most_ok {g : Int} (hg : 1 ≤ g) {lead : Ln} {q : QL} {r : Bool} (h : mostO lead q = some r) : decide (ev g lead ≤ mostQ (evQ g q)) = r := by
  have em : mostQ (evQ g q) = ev g q.gap * (ev g q.room + 1) - 1 := rfl
  unfold mostO at h
  by_cases c1 : leL (0, 1) q.gap = some true ∧ leL (0, 0) q.room = some true ∧ leL lead q.room = some true
  · rw [if_pos c1] at h
    cases h
    have h1 := leL_t hg c1.1
    have h2 := leL_t hg c1.2.1
    have h3 := leL_t hg c1.2.2
    rw [ev_c] at h1 h2
    have : 1 * (ev g q.room + 1) ≤ ev g q.gap * (ev g q.room + 1) := Int.mul_le_mul_of_nonneg_right h1 (by omega)
    rw [em]
    exact decide_eq_true (by omega)
  · rw [if_neg c1] at h
    by_cases c2 : leL (0, 2) q.gap = some true ∧ leL (0, 0) q.room = some true ∧ leL lead (addL q.room (addL q.room (0, 1))) = some true
    · rw [if_pos c2] at h
      cases h
      have h1 := leL_t hg c2.1
      have h2 := leL_t hg c2.2.1
      have h3 := leL_t hg c2.2.2
      rw [ev_c] at h1 h2
      rw [ev_add, ev_add, ev_c] at h3
      have : 2 * (ev g q.room + 1) ≤ ev g q.gap * (ev g q.room + 1) := Int.mul_le_mul_of_nonneg_right h1 (by omega)
      rw [em]
      exact decide_eq_true (by omega)
    · rw [if_neg c2] at h
      by_cases c3 : q.gap.1 = 0
      · rw [if_pos c3] at h
        rw [← leL_ok hg h, em]
        congr 1
        have e1 : ev g q.gap = q.gap.2 := by
          unfold ev
          rw [c3]
          omega
        have e2 : ev g (q.gap.2 * q.room.1, q.gap.2 * q.room.2 + q.gap.2 - 1) = q.gap.2 * (ev g q.room + 1) - 1 := by
          unfold ev
          rw [Int.mul_add, Int.mul_add, Int.mul_assoc]
          omega
        rw [e1, e2]
      · rw [if_neg c3] at h
        cases h
def neO (l : Ln) : Option Bool := match leL (0, 0) l, leL l (0, 0) with
  | some true, some true => some false
  | some false, some true => some true
  | some true, some false => some true
  | _, _ => none
theorem ne_ok {g : Int} (hg : 1 ≤ g) {l : Ln} {r : Bool} (h : neO l = some r) : decide (ev g l ≠ 0) = r := by
  unfold neO at h
  cases h1 : leL (0, 0) l with
  | none => rw [h1] at h; cases h
  | some b1 =>
    cases h2 : leL l (0, 0) with
    | none => rw [h1, h2] at h; cases b1 <;> cases h
    | some b2 =>
      have k1 := leL_ok hg h1
      have k2 := leL_ok hg h2
      rw [ev_c] at k1 k2
      rw [h1, h2] at h
      cases b1 with
      | true =>
        have k1 := of_decide_eq_true k1
        cases b2 with
        | true =>
          have k2 := of_decide_eq_true k2
          cases h
          exact decide_eq_false (by omega)
        | false =>
          have k2 := of_decide_eq_false k2
          cases h
          exact decide_eq_true (by omega)
      | false =>
        have k1 := of_decide_eq_false k1
        cases b2 with
        | true =>
          cases h
          exact decide_eq_true (by omega)
        | false => cases h
def crowdO (ws : List Str) (cs : List Ln) (q : QL) : Option Ln := match leL (subL (leadL ws cs q) q.room) (0, 0) with
  | none => none
  | some b => some (if b = true then (0, 0) else subL (leadL ws cs q) q.room)
theorem crowd_ok {g : Int} (hg : 1 ≤ g) {ws : List Str} {cs : List Ln} {q : QL} {r : Ln} (h : crowdO ws cs q = some r) : crowdQ ws (cs.map (ev g)) (evQ g q) = ev g r := by
  unfold crowdO at h
  cases h1 : leL (subL (leadL ws cs q) q.room) (0, 0) with
  | none => rw [h1] at h; cases h
  | some b =>
    rw [h1] at h
    cases h
    have k := leL_ok hg h1
    rw [ev_sub, ev_c] at k
    have e : crowdQ ws (cs.map (ev g)) (evQ g q) = if ev g (leadL ws cs q) - ev g q.room > 0 then ev g (leadL ws cs q) - ev g q.room else 0 := by
      unfold crowdQ
      rw [lead_ok]
      rfl
    rw [e]
    cases b with
    | true =>
      have := of_decide_eq_true k
      rw [if_neg (by omega), if_pos rfl, ev_c]
    | false =>
      have := of_decide_eq_false k
      rw [if_pos (by omega), if_neg (by decide), ev_sub]
def sumO (ws : List Str) (cs : List Ln) : List QL → Option Ln
  | [] => some (0, 0)
  | q :: qs => match crowdO ws cs q, sumO ws cs qs with
    | some x, some y => some (addL x y)
    | _, _ => none
theorem sum_ok {g : Int} (hg : 1 ≤ g) {ws : List Str} {cs : List Ln} : ∀ {qs : List QL} {r : Ln}, sumO ws cs qs = some r → ((qs.map (evQ g)).map (crowdQ ws (cs.map (ev g)))).sum = ev g r
  | [], r, h => by
    cases h
    exact ev_zero.symm
  | q :: qs, r, h => by
    unfold sumO at h
    cases h1 : crowdO ws cs q with
    | none => rw [h1] at h; cases h
    | some x =>
      cases h2 : sumO ws cs qs with
      | none => rw [h1, h2] at h; cases h
      | some y =>
        rw [h1, h2] at h
        cases h
        rw [List.map_cons, List.map_cons, List.sum_cons, crowd_ok hg h1, sum_ok hg h2, ev_add]
def totL (ls : List Ln) : Ln := ls.foldr addL (0, 0)
theorem tot_ok {g : Int} : ∀ ls : List Ln, (ls.map (ev g)).sum = ev g (totL ls)
  | [] => ev_zero.symm
  | l :: ls => by
    rw [List.map_cons, List.sum_cons, tot_ok ls]
    show _ = ev g (addL l (totL ls))
    rw [ev_add]
def goodO (ws : List Str) (cs : List Ln) (q : QL) : Option Bool := match leL (0, 0) (leadL ws cs q), mostO (leadL ws cs q) q with
  | some x, some y => some (x && y)
  | some false, none => some false
  | _, _ => none
theorem good_ok {g : Int} (hg : 1 ≤ g) {ws : List Str} {cs : List Ln} {q : QL} {r : Bool} (h : goodO ws cs q = some r) : (decide (0 ≤ leadQ ws (cs.map (ev g)) (evQ g q)) && decide (leadQ ws (cs.map (ev g)) (evQ g q) ≤ mostQ (evQ g q))) = r := by
  unfold goodO at h
  rw [lead_ok]
  cases h1 : leL (0, 0) (leadL ws cs q) with
  | none => rw [h1] at h; cases h
  | some x =>
    have k := leL_ok hg h1
    rw [ev_c] at k
    rw [k]
    cases h2 : mostO (leadL ws cs q) q with
    | none =>
      rw [h1, h2] at h
      cases x with
      | true => cases h
      | false =>
        cases h
        rfl
    | some y =>
      rw [h1, h2] at h
      rw [most_ok hg h2]
      cases x <;> (cases h; rfl)
def priceO (ws : List Str) (qs : List QL) (cs : List Ln) (rest : List Str) (many : Ln) : Option (Option Ln) := match anyO (fun c => ltL many c) cs with
  | none => none
  | some true => some none
  | some false => match anyO (fun p => if p.1 ∈ rest then neO p.2 else some false) (ws.zip cs) with
    | none => none
    | some true => some none
    | some false => match allO (goodO ws cs) qs with
      | none => none
      | some false => some none
      | some true => match silO ws qs cs many (ws.zip cs) [] with
        | none => none
        | some none => some none
        | some (some ls) => match sumO ws cs qs with
          | none => none
          | some s => some (some (addL s (totL ls)))
theorem zip_ev {g : Int} : ∀ {ws : List Str} {cs : List Ln}, ws.zip (cs.map (ev g)) = (ws.zip cs).map fun p => (p.1, ev g p.2)
  | [], _ => rfl
  | _ :: _, [] => rfl
  | w :: ws, c :: cs => by
    rw [List.map_cons, List.zip_cons_cons, List.zip_cons_cons, List.map_cons, zip_ev]
theorem price_ok {g : Int} (hg : 1 ≤ g) {ws : List Str} {qs : List QL} {cs : List Ln} {rest : List Str} {many : Ln} {r : Option Ln} (h : priceO ws qs cs rest many = some r) : priceF ws (qs.map (evQ g)) (cs.map (ev g)) rest (ev g many) = r.map (ev g) := by
  unfold priceO at h
  cases h1 : anyO (fun c => ltL many c) cs with
  | none => rw [h1] at h; cases h
  | some b1 =>
    have k1 : ((cs.map (ev g)).any fun c => decide (ev g many < c)) = b1 := by
      rw [List.any_map]
      exact any_ok (fun c _ r hr => ltL_ok hg hr) h1
    rw [h1] at h
    have no : leftF ws (qs.map (evQ g)) (cs.map (ev g)) rest (ev g many) = false → r = none → priceF ws (qs.map (evQ g)) (cs.map (ev g)) rest (ev g many) = r.map (ev g) := fun hl hr => by
      unfold priceF
      rw [hl, if_neg (by decide), hr]
      rfl
    cases b1 with
    | true =>
      cases h
      exact no (by unfold leftF; rw [k1]; rfl) rfl
    | false =>
      cases h2 : anyO (fun p => if p.1 ∈ rest then neO p.2 else some false) (ws.zip cs) with
      | none =>
        have h : (match anyO (fun p => if p.1 ∈ rest then neO p.2 else some false) (ws.zip cs) with
          | none => none
          | some true => some none
          | some false => match allO (goodO ws cs) qs with
            | none => none
            | some false => some none
            | some true => match silO ws qs cs many (ws.zip cs) [] with
              | none => none
              | some none => some none
              | some (some ls) => match sumO ws cs qs with
                | none => none
                | some s => some (some (addL s (totL ls)))) = some r := h
        rw [h2] at h
        cases h
      | some b2 =>
        have k2 : restB ws (cs.map (ev g)) rest = b2 := by
          unfold restB
          rw [zip_ev, List.any_map]
          refine any_ok (fun p _ r hr => ?_) h2
          show (decide (p.1 ∈ rest) && decide (ev g p.2 ≠ 0)) = r
          by_cases c : p.1 ∈ rest
          · rw [if_pos c] at hr
            rw [decide_eq_true c, Bool.true_and]
            exact ne_ok hg hr
          · rw [if_neg c] at hr
            cases hr
            rw [decide_eq_false c, Bool.false_and]
        have h : (match anyO (fun p => if p.1 ∈ rest then neO p.2 else some false) (ws.zip cs) with
          | none => none
          | some true => some none
          | some false => match allO (goodO ws cs) qs with
            | none => none
            | some false => some none
            | some true => match silO ws qs cs many (ws.zip cs) [] with
              | none => none
              | some none => some none
              | some (some ls) => match sumO ws cs qs with
                | none => none
                | some s => some (some (addL s (totL ls)))) = some r := h
        rw [h2] at h
        cases b2 with
        | true =>
          cases h
          exact no (by unfold leftF canF; rw [k1, k2]; rfl) rfl
        | false =>
          have h : (match allO (goodO ws cs) qs with
            | none => none
            | some false => some none
            | some true => match silO ws qs cs many (ws.zip cs) [] with
              | none => none
              | some none => some none
              | some (some ls) => match sumO ws cs qs with
                | none => none
                | some s => some (some (addL s (totL ls)))) = some r := h
          cases h3 : allO (goodO ws cs) qs with
          | none => rw [h3] at h; cases h
          | some b3 =>
            have k3 : ((qs.map (evQ g)).all fun q => decide (0 ≤ leadQ ws (cs.map (ev g)) q) && decide (leadQ ws (cs.map (ev g)) q ≤ mostQ q)) = b3 := by
              rw [List.all_map]
              exact all_ok (fun q _ r hr => good_ok hg hr) h3
            rw [h3] at h
            cases b3 with
            | false =>
              cases h
              exact no (by unfold leftF canF; rw [k1, k2, k3]; rfl) rfl
            | true =>
              have h : (match silO ws qs cs many (ws.zip cs) [] with
                | none => none
                | some none => some none
                | some (some ls) => match sumO ws cs qs with
                  | none => none
                  | some s => some (some (addL s (totL ls)))) = some r := h
              cases h4 : silO ws qs cs many (ws.zip cs) [] with
              | none => rw [h4] at h; cases h
              | some b4 =>
                have k4 : silF ws (qs.map (evQ g)) (cs.map (ev g)) (ev g many) = b4.map (List.map (ev g)) := by
                  unfold silF
                  rw [zip_ev]
                  exact sil_ok hg h4
                rw [h4] at h
                cases b4 with
                | none =>
                  cases h
                  exact no (by unfold leftF; rw [k4, Option.map_none, Option.isSome_none, Bool.and_false]) rfl
                | some ls =>
                  have h : (match sumO ws cs qs with
                    | none => none
                    | some s => some (some (addL s (totL ls)))) = some r := h
                  cases h5 : sumO ws cs qs with
                  | none => rw [h5] at h; cases h
                  | some s =>
                    rw [h5] at h
                    cases h
                    have hl : leftF ws (qs.map (evQ g)) (cs.map (ev g)) rest (ev g many) = true := by
                      unfold leftF canF
                      rw [k1, k2, k3, k4]
                      rfl
                    unfold priceF
                    rw [if_pos hl, k4]
                    show some _ = some _
                    rw [sum_ok hg h5, tot_ok, ← ev_add]
def smallL (l : Ln) : Bool := decide (0 ≤ l.1) && decide (l.1 ≤ 100) && decide (0 ≤ l.1 + l.2) && decide (l.2 ≤ 100)
theorem small_ok {g : Int} (hg : 1 ≤ g) (hg2 : g ≤ 10 ^ 40) {l : Ln} (h : smallL l = true) : 0 ≤ ev g l ∧ ev g l ≤ 10 ^ 60 := by
  unfold smallL at h
  simp only [Bool.and_eq_true, decide_eq_true_eq] at h
  obtain ⟨⟨⟨h1, h2⟩, h3⟩, h4⟩ := h
  have a1 : l.1 * 1 ≤ l.1 * g := Int.mul_le_mul_of_nonneg_left hg h1
  have a2 : l.1 * g ≤ 100 * g := Int.mul_le_mul_of_nonneg_right h2 (by omega)
  unfold ev
  omega
def casB (ws : List Str) (qs : List QL) (cs : List Ln) (many : Ln) (d : Option Ln) (r : List Str) : Bool := decide ws.Nodup && decide (ws.length ≤ 60) && decide (qs.length ≤ 60) && decide (cs.length = ws.length) && (qs.all fun q => decide (q.st ∈ ws) && decide (q.en ∈ ws) && smallL q.gap && smallL q.room && PyData.strOk q.nm) && (ws.all fun x => PyData.strOk x) && decide (runP (qs.map fun q => (q.st, q.en)) 20 0 ws = some r) && decide (priceO ws qs cs (ws.filter fun x => decide (x ∈ r)) many = some d)
theorem cas_ok {g : Int} (hg : 1 ≤ g) (hg2 : g ≤ 10 ^ 40) {ws : List Str} {qs : List QL} {cs : List Ln} {many : Ln} {d : Option Ln} {r : List Str} (h : casB ws qs cs many d r = true) : Cas ws (qs.map (evQ g)) (cs.map (ev g)) (ev g many) (d.map (ev g)) := by
  unfold casB at h
  simp only [Bool.and_eq_true, decide_eq_true_eq, List.all_eq_true] at h
  obtain ⟨⟨⟨⟨⟨⟨⟨h1, h2⟩, h3⟩, h4⟩, h5⟩, h6⟩, h7⟩, h8⟩ := h
  refine ⟨⟨h1, by omega, by rw [List.length_map]; omega, by rw [List.length_map]; exact h4, fun q hq => ?_⟩, h2, by rw [List.length_map]; exact h3, fun q hq => ?_, h6, fun q hq => ?_, r, idl_run (k := 20) ?_, price_ok hg h8⟩
  · obtain ⟨q', hq', rfl⟩ := List.mem_map.mp hq
    exact (h5 q' hq').1.1.1
  · obtain ⟨q', hq', rfl⟩ := List.mem_map.mp hq
    have := h5 q' hq'
    have a := small_ok hg hg2 this.1.1.2
    have b := small_ok hg hg2 this.1.2
    exact ⟨a.1, a.2, b.1, b.2⟩
  · obtain ⟨q', hq', rfl⟩ := List.mem_map.mp hq
    exact (h5 q' hq').2
  · rw [List.map_map]
    exact h7
/-! ### g = 1 apart -/
def shL (l : Ln) : Ln := (l.1, l.1 + l.2)
def onL (l : Ln) : Ln := (0, l.1 + l.2)
def mpQ (f : Ln → Ln) (q : QL) : QL := ⟨q.nm, q.st, q.en, f q.room, f q.gap⟩
theorem sh_ok {g : Int} {l : Ln} : ev (g - 1) (shL l) = ev g l := by
  show l.1 * (g - 1) + (l.1 + l.2) = l.1 * g + l.2
  rw [Int.mul_sub]
  omega
theorem on_ok {l : Ln} : ev 1 (onL l) = ev 1 l := by
  show 0 * 1 + (l.1 + l.2) = l.1 * 1 + l.2
  omega
def casB2 (ws : List Str) (qs : List QL) (cs : List Ln) (many : Ln) (d : Option Ln) (r : List Str) : Bool := casB ws (qs.map (mpQ shL)) (cs.map shL) (shL many) (d.map shL) r && casB ws (qs.map (mpQ onL)) (cs.map onL) (onL many) (d.map onL) r
theorem map_by {g g' : Int} {f : Ln → Ln} (hf : ∀ l, ev g' (f l) = ev g l) {ws : List Str} {qs : List QL} {cs : List Ln} {many : Ln} {d : Option Ln} (c : Cas ws ((qs.map (mpQ f)).map (evQ g')) ((cs.map f).map (ev g')) (ev g' (f many)) ((d.map f).map (ev g'))) : Cas ws (qs.map (evQ g)) (cs.map (ev g)) (ev g many) (d.map (ev g)) := by
  have e1 : (qs.map (mpQ f)).map (evQ g') = qs.map (evQ g) := by
    rw [List.map_map]
    apply List.map_congr_left
    intro q _
    show (⟨q.nm, q.st, q.en, ev g' (f q.room), ev g' (f q.gap)⟩ : QD) = ⟨q.nm, q.st, q.en, ev g q.room, ev g q.gap⟩
    rw [hf, hf]
  have e2 : (cs.map f).map (ev g') = cs.map (ev g) := by
    rw [List.map_map]
    exact List.map_congr_left fun l _ => hf l
  have e3 : (d.map f).map (ev g') = d.map (ev g) := by
    cases d with
    | none => rfl
    | some l => exact congrArg some (hf l)
  rw [e1, e2, e3, hf] at c
  exact c
theorem cas_ok2 {g : Int} (hg : 1 ≤ g) (hg2 : g ≤ 10 ^ 40) {ws : List Str} {qs : List QL} {cs : List Ln} {many : Ln} {d : Option Ln} {r : List Str} (h : casB2 ws qs cs many d r = true) : Cas ws (qs.map (evQ g)) (cs.map (ev g)) (ev g many) (d.map (ev g)) := by
  unfold casB2 at h
  rw [Bool.and_eq_true] at h
  by_cases e : g = 1
  · subst e
    exact map_by (fun l => on_ok) (cas_ok (by decide) (by decide) h.2)
  · exact map_by (fun l => sh_ok) (cas_ok (g := g - 1) (by omega) (by omega) h.1)
end Jl

set_option Elab.async false
set_option linter.all false
set_option maxRecDepth 100000
set_option maxHeartbeats 1000000
set_option pp.maxSteps 300
namespace Jl
open PySem PySem.Spec PyProof.Rows L2
open Evl (sz_of sz_lt)
local macro_rules | `(tactic| walk_at "at") => `(tactic| first | exact box0 | exact box1 | exact box2)
local macro_rules | `(tactic| walk_at "sq") => `(tactic| first | (show SqL _ _ _ _; assumption) | (show SqT _ _ _ _; assumption) | (show _ = some _; assumption))
local macro_rules | `(tactic| walk_at "side") => `(tactic| first
  | (show (0 : Int) < _; decide)
  | (show (0 : Int) < _; omega)
  | exact ⟨by decide, by decide, by decide⟩
  | exact sz_of (Nat.le_of_ble_eq_true rfl)
  | exact rfl
  | exact Or.inl (by decide)
  | exact Or.inr (by decide)
  | exact Or.inr ⟨by omega, by omega⟩
  | exact Or.inl ⟨by omega, by omega⟩
  | exact ⟨by decide, by decide +kernel⟩)
local macro_rules | `(tactic| walk_at "ev1") => `(tactic| first
  | refine ⟨_, rfl, ?_⟩
  | refine ⟨_, _, rfl, rfl, ?_⟩
  | refine ⟨_, _, _, _, rfl, rfl, (by walk_at "sq"), (by walk_at "at"), ?_⟩
  | refine ⟨_, _, rfl, (by walk_at "sq"), ?_⟩
  | refine ⟨_, _, rfl, Or.inl (by walk_at "sq"), ?_⟩
  | refine ⟨_, _, rfl, Or.inr (by walk_at "sq"), ?_⟩
  | refine Or.inl ⟨_, rfl, ?_⟩
  | refine Or.inr ⟨_, rfl, ?_⟩
  | refine ⟨(by walk_at "side"), ?_⟩
  | refine ⟨.inl ⟨rfl, _, (by walk_at "sq")⟩, ?_⟩
  | refine ⟨_, _, rfl, ?_⟩)
local macro_rules | `(tactic| walk_at "nrm") => `(tactic| dsimp only [tNil, tCons, tC, tCB])
local macro_rules | `(tactic| walk_at "ev") => `(tactic| repeat (walk_at "ev1"))

abbrev sc_w_fork_N : List Str := ["_law_g", "_law_one", "_law_two"]
abbrev s_w_fork : Stmt := topS 21
theorem sc_w_fork : FnScope ["_law_g", "_law_one", "_law_two"] ["_law_g"] (defScope s_w_fork) := ⟨rfl, rfl, rfl, by decide +kernel, rfl, by decide +kernel, by decide +kernel⟩
abbrev sc_w_forks_right_N : List Str := ["_law_g", "_law_web", "_law_fine", "_law_some", "_law_most", "_law_row", "_law_due"]
abbrev s_w_forks_right : Stmt := topS 22
theorem sc_w_forks_right : FnScope ["_law_g", "_law_web", "_law_fine", "_law_some", "_law_most", "_law_row", "_law_due"] ["_law_g"] (defScope s_w_forks_right) := ⟨rfl, rfl, rfl, by decide +kernel, rfl, by decide +kernel, by decide +kernel⟩
abbrev Cs := Ln × List Ln × Option Ln
def caseD (g : Int) (c : Cs) : PyData := .tuple [.int (ev g c.1), seqD true ((c.2.1.map (ev g)).map PyData.int), optD (c.2.2.map (ev g))]
def wF : List Str := [sA, sD, sS]
def wT : List Str := [sA, sS]
def fkA : List QL := [⟨sP, sS, sA, (3, 0), (2, 1)⟩, ⟨sQ, sA, sD, (3, 0), (2, 1)⟩, ⟨sR, sS, sD, (4, 0), (0, 1)⟩]
def fkB : List QL := [⟨sP, sS, sA, (4, 0), (4, 0)⟩, ⟨sQ, sA, sD, (3, 0), (3, 0)⟩, ⟨sR, sS, sD, (4, 0), (0, 2)⟩]
def fkC : List QL := [⟨sP, sS, sA, (2, 0), (1, 1)⟩, ⟨sQ, sS, sA, (9, 0), (2, 1)⟩]
def cs1 : List Cs := [((9, 0), [(2, 0), (0, 0), (4, 0)], some (4, 0)), ((9, 0), [(3, 0), (1, 0), (5, 0)], some (4, 0)), ((9, 0), [(2, 0), (1, 0), (5, 0)], none)]
def cs2 : List Cs := [((9, 0), [(9, 0), (9, 0), (9, 0)], some (0, 0)), ((4, 0), [(2, 0), (0, 0), (4, 0)], some (4, 0))]
def cs3 : List Cs := [((4, -1), [(2, 0), (0, 0), (4, 0)], none)]
def cs4 : List Cs := [((9, 0), [(2, 0), (0, 0), (4, -1)], none), ((4, -1), [(2, -1), (0, 0), (4, -1)], some (4, -1))]
def cs5 : List Cs := [((9, 0), [(3, 0), (0, 0), (3, 0)], none), ((9, 0), [(2, 1), (0, 1), (4, 1)], some (4, 0))]
def cs6 : List Cs := [((9, 0), [(2, 1), (0, 0), (4, 0)], none), ((0, 0), [(0, 0), (0, 0), (0, 0)], some (0, 0))]
def ct1 : List Cs := [((1, 0), [(0, 0), (1, 0)], some (1, 0)), ((2, 0), [(0, 0), (2, 0)], some (2, 0)), ((3, 0), [(0, 0), (2, 0)], some (2, 0))]
def ct2 : List Cs := [((3, 0), [(0, 0), (2, 1)], none), ((1, 0), [(1, 0), (0, 0)], none)]
theorem cs_ok : ((((((cs1 ++ cs2) ++ cs3) ++ cs4) ++ cs5) ++ cs6).all fun c => casB2 wF fkA c.2.1 c.1 c.2.2 []) = true := by decide +kernel
theorem one_ok : casB2 wF fkB [(2, 0), (0, 0), (4, 1)] (9, 0) (some (4, 2)) [] = true := by decide +kernel
theorem ct_ok : ((ct1 ++ ct2).all fun c => casB2 wT fkC c.2.1 c.1 c.2.2 []) = true := by decide +kernel
section
variable {K : PySem.W.Frag} {S : List Addr} {H0 : Hp} {σ : L2.St}
theorem ic_to {te : TE} {i j : Int} (h : IsC K S H0 te (.int i) σ) (e : i = j) : IsC K S H0 te (.int j) σ := e ▸ h
theorem ic_says {E : XK} {t : TA} {H0 : Hp} {ws : List Str} {qs : List QD} {cs : List Int} {many : Int} {d : Option Int} (h : AreC K [] H0 t [netD true ws qs, .int many, seqD true (cs.map PyData.int), optD d] σ) (c : Cas ws qs cs many d) : IsC K [] H0 (tCall (spSays K) [] E t) (.bool true) σ := fun H Q e tr k =>
  h H _ e tr fun H1 vs s1 hd => by
    rw [cutS_nil] at hd
    cases hd with
    | cons h1 hd =>
      cases hd with
      | cons h2 hd =>
        cases hd with
        | cons h3 hd =>
          cases hd with
          | cons h4 hd =>
            cases hd
            cases h2
            cases opt_dp h4
            exact ⟨_, _, ws, qs, cs, many, d, rfl, h1, h3, c, fun H2 s2 => k H2 _ (s1.trans s2) (.bl true)⟩
theorem loop_says {E : XK} {D : Ends} {H0 : Hp} {n : Nat} (hn : n = 3) {ws : List Str} {qs : List QL} {g : Int} (hg : 1 ≤ g) (hg2 : g ≤ 10 ^ 40) {r : List Str} {cases : List Cs} {v vl : V} (hD : Dp K H0 v (netD true ws (qs.map (evQ g)))) (hl : Dp K H0 vl (.list (cases.map (caseD g)))) (hc : (cases.all fun c => casB2 ws qs c.2.1 c.1 c.2.2 r) = true) {x4 x5 x6 : Option V}
    (q : ∀ x4 x5 x6 Hc, Same H0 Hc → D.nx [some (.int g), some v, some (.bl true), some vl, x4, x5, x6] Hc) :
    tForX (iSeq K (tVar 3)) (gTup K n (gCons (gName 4) (gCons (gName 5) (gCons (gName 6) gNil)))) (tAsg (tAndV (tVar 2) (tCall (spSays K) [] E (tCons (tVar 1) (tCons (tVar 4) (tCons (tVar 5) (tCons (tVar 6) tNil)))))) (gName 2)) D [some (.int g), some v, some (.bl true), some vl, x4, x5, x6] H0 := by
  subst hn
  obtain ⟨l, ys, rfl, hs, hy⟩ := Dp.seq_of (f := false) hl
  refine for_of ?_
  refine iSeq_at (fun R' q' => ⟨_, rfl, q'⟩) hs fun J w => ?_
  refine forR_it w (fun i σ Hc => ∃ x4 x5 x6, σ = [some (.int g), some v, some (.bl true), some (.ref l), x4, x5, x6] ∧ Same H0 Hc) ⟨_, _, _, rfl, fun _ _ e => e⟩ (fun i σ Hc _ hh => ?_) (fun i x σ Hc Hc' hi hh y => ?_) (fun σ Hc hh => ?_)
  · obtain ⟨_, _, _, _, e⟩ := hh
    exact e.sqF hs
  · obtain ⟨x4, x5, x6, rfl, e⟩ := hh
    obtain ⟨rfl, hx⟩ := y
    obtain ⟨d, hd, hxd⟩ := dpa_get hy hx
    rw [List.getElem?_map] at hd
    cases hz : cases[i]? with
    | none =>
      rw [hz] at hd
      cases hd
    | some z =>
      rw [hz] at hd
      cases hd
      have hcz := List.all_eq_true.mp hc z (List.mem_of_getElem? hz)
      have hcas := cas_ok2 hg hg2 hcz
      obtain ⟨t0, xt, rfl, ht, hxt⟩ := Dp.seq_of (f := true) (e.dp hxd)
      have ht : SqT K Hc' t0 xt := ht
      cases hxt with
      | cons k1 hxt =>
        cases hxt with
        | cons k2 hxt =>
          cases hxt with
          | cons k3 hxt =>
            cases hxt
            cases k1
            refine ⟨t0, _, rfl, ht, rfl, _, _, rfl, _, _, rfl, _, _, rfl, rfl, ?_⟩
            refine (ic_and (K := K) (S := []) (H0 := Hc') (ic_var rfl (.bl true)) (ic_says (ac_cons (ic_var rfl (by rw [cutS_nil]; exact e.dp hD)) (ac_cons (ic_var rfl (.int _)) (ac_cons (ic_var rfl (by rw [cutS_nil]; exact k2)) (ac_cons (ic_var rfl (by rw [cutS_nil]; exact k3)) ac_nil)))) hcas)) Hc' _ (fun _ _ e => e) Trk.nil fun H2 u s2 hu => ?_
            cases hu
            exact ⟨_, _, _, rfl, e.trans s2⟩
  · obtain ⟨x4, x5, x6, rfl, e⟩ := hh
    exact q _ _ _ _ e
theorem loop_seq {E : XK} {D : Ends} {u : TS} {H0 : Hp} {n : Nat} (hn : n = 3) {ws : List Str} {qs : List QL} {g : Int} (hg : 1 ≤ g) (hg2 : g ≤ 10 ^ 40) {r : List Str} {cases : List Cs} {v vl : V} (hD : Dp K H0 v (netD true ws (qs.map (evQ g)))) (hl : Dp K H0 vl (.list (cases.map (caseD g)))) (hc : (cases.all fun c => casB2 ws qs c.2.1 c.1 c.2.2 r) = true) {x4 x5 x6 : Option V}
    (q : ∀ x4 x5 x6 Hc, Same H0 Hc → u D [some (.int g), some v, some (.bl true), some vl, x4, x5, x6] Hc) :
    tSeq (tForX (iSeq K (tVar 3)) (gTup K n (gCons (gName 4) (gCons (gName 5) (gCons (gName 6) gNil)))) (tAsg (tAndV (tVar 2) (tCall (spSays K) [] E (tCons (tVar 1) (tCons (tVar 4) (tCons (tVar 5) (tCons (tVar 6) tNil)))))) (gName 2))) u D [some (.int g), some v, some (.bl true), some vl, x4, x5, x6] H0 :=
  loop_says (D := { D with nx := u D }) hn hg hg2 hD hl hc q

end
section
variable {P : Program} {w : World} {K : PySem.W.Frag} {mg : Str → Option Value} {base : Heap}
def spFork (K : PySem.W.Frag) : Sp := fun vs H Q _ => ∃ (g : Int), vs = [.int g] ∧ ∀ H' v, Same H H' → Dp K H' v (netD true wF (fkA.map (evQ g))) → Q v H'
theorem ok_w_fork {f : Addr} {fd : FuncData} {k : Nat} (F : Fun K "_law_fork" "_law_fork" s_w_fork f fd) : FnOk P w K mg base CX0 (k + 1) f fd ["_law_g"] (spFork K) := by
  refine F.ok sc_w_fork (fun vs H Q E h => ?_) (fun cdv A outer s0 H vs Q E hr h => ?_)
  · obtain ⟨g, rfl, _⟩ := h
    rfl
  · obtain ⟨g, rfl, q⟩ := h
    refine ⟨_, (pss_cons (ps_par (i := 1) (j := 2) (by rfl) sc_w_fork.nd rfl rfl (by decide) rfl rfl (pa_cons (pe_tup (pa_cons pe_str (pa_cons pe_str (pa_cons pe_str (pa_cons (pe_op op_mul pe_int (pv 0)) (pa_cons (pe_op op_add (pe_op op_mul pe_int (pv 0)) pe_int) pa_nil)))))) (pa_cons (pe_tup (pa_cons pe_str (pa_cons pe_str (pa_cons pe_str (pa_cons (pe_op op_mul pe_int (pv 0)) (pa_cons (pe_op op_add (pe_op op_mul pe_int (pv 0)) pe_int) pa_nil)))))) pa_nil)) (by rfl)) 
    (pss_one (ps_ret (pe_tup (pa_cons (pe_tup (pa_cons pe_str (pa_cons pe_str (pa_cons pe_str pa_nil)))) (pa_cons (pe_tup (pa_cons (pv 1) (pa_cons (pv 2) (pa_cons (pe_tup (pa_cons pe_str (pa_cons pe_str (pa_cons pe_str (pa_cons (pe_op op_mul pe_int (pv 0)) (pa_cons pe_int pa_nil)))))) pa_nil)))) pa_nil)))))), ?_⟩
    refine par_ac (K := K) (d1 := QD.d true (evQ g ⟨sP, sS, sA, (3, 0), (2, 1)⟩)) (d2 := QD.d true (evQ g ⟨sQ, sA, sD, (3, 0), (2, 1)⟩)) (ac_cons (ic_tup (ac_cons ic_str (ac_cons ic_str (ac_cons ic_str (ac_cons (ic_to (ic_mul (.inl ⟨by decide, by decide⟩) ic_int (ic_var (i := 0) rfl (.int _))) (by show _ = (3 : Int) * g + (0 : Int); omega)) (ac_cons (ic_to (ic_add (ic_mul (.inl ⟨by decide, by decide⟩) ic_int (ic_var (i := 0) rfl (.int _))) ic_int) (by show _ = (2 : Int) * g + (1 : Int); omega)) ac_nil))))) (by show 5 ≤ 1000; decide)) (ac_cons (ic_tup (ac_cons ic_str (ac_cons ic_str (ac_cons ic_str (ac_cons (ic_to (ic_mul (.inl ⟨by decide, by decide⟩) ic_int (ic_var (i := 0) rfl (.int _))) (by show _ = (3 : Int) * g + (0 : Int); omega)) (ac_cons (ic_to (ic_add (ic_mul (.inl ⟨by decide, by decide⟩) ic_int (ic_var (i := 0) rfl (.int _))) ic_int) (by show _ = (2 : Int) * g + (1 : Int); omega)) ac_nil))))) (by show 5 ≤ 1000; decide)) ac_nil)) fun H1 v1 v2 s1 k1 k2 => ?_
    try dsimp only [List.set]
    refine ret_ic (K := K) (d := netD true wF (fkA.map (evQ g))) (ic_tup (ac_cons (ic_tup (ac_cons ic_str (ac_cons ic_str (ac_cons ic_str ac_nil))) (by show 3 ≤ 1000; decide)) (ac_cons (ic_tup (ac_cons (ic_var rfl (by rw [cutS_nil]; exact k1)) (ac_cons (ic_var rfl (by rw [cutS_nil]; exact k2)) (ac_cons (ic_tup (ac_cons ic_str (ac_cons ic_str (ac_cons ic_str (ac_cons (ic_to (ic_mul (.inl ⟨by decide, by decide⟩) ic_int (ic_var (i := 0) rfl (.int _))) (by show _ = (4 : Int) * g + (0 : Int); omega)) (ac_cons (ic_to ic_int (by show _ = (0 : Int) * g + (1 : Int); omega)) ac_nil))))) (by show 5 ≤ 1000; decide)) ac_nil))) (by show 3 ≤ 1000; decide)) ac_nil)) (by show 2 ≤ 1000; decide)) fun H2 v s2 hv => ?_
    exact q H2 v (s1.trans s2) hv
def spG (K : PySem.W.Frag) : Sp := fun vs H Q _ => ∃ (g : Int), vs = [.int g] ∧ 1 ≤ g ∧ g ≤ 10 ^ 40 ∧ ∀ H', Same H H' → Q (.bl true) H'
theorem ok_w_forks_right {f fK fY : Addr} {fd fdK fdY : FuncData} {k : Nat} (F : Fun K "_law_forks_right" "_law_forks_right" s_w_forks_right f fd)
    (G_w_fork : FnOk P w K mg base CX0 k fK fdK ["_law_g"] (spFork K)) (g_w_fork : mg "_law_fork" = some (.ref fK)) (F_w_fork : Fun K "_law_fork" "_law_fork" s_w_fork fK fdK) (b_w_fork : Binds K fdK ["_law_g"] [])
    (G_w_says : FnOk P w K mg base CX0 k fY fdY ["_law_web", "_law_most", "_law_row", "_law_due"] (spSays K)) (g_w_says : mg "_law_says" = some (.ref fY)) (F_w_says : Fun K "_law_says" "_law_says" s_w_says fY fdY) (b_w_says : Binds K fdY ["_law_web", "_law_most", "_law_row", "_law_due"] []) :
    FnOk P w K mg base CX0 (k + 1) f fd ["_law_g"] (spG K) := by
  refine F.ok sc_w_forks_right (fun vs H Q E h => ?_) (fun cdv A outer s0 H vs Q E hr h => ?_)
  · obtain ⟨g, rfl, _⟩ := h
    rfl
  · obtain ⟨g, rfl, hg, hg2, q⟩ := h
    refine ⟨_, (pss_cons (ps_par (i := 1) (j := 2) (by rfl) sc_w_forks_right.nd rfl rfl (by decide) rfl rfl (pa_cons (pe_call G_w_fork hr (by rfl) g_w_fork F_w_fork.kp b_w_fork .nil pass0 (pa_cons (pv 0) pa_nil)) (pa_cons pe_bl pa_nil)) (by rfl)) 
    (pss_cons (ps_set (i := 3) sc_w_forks_right.nd rfl (Or.inl rfl) (pe_lst (pa_cons (pe_tup (pa_cons (pe_op op_mul pe_int (pv 0)) (pa_cons (pe_tup (pa_cons (pe_op op_mul pe_int (pv 0)) (pa_cons pe_int (pa_cons (pe_op op_mul pe_int (pv 0)) pa_nil)))) (pa_cons (pe_op op_mul pe_int (pv 0)) pa_nil)))) (pa_cons (pe_tup (pa_cons (pe_op op_mul pe_int (pv 0)) (pa_cons (pe_tup (pa_cons (pe_op op_mul pe_int (pv 0)) (pa_cons (pv 0) (pa_cons (pe_op op_mul pe_int (pv 0)) pa_nil)))) (pa_cons (pe_op op_mul pe_int (pv 0)) pa_nil)))) (pa_cons (pe_tup (pa_cons (pe_op op_mul pe_int (pv 0)) (pa_cons (pe_tup (pa_cons (pe_op op_mul pe_int (pv 0)) (pa_cons (pv 0) (pa_cons (pe_op op_mul pe_int (pv 0)) pa_nil)))) (pa_cons pe_non pa_nil)))) pa_nil))))) 
    (pss_cons (ps_set (i := 3) sc_w_forks_right.nd rfl (Or.inl rfl) (pe_op op_catL (pv 3) (pe_lst (pa_cons (pe_tup (pa_cons (pe_op op_mul pe_int (pv 0)) (pa_cons (pe_tup (pa_cons (pe_op op_mul pe_int (pv 0)) (pa_cons (pe_op op_mul pe_int (pv 0)) (pa_cons (pe_op op_mul pe_int (pv 0)) pa_nil)))) (pa_cons pe_int pa_nil)))) (pa_cons (pe_tup (pa_cons (pe_op op_mul pe_int (pv 0)) (pa_cons (pe_tup (pa_cons (pe_op op_mul pe_int (pv 0)) (pa_cons pe_int (pa_cons (pe_op op_mul pe_int (pv 0)) pa_nil)))) (pa_cons (pe_op op_mul pe_int (pv 0)) pa_nil)))) pa_nil))))) 
    (pss_cons (ps_set (i := 3) sc_w_forks_right.nd rfl (Or.inl rfl) (pe_op op_catL (pv 3) (pe_lst (pa_cons (pe_tup (pa_cons (pe_op op_sub (pe_op op_mul pe_int (pv 0)) pe_int) (pa_cons (pe_tup (pa_cons (pe_op op_mul pe_int (pv 0)) (pa_cons pe_int (pa_cons (pe_op op_mul pe_int (pv 0)) pa_nil)))) (pa_cons pe_non pa_nil)))) pa_nil)))) 
    (pss_cons (ps_set (i := 3) sc_w_forks_right.nd rfl (Or.inl rfl) (pe_op op_catL (pv 3) (pe_lst (pa_cons (pe_tup (pa_cons (pe_op op_mul pe_int (pv 0)) (pa_cons (pe_tup (pa_cons (pe_op op_mul pe_int (pv 0)) (pa_cons pe_int (pa_cons (pe_op op_sub (pe_op op_mul pe_int (pv 0)) pe_int) pa_nil)))) (pa_cons pe_non pa_nil)))) (pa_cons (pe_tup (pa_cons (pe_op op_sub (pe_op op_mul pe_int (pv 0)) pe_int) (pa_cons (pe_tup (pa_cons (pe_op op_sub (pe_op op_mul pe_int (pv 0)) pe_int) (pa_cons pe_int (pa_cons (pe_op op_sub (pe_op op_mul pe_int (pv 0)) pe_int) pa_nil)))) (pa_cons (pe_op op_sub (pe_op op_mul pe_int (pv 0)) pe_int) pa_nil)))) pa_nil))))) 
    (pss_cons (ps_set (i := 3) sc_w_forks_right.nd rfl (Or.inl rfl) (pe_op op_catL (pv 3) (pe_lst (pa_cons (pe_tup (pa_cons (pe_op op_mul pe_int (pv 0)) (pa_cons (pe_tup (pa_cons (pe_op op_mul pe_int (pv 0)) (pa_cons pe_int (pa_cons (pe_op op_mul pe_int (pv 0)) pa_nil)))) (pa_cons pe_non pa_nil)))) (pa_cons (pe_tup (pa_cons (pe_op op_mul pe_int (pv 0)) (pa_cons (pe_tup (pa_cons (pe_op op_add (pe_op op_mul pe_int (pv 0)) pe_int) (pa_cons pe_int (pa_cons (pe_op op_add (pe_op op_mul pe_int (pv 0)) pe_int) pa_nil)))) (pa_cons (pe_op op_mul pe_int (pv 0)) pa_nil)))) pa_nil))))) 
    (pss_cons (ps_set (i := 3) sc_w_forks_right.nd rfl (Or.inl rfl) (pe_op op_catL (pv 3) (pe_lst (pa_cons (pe_tup (pa_cons (pe_op op_mul pe_int (pv 0)) (pa_cons (pe_tup (pa_cons (pe_op op_add (pe_op op_mul pe_int (pv 0)) pe_int) (pa_cons pe_int (pa_cons (pe_op op_mul pe_int (pv 0)) pa_nil)))) (pa_cons pe_non pa_nil)))) (pa_cons (pe_tup (pa_cons pe_int (pa_cons (pe_tup (pa_cons pe_int (pa_cons pe_int (pa_cons pe_int pa_nil)))) (pa_cons pe_int pa_nil)))) pa_nil))))) 
    (pss_cons (ps_forX (ps_for PassesOwn.never rfl (pi_seq (pv 3)) (pg_tup rfl (pgs_cons (pg_name (i := 4) sc_w_forks_right.nd rfl (Or.inl rfl)) (pgs_cons (pg_name (i := 5) sc_w_forks_right.nd rfl (Or.inl rfl)) (pgs_cons (pg_name (i := 6) sc_w_forks_right.nd rfl (Or.inl rfl)) pgs_nil)))) (pss_one (ps_set (i := 2) sc_w_forks_right.nd rfl (Or.inl rfl) (pe_and (pv 2) (pe_one (pe_call G_w_says hr (by rfl) g_w_says F_w_says.kp b_w_says .nil pass0 (pa_cons (pv 1) (pa_cons (pv 4) (pa_cons (pv 5) (pa_cons (pv 6) pa_nil))))))))))) 
    (pss_cons (ps_set (i := 1) sc_w_forks_right.nd rfl (Or.inl rfl) (pe_tup (pa_cons (pe_ix ix_lt (pv 1) pe_int (fun _ _ => rfl)) (pa_cons (pe_tup (pa_cons (pe_tup (pa_cons pe_str (pa_cons pe_str (pa_cons pe_str (pa_cons (pe_op op_mul pe_int (pv 0)) (pa_cons (pe_op op_mul pe_int (pv 0)) pa_nil)))))) (pa_cons (pe_tup (pa_cons pe_str (pa_cons pe_str (pa_cons pe_str (pa_cons (pe_op op_mul pe_int (pv 0)) (pa_cons (pe_op op_mul pe_int (pv 0)) pa_nil)))))) (pa_cons (pe_tup (pa_cons pe_str (pa_cons pe_str (pa_cons pe_str (pa_cons (pe_op op_mul pe_int (pv 0)) (pa_cons pe_int pa_nil)))))) pa_nil)))) pa_nil)))) 
    (pss_cons (ps_set (i := 2) sc_w_forks_right.nd rfl (Or.inl rfl) (pe_and (pv 2) (pe_one (pe_call G_w_says hr (by rfl) g_w_says F_w_says.kp b_w_says .nil pass0 (pa_cons (pv 1) (pa_cons (pe_op op_mul pe_int (pv 0)) (pa_cons (pe_tup (pa_cons (pe_op op_mul pe_int (pv 0)) (pa_cons pe_int (pa_cons (pe_op op_add (pe_op op_mul pe_int (pv 0)) pe_int) pa_nil)))) (pa_cons (pe_op op_add (pe_op op_mul pe_int (pv 0)) pe_int) pa_nil)))))))) 
    (pss_cons (ps_set (i := 1) sc_w_forks_right.nd rfl (Or.inl rfl) (pe_tup (pa_cons (pe_tup (pa_cons pe_str (pa_cons pe_str pa_nil))) (pa_cons (pe_tup (pa_cons (pe_tup (pa_cons pe_str (pa_cons pe_str (pa_cons pe_str (pa_cons (pe_op op_mul pe_int (pv 0)) (pa_cons (pe_op op_add (pv 0) pe_int) pa_nil)))))) (pa_cons (pe_tup (pa_cons pe_str (pa_cons pe_str (pa_cons pe_str (pa_cons (pe_op op_mul pe_int (pv 0)) (pa_cons (pe_op op_add (pe_op op_mul pe_int (pv 0)) pe_int) pa_nil)))))) pa_nil))) pa_nil)))) 
    (pss_cons (ps_set (i := 3) sc_w_forks_right.nd rfl (Or.inl rfl) (pe_lst (pa_cons (pe_tup (pa_cons (pv 0) (pa_cons (pe_tup (pa_cons pe_int (pa_cons (pv 0) pa_nil))) (pa_cons (pv 0) pa_nil)))) (pa_cons (pe_tup (pa_cons (pe_op op_mul pe_int (pv 0)) (pa_cons (pe_tup (pa_cons pe_int (pa_cons (pe_op op_mul pe_int (pv 0)) pa_nil))) (pa_cons (pe_op op_mul pe_int (pv 0)) pa_nil)))) (pa_cons (pe_tup (pa_cons (pe_op op_mul pe_int (pv 0)) (pa_cons (pe_tup (pa_cons pe_int (pa_cons (pe_op op_mul pe_int (pv 0)) pa_nil))) (pa_cons (pe_op op_mul pe_int (pv 0)) pa_nil)))) pa_nil))))) 
    (pss_cons (ps_set (i := 3) sc_w_forks_right.nd rfl (Or.inl rfl) (pe_op op_catL (pv 3) (pe_lst (pa_cons (pe_tup (pa_cons (pe_op op_mul pe_int (pv 0)) (pa_cons (pe_tup (pa_cons pe_int (pa_cons (pe_op op_add (pe_op op_mul pe_int (pv 0)) pe_int) pa_nil))) (pa_cons pe_non pa_nil)))) (pa_cons (pe_tup (pa_cons (pv 0) (pa_cons (pe_tup (pa_cons (pv 0) (pa_cons pe_int pa_nil))) (pa_cons pe_non pa_nil)))) pa_nil))))) 
    (pss_cons (ps_forX (ps_for PassesOwn.never rfl (pi_seq (pv 3)) (pg_tup rfl (pgs_cons (pg_name (i := 4) sc_w_forks_right.nd rfl (Or.inl rfl)) (pgs_cons (pg_name (i := 5) sc_w_forks_right.nd rfl (Or.inl rfl)) (pgs_cons (pg_name (i := 6) sc_w_forks_right.nd rfl (Or.inl rfl)) pgs_nil)))) (pss_one (ps_set (i := 2) sc_w_forks_right.nd rfl (Or.inl rfl) (pe_and (pv 2) (pe_one (pe_call G_w_says hr (by rfl) g_w_says F_w_says.kp b_w_says .nil pass0 (pa_cons (pv 1) (pa_cons (pv 4) (pa_cons (pv 5) (pa_cons (pv 6) pa_nil))))))))))) 
    (pss_one (ps_ret (pv 2))))))))))))))))), ?_⟩
    refine par_ac (K := K) (d1 := netD true wF (fkA.map (evQ g))) (d2 := .bool true) (ac_cons (fun H' Q' e _ q' => ⟨_, rfl, g, rfl, fun H2 v s2 hv => q' H2 v s2 (by rw [cutS_nil]; exact hv)⟩) (ac_cons ic_bl ac_nil)) fun H0 v v2 S hD kb => ?_
    cases kb
    try dsimp only [List.set]
    refine asg_ic (K := K) (d := .list (cs1.map (caseD g))) (ic_lst (ac_cons (ic_tup (ac_cons (ic_to (ic_mul (.inl ⟨by decide, by decide⟩) ic_int (ic_var (i := 0) rfl (.int _))) (by show _ = (9 : Int) * g + (0 : Int); omega)) (ac_cons (ic_tup (ac_cons (ic_to (ic_mul (.inl ⟨by decide, by decide⟩) ic_int (ic_var (i := 0) rfl (.int _))) (by show _ = (2 : Int) * g + (0 : Int); omega)) (ac_cons (ic_to ic_int (by show _ = (0 : Int) * g + (0 : Int); omega)) (ac_cons (ic_to (ic_mul (.inl ⟨by decide, by decide⟩) ic_int (ic_var (i := 0) rfl (.int _))) (by show _ = (4 : Int) * g + (0 : Int); omega)) ac_nil))) (by show 3 ≤ 1000; decide)) (ac_cons (ic_to (ic_mul (.inl ⟨by decide, by decide⟩) ic_int (ic_var (i := 0) rfl (.int _))) (by show _ = (4 : Int) * g + (0 : Int); omega)) ac_nil))) (by show 3 ≤ 1000; decide)) (ac_cons (ic_tup (ac_cons (ic_to (ic_mul (.inl ⟨by decide, by decide⟩) ic_int (ic_var (i := 0) rfl (.int _))) (by show _ = (9 : Int) * g + (0 : Int); omega)) (ac_cons (ic_tup (ac_cons (ic_to (ic_mul (.inl ⟨by decide, by decide⟩) ic_int (ic_var (i := 0) rfl (.int _))) (by show _ = (3 : Int) * g + (0 : Int); omega)) (ac_cons (ic_to (ic_var (i := 0) rfl (.int _)) (by show _ = (1 : Int) * g + (0 : Int); omega)) (ac_cons (ic_to (ic_mul (.inl ⟨by decide, by decide⟩) ic_int (ic_var (i := 0) rfl (.int _))) (by show _ = (5 : Int) * g + (0 : Int); omega)) ac_nil))) (by show 3 ≤ 1000; decide)) (ac_cons (ic_to (ic_mul (.inl ⟨by decide, by decide⟩) ic_int (ic_var (i := 0) rfl (.int _))) (by show _ = (4 : Int) * g + (0 : Int); omega)) ac_nil))) (by show 3 ≤ 1000; decide)) (ac_cons (ic_tup (ac_cons (ic_to (ic_mul (.inl ⟨by decide, by decide⟩) ic_int (ic_var (i := 0) rfl (.int _))) (by show _ = (9 : Int) * g + (0 : Int); omega)) (ac_cons (ic_tup (ac_cons (ic_to (ic_mul (.inl ⟨by decide, by decide⟩) ic_int (ic_var (i := 0) rfl (.int _))) (by show _ = (2 : Int) * g + (0 : Int); omega)) (ac_cons (ic_to (ic_var (i := 0) rfl (.int _)) (by show _ = (1 : Int) * g + (0 : Int); omega)) (ac_cons (ic_to (ic_mul (.inl ⟨by decide, by decide⟩) ic_int (ic_var (i := 0) rfl (.int _))) (by show _ = (5 : Int) * g + (0 : Int); omega)) ac_nil))) (by show 3 ≤ 1000; decide)) (ac_cons ic_non ac_nil))) (by show 3 ≤ 1000; decide)) ac_nil))) (by show 3 ≤ 1000; decide)) fun H1 v1 s1 k1 => ?_
    try dsimp only [List.set]
    replace hD := s1.dp hD
    replace S := S.trans s1
    refine asg_ic (K := K) (d := .list ((cs1 ++ cs2).map (caseD g))) (by
      rw [List.map_append]
      exact ic_catL (ic_var rfl (by rw [cutS_nil]; exact k1)) (ic_lst (ac_cons (ic_tup (ac_cons (ic_to (ic_mul (.inl ⟨by decide, by decide⟩) ic_int (ic_var (i := 0) rfl (.int _))) (by show _ = (9 : Int) * g + (0 : Int); omega)) (ac_cons (ic_tup (ac_cons (ic_to (ic_mul (.inl ⟨by decide, by decide⟩) ic_int (ic_var (i := 0) rfl (.int _))) (by show _ = (9 : Int) * g + (0 : Int); omega)) (ac_cons (ic_to (ic_mul (.inl ⟨by decide, by decide⟩) ic_int (ic_var (i := 0) rfl (.int _))) (by show _ = (9 : Int) * g + (0 : Int); omega)) (ac_cons (ic_to (ic_mul (.inl ⟨by decide, by decide⟩) ic_int (ic_var (i := 0) rfl (.int _))) (by show _ = (9 : Int) * g + (0 : Int); omega)) ac_nil))) (by show 3 ≤ 1000; decide)) (ac_cons (ic_to ic_int (by show _ = (0 : Int) * g + (0 : Int); omega)) ac_nil))) (by show 3 ≤ 1000; decide)) (ac_cons (ic_tup (ac_cons (ic_to (ic_mul (.inl ⟨by decide, by decide⟩) ic_int (ic_var (i := 0) rfl (.int _))) (by show _ = (4 : Int) * g + (0 : Int); omega)) (ac_cons (ic_tup (ac_cons (ic_to (ic_mul (.inl ⟨by decide, by decide⟩) ic_int (ic_var (i := 0) rfl (.int _))) (by show _ = (2 : Int) * g + (0 : Int); omega)) (ac_cons (ic_to ic_int (by show _ = (0 : Int) * g + (0 : Int); omega)) (ac_cons (ic_to (ic_mul (.inl ⟨by decide, by decide⟩) ic_int (ic_var (i := 0) rfl (.int _))) (by show _ = (4 : Int) * g + (0 : Int); omega)) ac_nil))) (by show 3 ≤ 1000; decide)) (ac_cons (ic_to (ic_mul (.inl ⟨by decide, by decide⟩) ic_int (ic_var (i := 0) rfl (.int _))) (by show _ = (4 : Int) * g + (0 : Int); omega)) ac_nil))) (by show 3 ≤ 1000; decide)) ac_nil)) (by show 2 ≤ 1000; decide)) (by rw [List.length_map, List.length_map]; decide)) fun H2 v2 s2 k2 => ?_
    try dsimp only [List.set]
    replace hD := s2.dp hD
    replace S := S.trans s2
    refine asg_ic (K := K) (d := .list (((cs1 ++ cs2) ++ cs3).map (caseD g))) (by
      rw [List.map_append]
      exact ic_catL (ic_var rfl (by rw [cutS_nil]; exact k2)) (ic_lst (ac_cons (ic_tup (ac_cons (ic_to (ic_sub (ic_mul (.inl ⟨by decide, by decide⟩) ic_int (ic_var (i := 0) rfl (.int _))) ic_int) (by show _ = (4 : Int) * g + (-1 : Int); omega)) (ac_cons (ic_tup (ac_cons (ic_to (ic_mul (.inl ⟨by decide, by decide⟩) ic_int (ic_var (i := 0) rfl (.int _))) (by show _ = (2 : Int) * g + (0 : Int); omega)) (ac_cons (ic_to ic_int (by show _ = (0 : Int) * g + (0 : Int); omega)) (ac_cons (ic_to (ic_mul (.inl ⟨by decide, by decide⟩) ic_int (ic_var (i := 0) rfl (.int _))) (by show _ = (4 : Int) * g + (0 : Int); omega)) ac_nil))) (by show 3 ≤ 1000; decide)) (ac_cons ic_non ac_nil))) (by show 3 ≤ 1000; decide)) ac_nil) (by show 1 ≤ 1000; decide)) (by rw [List.length_map, List.length_map]; decide)) fun H3 v3 s3 k3 => ?_
    try dsimp only [List.set]
    replace hD := s3.dp hD
    replace S := S.trans s3
    refine asg_ic (K := K) (d := .list ((((cs1 ++ cs2) ++ cs3) ++ cs4).map (caseD g))) (by
      rw [List.map_append]
      exact ic_catL (ic_var rfl (by rw [cutS_nil]; exact k3)) (ic_lst (ac_cons (ic_tup (ac_cons (ic_to (ic_mul (.inl ⟨by decide, by decide⟩) ic_int (ic_var (i := 0) rfl (.int _))) (by show _ = (9 : Int) * g + (0 : Int); omega)) (ac_cons (ic_tup (ac_cons (ic_to (ic_mul (.inl ⟨by decide, by decide⟩) ic_int (ic_var (i := 0) rfl (.int _))) (by show _ = (2 : Int) * g + (0 : Int); omega)) (ac_cons (ic_to ic_int (by show _ = (0 : Int) * g + (0 : Int); omega)) (ac_cons (ic_to (ic_sub (ic_mul (.inl ⟨by decide, by decide⟩) ic_int (ic_var (i := 0) rfl (.int _))) ic_int) (by show _ = (4 : Int) * g + (-1 : Int); omega)) ac_nil))) (by show 3 ≤ 1000; decide)) (ac_cons ic_non ac_nil))) (by show 3 ≤ 1000; decide)) (ac_cons (ic_tup (ac_cons (ic_to (ic_sub (ic_mul (.inl ⟨by decide, by decide⟩) ic_int (ic_var (i := 0) rfl (.int _))) ic_int) (by show _ = (4 : Int) * g + (-1 : Int); omega)) (ac_cons (ic_tup (ac_cons (ic_to (ic_sub (ic_mul (.inl ⟨by decide, by decide⟩) ic_int (ic_var (i := 0) rfl (.int _))) ic_int) (by show _ = (2 : Int) * g + (-1 : Int); omega)) (ac_cons (ic_to ic_int (by show _ = (0 : Int) * g + (0 : Int); omega)) (ac_cons (ic_to (ic_sub (ic_mul (.inl ⟨by decide, by decide⟩) ic_int (ic_var (i := 0) rfl (.int _))) ic_int) (by show _ = (4 : Int) * g + (-1 : Int); omega)) ac_nil))) (by show 3 ≤ 1000; decide)) (ac_cons (ic_to (ic_sub (ic_mul (.inl ⟨by decide, by decide⟩) ic_int (ic_var (i := 0) rfl (.int _))) ic_int) (by show _ = (4 : Int) * g + (-1 : Int); omega)) ac_nil))) (by show 3 ≤ 1000; decide)) ac_nil)) (by show 2 ≤ 1000; decide)) (by rw [List.length_map, List.length_map]; decide)) fun H4 v4 s4 k4 => ?_
    try dsimp only [List.set]
    replace hD := s4.dp hD
    replace S := S.trans s4
    refine asg_ic (K := K) (d := .list (((((cs1 ++ cs2) ++ cs3) ++ cs4) ++ cs5).map (caseD g))) (by
      rw [List.map_append]
      exact ic_catL (ic_var rfl (by rw [cutS_nil]; exact k4)) (ic_lst (ac_cons (ic_tup (ac_cons (ic_to (ic_mul (.inl ⟨by decide, by decide⟩) ic_int (ic_var (i := 0) rfl (.int _))) (by show _ = (9 : Int) * g + (0 : Int); omega)) (ac_cons (ic_tup (ac_cons (ic_to (ic_mul (.inl ⟨by decide, by decide⟩) ic_int (ic_var (i := 0) rfl (.int _))) (by show _ = (3 : Int) * g + (0 : Int); omega)) (ac_cons (ic_to ic_int (by show _ = (0 : Int) * g + (0 : Int); omega)) (ac_cons (ic_to (ic_mul (.inl ⟨by decide, by decide⟩) ic_int (ic_var (i := 0) rfl (.int _))) (by show _ = (3 : Int) * g + (0 : Int); omega)) ac_nil))) (by show 3 ≤ 1000; decide)) (ac_cons ic_non ac_nil))) (by show 3 ≤ 1000; decide)) (ac_cons (ic_tup (ac_cons (ic_to (ic_mul (.inl ⟨by decide, by decide⟩) ic_int (ic_var (i := 0) rfl (.int _))) (by show _ = (9 : Int) * g + (0 : Int); omega)) (ac_cons (ic_tup (ac_cons (ic_to (ic_add (ic_mul (.inl ⟨by decide, by decide⟩) ic_int (ic_var (i := 0) rfl (.int _))) ic_int) (by show _ = (2 : Int) * g + (1 : Int); omega)) (ac_cons (ic_to ic_int (by show _ = (0 : Int) * g + (1 : Int); omega)) (ac_cons (ic_to (ic_add (ic_mul (.inl ⟨by decide, by decide⟩) ic_int (ic_var (i := 0) rfl (.int _))) ic_int) (by show _ = (4 : Int) * g + (1 : Int); omega)) ac_nil))) (by show 3 ≤ 1000; decide)) (ac_cons (ic_to (ic_mul (.inl ⟨by decide, by decide⟩) ic_int (ic_var (i := 0) rfl (.int _))) (by show _ = (4 : Int) * g + (0 : Int); omega)) ac_nil))) (by show 3 ≤ 1000; decide)) ac_nil)) (by show 2 ≤ 1000; decide)) (by rw [List.length_map, List.length_map]; decide)) fun H5 v5 s5 k5 => ?_
    try dsimp only [List.set]
    replace hD := s5.dp hD
    replace S := S.trans s5
    refine asg_ic (K := K) (d := .list ((((((cs1 ++ cs2) ++ cs3) ++ cs4) ++ cs5) ++ cs6).map (caseD g))) (by
      rw [List.map_append]
      exact ic_catL (ic_var rfl (by rw [cutS_nil]; exact k5)) (ic_lst (ac_cons (ic_tup (ac_cons (ic_to (ic_mul (.inl ⟨by decide, by decide⟩) ic_int (ic_var (i := 0) rfl (.int _))) (by show _ = (9 : Int) * g + (0 : Int); omega)) (ac_cons (ic_tup (ac_cons (ic_to (ic_add (ic_mul (.inl ⟨by decide, by decide⟩) ic_int (ic_var (i := 0) rfl (.int _))) ic_int) (by show _ = (2 : Int) * g + (1 : Int); omega)) (ac_cons (ic_to ic_int (by show _ = (0 : Int) * g + (0 : Int); omega)) (ac_cons (ic_to (ic_mul (.inl ⟨by decide, by decide⟩) ic_int (ic_var (i := 0) rfl (.int _))) (by show _ = (4 : Int) * g + (0 : Int); omega)) ac_nil))) (by show 3 ≤ 1000; decide)) (ac_cons ic_non ac_nil))) (by show 3 ≤ 1000; decide)) (ac_cons (ic_tup (ac_cons (ic_to ic_int (by show _ = (0 : Int) * g + (0 : Int); omega)) (ac_cons (ic_tup (ac_cons (ic_to ic_int (by show _ = (0 : Int) * g + (0 : Int); omega)) (ac_cons (ic_to ic_int (by show _ = (0 : Int) * g + (0 : Int); omega)) (ac_cons (ic_to ic_int (by show _ = (0 : Int) * g + (0 : Int); omega)) ac_nil))) (by show 3 ≤ 1000; decide)) (ac_cons (ic_to ic_int (by show _ = (0 : Int) * g + (0 : Int); omega)) ac_nil))) (by show 3 ≤ 1000; decide)) ac_nil)) (by show 2 ≤ 1000; decide)) (by rw [List.length_map, List.length_map]; decide)) fun H6 v6 s6 k6 => ?_
    try dsimp only [List.set]
    replace hD := s6.dp hD
    replace S := S.trans s6

    refine loop_seq (K := K) rfl hg hg2 hD k6 cs_ok fun y4 y5 y6 H7 s7 => ?_
    replace hD := s7.dp hD
    replace S := S.trans s7
    obtain ⟨a0, a1, a2, xq, rfl, N0⟩ := netAt hD
    refine asg_ic (K := K) (d := netD true wF (fkB.map (evQ g))) (ic_tup (ac_cons (ic_ix (i := 1) (j := 0) rfl (by rw [cutS_nil]; exact N0.h0) (atI_nat (j := 0) rfl) (by rw [cutS_nil]; exact .tup (show SqT K H7 a1 _ from N0.h1) dpa_strs)) (ac_cons (ic_tup (ac_cons (ic_tup (ac_cons ic_str (ac_cons ic_str (ac_cons ic_str (ac_cons (ic_to (ic_mul (.inl ⟨by decide, by decide⟩) ic_int (ic_var (i := 0) rfl (.int _))) (by show _ = (4 : Int) * g + (0 : Int); omega)) (ac_cons (ic_to (ic_mul (.inl ⟨by decide, by decide⟩) ic_int (ic_var (i := 0) rfl (.int _))) (by show _ = (4 : Int) * g + (0 : Int); omega)) ac_nil))))) (by show 5 ≤ 1000; decide)) (ac_cons (ic_tup (ac_cons ic_str (ac_cons ic_str (ac_cons ic_str (ac_cons (ic_to (ic_mul (.inl ⟨by decide, by decide⟩) ic_int (ic_var (i := 0) rfl (.int _))) (by show _ = (3 : Int) * g + (0 : Int); omega)) (ac_cons (ic_to (ic_mul (.inl ⟨by decide, by decide⟩) ic_int (ic_var (i := 0) rfl (.int _))) (by show _ = (3 : Int) * g + (0 : Int); omega)) ac_nil))))) (by show 5 ≤ 1000; decide)) (ac_cons (ic_tup (ac_cons ic_str (ac_cons ic_str (ac_cons ic_str (ac_cons (ic_to (ic_mul (.inl ⟨by decide, by decide⟩) ic_int (ic_var (i := 0) rfl (.int _))) (by show _ = (4 : Int) * g + (0 : Int); omega)) (ac_cons (ic_to ic_int (by show _ = (0 : Int) * g + (2 : Int); omega)) ac_nil))))) (by show 5 ≤ 1000; decide)) ac_nil))) (by show 3 ≤ 1000; decide)) ac_nil)) (by show 2 ≤ 1000; decide)) fun H8 v8 s8 hD8 => ?_
    try dsimp only [List.set]
    refine asg_ic (K := K) (d := .bool true) (ic_and (ic_var rfl (.bl true)) (ic_says (ws := wF) (qs := fkB.map (evQ g)) (cs := ([(2, 0), (0, 0), (4, 1)] : List Ln).map (ev g)) (many := ev g (9, 0)) (d := (some (4, 2) : Option Ln).map (ev g)) (ac_cons (ic_var rfl (by rw [cutS_nil]; exact hD8)) (ac_cons (ic_to (ic_mul (.inl ⟨by decide, by decide⟩) ic_int (ic_var (i := 0) rfl (.int _))) (by show _ = (9 : Int) * g + (0 : Int); omega)) (ac_cons (ic_tup (ac_cons (ic_to (ic_mul (.inl ⟨by decide, by decide⟩) ic_int (ic_var (i := 0) rfl (.int _))) (by show _ = (2 : Int) * g + (0 : Int); omega)) (ac_cons (ic_to ic_int (by show _ = (0 : Int) * g + (0 : Int); omega)) (ac_cons (ic_to (ic_add (ic_mul (.inl ⟨by decide, by decide⟩) ic_int (ic_var (i := 0) rfl (.int _))) ic_int) (by show _ = (4 : Int) * g + (1 : Int); omega)) ac_nil))) (by show 3 ≤ 1000; decide)) (ac_cons (ic_to (ic_add (ic_mul (.inl ⟨by decide, by decide⟩) ic_int (ic_var (i := 0) rfl (.int _))) ic_int) (by show _ = (4 : Int) * g + (2 : Int); omega)) ac_nil)))) (cas_ok2 hg hg2 one_ok))) fun H9 v9 s9 k9 => ?_
    cases k9
    try dsimp only [List.set]
    refine asg_ic (K := K) (d := netD true wT (fkC.map (evQ g))) (ic_tup (ac_cons (ic_tup (ac_cons ic_str (ac_cons ic_str ac_nil)) (by show 2 ≤ 1000; decide)) (ac_cons (ic_tup (ac_cons (ic_tup (ac_cons ic_str (ac_cons ic_str (ac_cons ic_str (ac_cons (ic_to (ic_mul (.inl ⟨by decide, by decide⟩) ic_int (ic_var (i := 0) rfl (.int _))) (by show _ = (2 : Int) * g + (0 : Int); omega)) (ac_cons (ic_to (ic_add (ic_var (i := 0) rfl (.int _)) ic_int) (by show _ = (1 : Int) * g + (1 : Int); omega)) ac_nil))))) (by show 5 ≤ 1000; decide)) (ac_cons (ic_tup (ac_cons ic_str (ac_cons ic_str (ac_cons ic_str (ac_cons (ic_to (ic_mul (.inl ⟨by decide, by decide⟩) ic_int (ic_var (i := 0) rfl (.int _))) (by show _ = (9 : Int) * g + (0 : Int); omega)) (ac_cons (ic_to (ic_add (ic_mul (.inl ⟨by decide, by decide⟩) ic_int (ic_var (i := 0) rfl (.int _))) ic_int) (by show _ = (2 : Int) * g + (1 : Int); omega)) ac_nil))))) (by show 5 ≤ 1000; decide)) ac_nil)) (by show 2 ≤ 1000; decide)) ac_nil)) (by show 2 ≤ 1000; decide)) fun HA vA sA' hDA => ?_
    try dsimp only [List.set]
    refine asg_ic (K := K) (d := .list (ct1.map (caseD g))) (ic_lst (ac_cons (ic_tup (ac_cons (ic_to (ic_var (i := 0) rfl (.int _)) (by show _ = (1 : Int) * g + (0 : Int); omega)) (ac_cons (ic_tup (ac_cons (ic_to ic_int (by show _ = (0 : Int) * g + (0 : Int); omega)) (ac_cons (ic_to (ic_var (i := 0) rfl (.int _)) (by show _ = (1 : Int) * g + (0 : Int); omega)) ac_nil)) (by show 2 ≤ 1000; decide)) (ac_cons (ic_to (ic_var (i := 0) rfl (.int _)) (by show _ = (1 : Int) * g + (0 : Int); omega)) ac_nil))) (by show 3 ≤ 1000; decide)) (ac_cons (ic_tup (ac_cons (ic_to (ic_mul (.inl ⟨by decide, by decide⟩) ic_int (ic_var (i := 0) rfl (.int _))) (by show _ = (2 : Int) * g + (0 : Int); omega)) (ac_cons (ic_tup (ac_cons (ic_to ic_int (by show _ = (0 : Int) * g + (0 : Int); omega)) (ac_cons (ic_to (ic_mul (.inl ⟨by decide, by decide⟩) ic_int (ic_var (i := 0) rfl (.int _))) (by show _ = (2 : Int) * g + (0 : Int); omega)) ac_nil)) (by show 2 ≤ 1000; decide)) (ac_cons (ic_to (ic_mul (.inl ⟨by decide, by decide⟩) ic_int (ic_var (i := 0) rfl (.int _))) (by show _ = (2 : Int) * g + (0 : Int); omega)) ac_nil))) (by show 3 ≤ 1000; decide)) (ac_cons (ic_tup (ac_cons (ic_to (ic_mul (.inl ⟨by decide, by decide⟩) ic_int (ic_var (i := 0) rfl (.int _))) (by show _ = (3 : Int) * g + (0 : Int); omega)) (ac_cons (ic_tup (ac_cons (ic_to ic_int (by show _ = (0 : Int) * g + (0 : Int); omega)) (ac_cons (ic_to (ic_mul (.inl ⟨by decide, by decide⟩) ic_int (ic_var (i := 0) rfl (.int _))) (by show _ = (2 : Int) * g + (0 : Int); omega)) ac_nil)) (by show 2 ≤ 1000; decide)) (ac_cons (ic_to (ic_mul (.inl ⟨by decide, by decide⟩) ic_int (ic_var (i := 0) rfl (.int _))) (by show _ = (2 : Int) * g + (0 : Int); omega)) ac_nil))) (by show 3 ≤ 1000; decide)) ac_nil))) (by show 3 ≤ 1000; decide)) fun HB vB sB' kB => ?_
    try dsimp only [List.set]
    refine asg_ic (K := K) (d := .list ((ct1 ++ ct2).map (caseD g))) (by
      rw [List.map_append]
      exact ic_catL (ic_var rfl (by rw [cutS_nil]; exact kB)) (ic_lst (ac_cons (ic_tup (ac_cons (ic_to (ic_mul (.inl ⟨by decide, by decide⟩) ic_int (ic_var (i := 0) rfl (.int _))) (by show _ = (3 : Int) * g + (0 : Int); omega)) (ac_cons (ic_tup (ac_cons (ic_to ic_int (by show _ = (0 : Int) * g + (0 : Int); omega)) (ac_cons (ic_to (ic_add (ic_mul (.inl ⟨by decide, by decide⟩) ic_int (ic_var (i := 0) rfl (.int _))) ic_int) (by show _ = (2 : Int) * g + (1 : Int); omega)) ac_nil)) (by show 2 ≤ 1000; decide)) (ac_cons ic_non ac_nil))) (by show 3 ≤ 1000; decide)) (ac_cons (ic_tup (ac_cons (ic_to (ic_var (i := 0) rfl (.int _)) (by show _ = (1 : Int) * g + (0 : Int); omega)) (ac_cons (ic_tup (ac_cons (ic_to (ic_var (i := 0) rfl (.int _)) (by show _ = (1 : Int) * g + (0 : Int); omega)) (ac_cons (ic_to ic_int (by show _ = (0 : Int) * g + (0 : Int); omega)) ac_nil)) (by show 2 ≤ 1000; decide)) (ac_cons ic_non ac_nil))) (by show 3 ≤ 1000; decide)) ac_nil)) (by show 2 ≤ 1000; decide)) (by rw [List.length_map, List.length_map]; decide)) fun HC vC sC' kC => ?_
    try dsimp only [List.set]
    refine loop_seq (K := K) rfl hg hg2 (sC'.dp (sB'.dp hDA)) kC ct_ok fun z4 z5 z6 HD sD' => ?_
    refine ret_ic (K := K) (d := .bool true) (ic_var rfl (.bl true)) fun HE vE sE' kE => ?_
    cases kE
    exact q HE ((((((S.trans s8).trans s9).trans sA').trans sB').trans sC').trans (sD'.trans sE'))
end
end Jl

set_option Elab.async false
set_option linter.all false
set_option maxRecDepth 100000
set_option maxHeartbeats 1000000
set_option pp.maxSteps 300
namespace Jl
open PySem PySem.Spec PyProof.Rows L2
open Evl (sz_of sz_lt)
local macro_rules | `(tactic| walk_at "at") => `(tactic| first | exact box0 | exact box1 | exact box2)
local macro_rules | `(tactic| walk_at "sq") => `(tactic| first | (show SqL _ _ _ _; assumption) | (show SqT _ _ _ _; assumption) | (show _ = some _; assumption))
local macro_rules | `(tactic| walk_at "side") => `(tactic| first
  | (show (0 : Int) < _; decide)
  | (show (0 : Int) < _; omega)
  | exact ⟨by decide, by decide, by decide⟩
  | exact sz_of (Nat.le_of_ble_eq_true rfl)
  | exact rfl
  | exact Or.inl (by decide)
  | exact Or.inr (by decide)
  | exact Or.inr ⟨by omega, by omega⟩
  | exact Or.inl ⟨by omega, by omega⟩
  | exact ⟨by decide, by decide +kernel⟩)
local macro_rules | `(tactic| walk_at "ev1") => `(tactic| first
  | refine ⟨_, rfl, ?_⟩
  | refine ⟨_, _, rfl, rfl, ?_⟩
  | refine ⟨_, _, _, _, rfl, rfl, (by walk_at "sq"), (by walk_at "at"), ?_⟩
  | refine ⟨_, _, rfl, (by walk_at "sq"), ?_⟩
  | refine ⟨_, _, rfl, Or.inl (by walk_at "sq"), ?_⟩
  | refine ⟨_, _, rfl, Or.inr (by walk_at "sq"), ?_⟩
  | refine Or.inl ⟨_, rfl, ?_⟩
  | refine Or.inr ⟨_, rfl, ?_⟩
  | refine ⟨(by walk_at "side"), ?_⟩
  | refine ⟨.inl ⟨rfl, _, (by walk_at "sq")⟩, ?_⟩
  | refine ⟨_, _, rfl, ?_⟩)
local macro_rules | `(tactic| walk_at "nrm") => `(tactic| dsimp only [tNil, tCons, tC, tCB])
local macro_rules | `(tactic| walk_at "ev") => `(tactic| repeat (walk_at "ev1"))

abbrev sc_w_still_right_N : List Str := ["_law_g", "_law_round_so", "_law_web", "_law_most", "_law_fine", "_law_far", "_law_due", "_law_some", "_law_top", "_law_row", "_law_lone"]
abbrev s_w_still_right : Stmt := topS 23
theorem sc_w_still_right : FnScope ["_law_g", "_law_round_so", "_law_web", "_law_most", "_law_fine", "_law_far", "_law_due", "_law_some", "_law_top", "_law_row", "_law_lone"] ["_law_g"] (defScope s_w_still_right) := ⟨rfl, rfl, rfl, by decide +kernel, rfl, by decide +kernel, by decide +kernel⟩
abbrev Fs := Ln × Option Ln × Bool
abbrev Ts := Ln × List Ln
def farD (g : Int) (c : Fs) : PyData := .tuple [.int (ev g c.1), optD (c.2.1.map (ev g))]
def topD (g : Int) (c : Ts) : PyData := .tuple [.int (ev g c.1), seqD true ((c.2.map (ev g)).map PyData.int)]
def wS : List Str := [sA, sB, sC, sI]
def rdQ : List QL := [⟨sQ, sC, sB, (0, 1), (0, 1)⟩, ⟨sU, sC, sI, (0, 1), (0, 1)⟩, ⟨sV, sI, sC, (0, 1), (0, 1)⟩]
def stQ : List QL := ⟨sP, sA, sB, (1, 1), (0, 2)⟩ :: rdQ
def farL : List Fs := [((0, 0), some (0, 0), true), ((0, 1), some (0, 0), true), ((1, 1), some (0, 0), false), ((1, 2), some (0, 1), false), ((2, 2), some (1, 1), false), ((2, 3), some (1, 2), false), ((2, 4), none, false)]
def topL : List Ts := [((0, 9), [(0, 0), (0, 1), (0, 0), (0, 0)]), ((0, 9), [(0, 0), (0, 0), (0, 1), (0, 0)]), ((0, 9), [(0, 0), (0, 0), (0, 0), (0, 1)]), ((0, 9), [(0, 1), (0, 1), (0, 1), (0, 1)]), ((0, 0), [(0, 1), (0, 0), (0, 0), (0, 0)])]
def farB (c : Fs) : Bool := casB2 wS stQ [c.1, (0, 0), (0, 0), (0, 0)] c.1 c.2.1 [sB, sC, sI] && casB2 wS stQ [c.1, (0, 0), (0, 0), (0, 0)] (addL c.1 (0, 1)) (if c.2.2 = true then none else c.2.1) [sB, sC, sI] && decide (ltL c.1 (1, 1) = some c.2.2)
theorem far_ok : farL.all farB = true := by decide +kernel
theorem top_ok : (topL.all fun c => casB2 wS stQ c.2 c.1 none [sB, sC, sI]) = true := by decide +kernel
theorem ln1 : casB2 [sA] [] [(1, 0)] (1, 0) (some (0, 0)) [] = true := by decide +kernel
theorem ln2 : casB2 [sA] [] [(1, -1)] (1, 0) none [] = true := by decide +kernel
theorem ln3 : casB2 [sA] [] [(1, 1)] (1, 0) none [] = true := by decide +kernel
section
variable {K : PySem.W.Frag} {σ : L2.St}
theorem ic_if {H0 : Hp} {tt : TT} {ta tb : TE} {b : Bool} {d : PyData} (ht : ∀ (H : Hp) (Q : Bool → Hp → Prop), Same H0 H → Q b H → tt σ H Q) (hd : IsC K [] H0 (if b = true then ta else tb) d σ) : IsC K [] H0 (tIf tt ta tb) d σ := fun H Q e tr k => ht H _ e (by
  cases b with
  | true => exact iteT (hd H Q e tr k)
  | false => exact iteF (hd H Q e tr k))
end
section
variable {P : Program} {w : World} {K : PySem.W.Frag} {mg : Str → Option Value} {base : Heap}
theorem ok_w_still_right {f fY : Addr} {fd fdY : FuncData} {k : Nat} (F : Fun K "_law_still_right" "_law_still_right" s_w_still_right f fd)
    (G_w_says : FnOk P w K mg base CX0 k fY fdY ["_law_web", "_law_most", "_law_row", "_law_due"] (spSays K)) (g_w_says : mg "_law_says" = some (.ref fY)) (F_w_says : Fun K "_law_says" "_law_says" s_w_says fY fdY) (b_w_says : Binds K fdY ["_law_web", "_law_most", "_law_row", "_law_due"] []) :
    FnOk P w K mg base CX0 (k + 1) f fd ["_law_g"] (spG K) := by
  refine F.ok sc_w_still_right (fun vs H Q E h => ?_) (fun cdv A outer s0 H vs Q E hr h => ?_)
  · obtain ⟨g, rfl, _⟩ := h
    rfl
  · obtain ⟨g, rfl, hg, hg2, q⟩ := h
    refine ⟨_, (pss_cons (ps_set (i := 1) sc_w_still_right.nd rfl (Or.inl rfl) (pe_tup (pa_cons (pe_tup (pa_cons pe_str (pa_cons pe_str (pa_cons pe_str (pa_cons pe_int (pa_cons pe_int pa_nil)))))) (pa_cons (pe_tup (pa_cons pe_str (pa_cons pe_str (pa_cons pe_str (pa_cons pe_int (pa_cons pe_int pa_nil)))))) (pa_cons (pe_tup (pa_cons pe_str (pa_cons pe_str (pa_cons pe_str (pa_cons pe_int (pa_cons pe_int pa_nil)))))) pa_nil))))) 
    (pss_cons (ps_set (i := 2) sc_w_still_right.nd rfl (Or.inl rfl) (pe_tup (pa_cons (pe_tup (pa_cons pe_str (pa_cons pe_str (pa_cons pe_str (pa_cons pe_str pa_nil))))) (pa_cons (pe_op op_catA (pe_tup (pa_cons (pe_tup (pa_cons pe_str (pa_cons pe_str (pa_cons pe_str (pa_cons (pe_op op_add (pv 0) pe_int) (pa_cons pe_int pa_nil)))))) pa_nil)) (pv 1)) pa_nil)))) 
    (pss_cons (ps_par (i := 3) (j := 4) (by rfl) sc_w_still_right.nd rfl rfl (by decide) rfl rfl (pa_cons (pe_op op_add (pe_op op_mul pe_int (pv 0)) pe_int) (pa_cons pe_bl pa_nil)) (by rfl)) 
    (pss_cons (ps_forX (ps_for PassesOwn.never rfl (pi_tup (pe_tup (pa_cons (pe_tup (pa_cons pe_int (pa_cons pe_int pa_nil))) (pa_cons (pe_tup (pa_cons pe_int (pa_cons pe_int pa_nil))) (pa_cons (pe_tup (pa_cons (pe_op op_add (pv 0) pe_int) (pa_cons pe_int pa_nil))) (pa_cons (pe_tup (pa_cons (pe_op op_add (pv 0) pe_int) (pa_cons pe_int pa_nil))) (pa_cons (pe_tup (pa_cons (pe_op op_sub (pv 3) pe_int) (pa_cons (pe_op op_add (pv 0) pe_int) pa_nil))) (pa_cons (pe_tup (pa_cons (pv 3) (pa_cons (pe_op op_add (pv 0) pe_int) pa_nil))) (pa_cons (pe_tup (pa_cons (pe_op op_add (pv 3) pe_int) (pa_cons pe_non pa_nil))) pa_nil))))))))) (pg_tup rfl (pgs_cons (pg_name (i := 5) sc_w_still_right.nd rfl (Or.inl rfl)) (pgs_cons (pg_name (i := 6) sc_w_still_right.nd rfl (Or.inl rfl)) pgs_nil))) 
      (pss_cons (ps_set (i := 4) sc_w_still_right.nd rfl (Or.inl rfl) (pe_and (pv 4) (pe_one (pe_call G_w_says hr (by rfl) g_w_says F_w_says.kp b_w_says .nil pass0 (pa_cons (pv 2) (pa_cons (pv 5) (pa_cons (pe_tup (pa_cons (pv 5) (pa_cons pe_int (pa_cons pe_int (pa_cons pe_int pa_nil))))) (pa_cons (pv 6) pa_nil)))))))) 
      (pss_one (ps_set (i := 4) sc_w_still_right.nd rfl (Or.inl rfl) (pe_and (pv 4) (pe_one (pe_call G_w_says hr (by rfl) g_w_says F_w_says.kp b_w_says .nil pass0 (pa_cons (pv 2) (pa_cons (pe_op op_add (pv 5) pe_int) (pa_cons (pe_tup (pa_cons (pv 5) (pa_cons pe_int (pa_cons pe_int (pa_cons pe_int pa_nil))))) (pa_cons (pe_ifExp (pt_cmpR op_lt (pv 5) (pe_op op_add (pv 0) pe_int) (nomark _)) pe_non (pv 6)) pa_nil)))))))))))) 
    (pss_cons (ps_set (i := 7) sc_w_still_right.nd rfl (Or.inl rfl) (pe_lst (pa_cons (pe_tup (pa_cons pe_int (pa_cons (pe_tup (pa_cons pe_int (pa_cons pe_int (pa_cons pe_int (pa_cons pe_int pa_nil))))) pa_nil))) (pa_cons (pe_tup (pa_cons pe_int (pa_cons (pe_tup (pa_cons pe_int (pa_cons pe_int (pa_cons pe_int (pa_cons pe_int pa_nil))))) pa_nil))) (pa_cons (pe_tup (pa_cons pe_int (pa_cons (pe_tup (pa_cons pe_int (pa_cons pe_int (pa_cons pe_int (pa_cons pe_int pa_nil))))) pa_nil))) (pa_cons (pe_tup (pa_cons pe_int (pa_cons (pe_tup (pa_cons pe_int (pa_cons pe_int (pa_cons pe_int (pa_cons pe_int pa_nil))))) pa_nil))) (pa_cons (pe_tup (pa_cons pe_int (pa_cons (pe_tup (pa_cons pe_int (pa_cons pe_int (pa_cons pe_int (pa_cons pe_int pa_nil))))) pa_nil))) pa_nil))))))) 
    (pss_cons (ps_forX (ps_for PassesOwn.never rfl (pi_seq (pv 7)) (pg_tup rfl (pgs_cons (pg_name (i := 8) sc_w_still_right.nd rfl (Or.inl rfl)) (pgs_cons (pg_name (i := 9) sc_w_still_right.nd rfl (Or.inl rfl)) pgs_nil))) (pss_one (ps_set (i := 4) sc_w_still_right.nd rfl (Or.inl rfl) (pe_and (pv 4) (pe_one (pe_call G_w_says hr (by rfl) g_w_says F_w_says.kp b_w_says .nil pass0 (pa_cons (pv 2) (pa_cons (pv 8) (pa_cons (pv 9) (pa_cons pe_non pa_nil))))))))))) 
    (pss_cons (ps_set (i := 10) sc_w_still_right.nd rfl (Or.inl rfl) (pe_tup (pa_cons (pe_tup (pa_cons pe_str pa_nil)) (pa_cons (pe_tup pa_nil) pa_nil)))) 
    (pss_cons (ps_set (i := 4) sc_w_still_right.nd rfl (Or.inl rfl) (pe_and (pv 4) (pe_and (pe_call G_w_says hr (by rfl) g_w_says F_w_says.kp b_w_says .nil pass0 (pa_cons (pv 10) (pa_cons (pv 0) (pa_cons (pe_tup (pa_cons (pv 0) pa_nil)) (pa_cons pe_int pa_nil))))) (pe_one (pe_call G_w_says hr (by rfl) g_w_says F_w_says.kp b_w_says .nil pass0 (pa_cons (pv 10) (pa_cons (pv 0) (pa_cons (pe_tup (pa_cons (pe_op op_sub (pv 0) pe_int) pa_nil)) (pa_cons pe_non pa_nil))))))))) 
    (pss_one (ps_ret (pe_and (pv 4) (pe_one (pe_call G_w_says hr (by rfl) g_w_says F_w_says.kp b_w_says .nil pass0 (pa_cons (pv 10) (pa_cons (pv 0) (pa_cons (pe_tup (pa_cons (pe_op op_add (pv 0) pe_int) pa_nil)) (pa_cons pe_non pa_nil))))))))))))))))), ?_⟩
    refine asg_ic (K := K) (d := .tuple ((rdQ.map (evQ g)).map (QD.d true))) (ic_tup (ac_cons (ic_tup (ac_cons ic_str (ac_cons ic_str (ac_cons ic_str (ac_cons (ic_to ic_int (by show _ = (0 : Int) * g + (1 : Int); omega)) (ac_cons (ic_to ic_int (by show _ = (0 : Int) * g + (1 : Int); omega)) ac_nil))))) (by show 5 ≤ 1000; decide)) (ac_cons (ic_tup (ac_cons ic_str (ac_cons ic_str (ac_cons ic_str (ac_cons (ic_to ic_int (by show _ = (0 : Int) * g + (1 : Int); omega)) (ac_cons (ic_to ic_int (by show _ = (0 : Int) * g + (1 : Int); omega)) ac_nil))))) (by show 5 ≤ 1000; decide)) (ac_cons (ic_tup (ac_cons ic_str (ac_cons ic_str (ac_cons ic_str (ac_cons (ic_to ic_int (by show _ = (0 : Int) * g + (1 : Int); omega)) (ac_cons (ic_to ic_int (by show _ = (0 : Int) * g + (1 : Int); omega)) ac_nil))))) (by show 5 ≤ 1000; decide)) ac_nil))) (by show 3 ≤ 1000; decide)) fun H1 v1 s1 k1 => ?_
    try dsimp only [List.set]
    refine asg_ic (K := K) (d := netD true wS (stQ.map (evQ g))) (ic_tup (ac_cons (ic_tup (ac_cons ic_str (ac_cons ic_str (ac_cons ic_str (ac_cons ic_str ac_nil)))) (by show 4 ≤ 1000; decide)) (ac_cons (ic_catT (ds := [QD.d true (evQ g ⟨sP, sA, sB, (1, 1), (0, 2)⟩)]) (es := (rdQ.map (evQ g)).map (QD.d true)) (ic_tup (ac_cons (ic_tup (ac_cons ic_str (ac_cons ic_str (ac_cons ic_str (ac_cons (ic_to (ic_add (ic_var (i := 0) rfl (.int _)) ic_int) (by show _ = (1 : Int) * g + (1 : Int); omega)) (ac_cons (ic_to ic_int (by show _ = (0 : Int) * g + (2 : Int); omega)) ac_nil))))) (by show 5 ≤ 1000; decide)) ac_nil) (by show 1 ≤ 1000; decide)) (ic_var rfl (by rw [cutS_nil]; exact k1)) (by show 4 ≤ 1000; decide)) ac_nil)) (by show 2 ≤ 1000; decide)) fun H2 v2 s2 hD => ?_
    try dsimp only [List.set]
    refine par_ac (K := K) (d1 := .int (ev g (2, 3))) (d2 := .bool true) (ac_cons (ic_to (ic_add (ic_mul (.inl ⟨by decide, by decide⟩) ic_int (ic_var (i := 0) rfl (.int _))) ic_int) (by show _ = (2 : Int) * g + (3 : Int); omega)) (ac_cons ic_bl ac_nil)) fun H3 v3 v4 s3 k3 k4 => ?_
    cases k3
    cases k4
    try dsimp only [List.set]
    replace hD := s3.dp hD
    have S := (s1.trans s2).trans s3
    clear s1 s2 s3 k1
    have em : ev g (2, 3) = 2 * g + 3 := rfl
    refine for_of ?_
    refine (show IsC K [] H3 _ (.tuple (farL.map (farD g))) _ from (ic_tup (ac_cons (ic_tup (ac_cons (ic_to ic_int (by show _ = (0 : Int) * g + (0 : Int); omega)) (ac_cons (ic_to ic_int (by show _ = (0 : Int) * g + (0 : Int); omega)) ac_nil)) (by show 2 ≤ 1000; decide)) (ac_cons (ic_tup (ac_cons (ic_to ic_int (by show _ = (0 : Int) * g + (1 : Int); omega)) (ac_cons (ic_to ic_int (by show _ = (0 : Int) * g + (0 : Int); omega)) ac_nil)) (by show 2 ≤ 1000; decide)) (ac_cons (ic_tup (ac_cons (ic_to (ic_add (ic_var (i := 0) rfl (.int _)) ic_int) (by show _ = (1 : Int) * g + (1 : Int); omega)) (ac_cons (ic_to ic_int (by show _ = (0 : Int) * g + (0 : Int); omega)) ac_nil)) (by show 2 ≤ 1000; decide)) (ac_cons (ic_tup (ac_cons (ic_to (ic_add (ic_var (i := 0) rfl (.int _)) ic_int) (by show _ = (1 : Int) * g + (2 : Int); omega)) (ac_cons (ic_to ic_int (by show _ = (0 : Int) * g + (1 : Int); omega)) ac_nil)) (by show 2 ≤ 1000; decide)) (ac_cons (ic_tup (ac_cons (ic_to (ic_sub (ic_var (i := 3) rfl (.int _)) ic_int) (by show _ = (2 : Int) * g + (2 : Int); omega)) (ac_cons (ic_to (ic_add (ic_var (i := 0) rfl (.int _)) ic_int) (by show _ = (1 : Int) * g + (1 : Int); omega)) ac_nil)) (by show 2 ≤ 1000; decide)) (ac_cons (ic_tup (ac_cons (ic_to (ic_var (i := 3) rfl (.int _)) (by show _ = (2 : Int) * g + (3 : Int); omega)) (ac_cons (ic_to (ic_add (ic_var (i := 0) rfl (.int _)) ic_int) (by show _ = (1 : Int) * g + (2 : Int); omega)) ac_nil)) (by show 2 ≤ 1000; decide)) (ac_cons (ic_tup (ac_cons (ic_to (ic_add (ic_var (i := 3) rfl (.int _)) ic_int) (by show _ = (2 : Int) * g + (4 : Int); omega)) (ac_cons ic_non ac_nil)) (by show 2 ≤ 1000; decide)) ac_nil))))))) (by show 7 ≤ 1000; decide))) H3 _ (fun _ _ e => e) Trk.nil fun H4 vt s4 ht => ?_
    rw [cutS_nil] at ht
    obtain ⟨at0, ys, rfl, hs, hy⟩ := Dp.seq_of (f := true) ht
    have hs : SqT K H4 at0 ys := hs
    refine ⟨at0, rfl, ⟨ys, hs⟩, ?_⟩
    replace hD := s4.dp hD
    replace S := S.trans s4
    refine forR_it (walk_tup (K := K) (a := at0) (xs := ys)) (fun i σ Hc => ∃ x5 x6, σ = [some (.int g), some v1, some v2, some (.int (ev g (2, 3))), some (.bl true), x5, x6, none, none, none, none] ∧ Same H4 Hc) ⟨_, _, rfl, fun _ _ e => e⟩ (fun i σ Hc _ hh => ?_) (fun i x σ Hc Hc' hi hh y => ?_) (fun σ Hc hh => ?_)
    · obtain ⟨_, _, _, e⟩ := hh
      exact e.sqT hs
    · obtain ⟨x5, x6, rfl, e⟩ := hh
      obtain ⟨rfl, hx⟩ := y
      obtain ⟨d, hd, hxd⟩ := dpa_get hy hx
      rw [List.getElem?_map] at hd
      cases hz : farL[i]? with
      | none =>
        rw [hz] at hd
        cases hd
      | some z =>
        rw [hz] at hd
        cases hd
        have hcz := List.all_eq_true.mp far_ok z (List.mem_of_getElem? hz)
        unfold farB at hcz
        simp only [Bool.and_eq_true, decide_eq_true_eq] at hcz
        obtain ⟨⟨c1, c2⟩, c3⟩ := hcz
        have c1 := cas_ok2 hg hg2 c1
        have c2 := cas_ok2 hg hg2 c2
        have c3 := ltL_ok hg c3
        obtain ⟨t0, xt, rfl, ht, hxt⟩ := Dp.seq_of (f := true) (e.dp hxd)
        have ht : SqT K Hc' t0 xt := ht
        cases hxt with
        | cons k1 hxt =>
          cases hxt with
          | cons k2 hxt =>
            cases hxt
            cases k1
            refine ⟨t0, _, rfl, ht, rfl, _, _, rfl, _, _, rfl, rfl, ?_⟩
            try dsimp only [List.set]
            have hDc := e.dp hD
            refine asg_ic (K := K) (d := .bool true) (ic_and (ic_var rfl (.bl true)) (ic_says (ac_cons (ic_var rfl (by rw [cutS_nil]; exact hDc)) (ac_cons (ic_var rfl (.int _)) (ac_cons (ic_tup (ac_cons (ic_var (i := 5) rfl (.int _)) (ac_cons (ic_to ic_int ev_zero.symm) (ac_cons (ic_to ic_int ev_zero.symm) (ac_cons (ic_to ic_int ev_zero.symm) ac_nil)))) (by show 4 ≤ 1000; decide)) (ac_cons (ic_var rfl (by rw [cutS_nil]; exact k2)) ac_nil)))) c1)) fun H5 v5 s5 k5 => ?_
            cases k5
            try dsimp only [List.set]
            refine (ic_and (K := K) (S := []) (H0 := H5) (ic_var rfl (.bl true)) (ic_says (ac_cons (ic_var rfl (by rw [cutS_nil]; exact s5.dp hDc)) (ac_cons (ic_to (ic_add (ic_var (i := 5) rfl (.int _)) ic_int) (by rw [ev_add, ev_c])) (ac_cons (ic_tup (ac_cons (ic_var (i := 5) rfl (.int _)) (ac_cons (ic_to ic_int ev_zero.symm) (ac_cons (ic_to ic_int ev_zero.symm) (ac_cons (ic_to ic_int ev_zero.symm) ac_nil)))) (by show 4 ≤ 1000; decide)) (ac_cons (ic_if (b := z.2.2) (fun H Q e6 q6 => ?_) ?_) ac_nil)))) c2)) H5 _ (fun _ _ e => e) Trk.nil fun H6 u s6 hu => ?_
            · refine ⟨_, rfl, ?_⟩
              refine ⟨_, rfl, ?_⟩
              refine ⟨_, _, rfl, rfl, ?_⟩
              refine ⟨_, _, rfl, rfl, ?_⟩
              refine ⟨_, rfl, ?_⟩
              have e9 : ev g (1, 1) = g + 1 := by
                show (1 : Int) * g + 1 = g + 1
                omega
              rw [e9] at c3
              rw [c3]
              exact q6
            · cases hb : z.2.2 with
              | true =>
                rw [if_pos rfl]
                exact ic_non
              | false =>
                rw [if_neg (by decide), if_neg (by decide)]
                exact ic_var rfl (by rw [cutS_nil]; exact s5.dp k2)
            · cases hu
              exact ⟨_, _, rfl, (e.trans s5).trans s6⟩
    · obtain ⟨x5, x6, rfl, e⟩ := hh
      replace hD := e.dp hD
      replace S := S.trans e
      refine asg_ic (K := K) (d := .list (topL.map (topD g))) (ic_lst (ac_cons (ic_tup (ac_cons (ic_to ic_int (by show _ = (0 : Int) * g + (9 : Int); omega)) (ac_cons (ic_tup (ac_cons (ic_to ic_int (by show _ = (0 : Int) * g + (0 : Int); omega)) (ac_cons (ic_to ic_int (by show _ = (0 : Int) * g + (1 : Int); omega)) (ac_cons (ic_to ic_int (by show _ = (0 : Int) * g + (0 : Int); omega)) (ac_cons (ic_to ic_int (by show _ = (0 : Int) * g + (0 : Int); omega)) ac_nil)))) (by show 4 ≤ 1000; decide)) ac_nil)) (by show 2 ≤ 1000; decide)) (ac_cons (ic_tup (ac_cons (ic_to ic_int (by show _ = (0 : Int) * g + (9 : Int); omega)) (ac_cons (ic_tup (ac_cons (ic_to ic_int (by show _ = (0 : Int) * g + (0 : Int); omega)) (ac_cons (ic_to ic_int (by show _ = (0 : Int) * g + (0 : Int); omega)) (ac_cons (ic_to ic_int (by show _ = (0 : Int) * g + (1 : Int); omega)) (ac_cons (ic_to ic_int (by show _ = (0 : Int) * g + (0 : Int); omega)) ac_nil)))) (by show 4 ≤ 1000; decide)) ac_nil)) (by show 2 ≤ 1000; decide)) (ac_cons (ic_tup (ac_cons (ic_to ic_int (by show _ = (0 : Int) * g + (9 : Int); omega)) (ac_cons (ic_tup (ac_cons (ic_to ic_int (by show _ = (0 : Int) * g + (0 : Int); omega)) (ac_cons (ic_to ic_int (by show _ = (0 : Int) * g + (0 : Int); omega)) (ac_cons (ic_to ic_int (by show _ = (0 : Int) * g + (0 : Int); omega)) (ac_cons (ic_to ic_int (by show _ = (0 : Int) * g + (1 : Int); omega)) ac_nil)))) (by show 4 ≤ 1000; decide)) ac_nil)) (by show 2 ≤ 1000; decide)) (ac_cons (ic_tup (ac_cons (ic_to ic_int (by show _ = (0 : Int) * g + (9 : Int); omega)) (ac_cons (ic_tup (ac_cons (ic_to ic_int (by show _ = (0 : Int) * g + (1 : Int); omega)) (ac_cons (ic_to ic_int (by show _ = (0 : Int) * g + (1 : Int); omega)) (ac_cons (ic_to ic_int (by show _ = (0 : Int) * g + (1 : Int); omega)) (ac_cons (ic_to ic_int (by show _ = (0 : Int) * g + (1 : Int); omega)) ac_nil)))) (by show 4 ≤ 1000; decide)) ac_nil)) (by show 2 ≤ 1000; decide)) (ac_cons (ic_tup (ac_cons (ic_to ic_int (by show _ = (0 : Int) * g + (0 : Int); omega)) (ac_cons (ic_tup (ac_cons (ic_to ic_int (by show _ = (0 : Int) * g + (1 : Int); omega)) (ac_cons (ic_to ic_int (by show _ = (0 : Int) * g + (0 : Int); omega)) (ac_cons (ic_to ic_int (by show _ = (0 : Int) * g + (0 : Int); omega)) (ac_cons (ic_to ic_int (by show _ = (0 : Int) * g + (0 : Int); omega)) ac_nil)))) (by show 4 ≤ 1000; decide)) ac_nil)) (by show 2 ≤ 1000; decide)) ac_nil))))) (by show 5 ≤ 1000; decide)) fun H5 v7 s5 k7 => ?_
      try dsimp only [List.set]
      replace hD := s5.dp hD
      replace S := S.trans s5
      obtain ⟨lt, zs, rfl, hls, hlz⟩ := Dp.seq_of (f := false) k7
      refine for_of ?_
      refine iSeq_at (fun R' q' => ⟨_, rfl, q'⟩) hls fun J w => ?_
      refine forR_it w (fun i σ Hc => ∃ x8 x9, σ = [some (.int g), some v1, some v2, some (.int (ev g (2, 3))), some (.bl true), x5, x6, some (.ref lt), x8, x9, none] ∧ Same H5 Hc) ⟨_, _, rfl, fun _ _ e => e⟩ (fun i σ Hc _ hh => ?_) (fun i x σ Hc Hc' hi hh y => ?_) (fun σ Hc hh => ?_)
      · obtain ⟨_, _, _, e⟩ := hh
        exact e.sqF hls
      · obtain ⟨x8, x9, rfl, e⟩ := hh
        obtain ⟨rfl, hx⟩ := y
        obtain ⟨d, hd, hxd⟩ := dpa_get hlz hx
        rw [List.getElem?_map] at hd
        cases hz : topL[i]? with
        | none =>
          rw [hz] at hd
          cases hd
        | some z =>
          rw [hz] at hd
          cases hd
          have hcz := cas_ok2 hg hg2 (List.all_eq_true.mp top_ok z (List.mem_of_getElem? hz))
          obtain ⟨t0, xt, rfl, ht, hxt⟩ := Dp.seq_of (f := true) (e.dp hxd)
          have ht : SqT K Hc' t0 xt := ht
          cases hxt with
          | cons k1 hxt =>
            cases hxt with
            | cons k2 hxt =>
              cases hxt
              cases k1
              refine ⟨t0, _, rfl, ht, rfl, _, _, rfl, _, _, rfl, rfl, ?_⟩
              try dsimp only [List.set]
              refine (ic_and (K := K) (S := []) (H0 := Hc') (ic_var rfl (.bl true)) (ic_says (ac_cons (ic_var rfl (by rw [cutS_nil]; exact e.dp hD)) (ac_cons (ic_var rfl (.int _)) (ac_cons (ic_var rfl (by rw [cutS_nil]; exact k2)) (ac_cons ic_non ac_nil)))) hcz)) Hc' _ (fun _ _ e => e) Trk.nil fun H6 u s6 hu => ?_
              cases hu
              exact ⟨_, _, rfl, e.trans s6⟩
      · obtain ⟨x8, x9, rfl, e⟩ := hh
        replace S := S.trans e
        refine asg_ic (K := K) (d := netD true [sA] (([] : List QL).map (evQ g))) (ic_tup (ac_cons (ic_tup (ac_cons ic_str ac_nil) (by show 1 ≤ 1000; decide)) (ac_cons (ic_tup ac_nil (by show 0 ≤ 1000; decide)) ac_nil)) (by show 2 ≤ 1000; decide)) fun H8 v8 s8 hDl => ?_
        try dsimp only [List.set]
        refine asg_ic (K := K) (d := .bool true) (ic_and (ic_var rfl (.bl true)) (ic_and (ic_says (ws := [sA]) (qs := ([] : List QL).map (evQ g)) (cs := ([(1, 0)] : List Ln).map (ev g)) (many := ev g (1, 0)) (d := (some (0, 0) : Option Ln).map (ev g)) (ac_cons (ic_var (i := 10) rfl (by rw [cutS_nil]; exact hDl)) (ac_cons (ic_to (ic_var (i := 0) rfl (.int _)) (by show _ = (1 : Int) * g + (0 : Int); omega)) (ac_cons (ic_tup (ac_cons (ic_to (ic_var (i := 0) rfl (.int _)) (by show _ = (1 : Int) * g + (0 : Int); omega)) ac_nil) (by show 1 ≤ 1000; decide)) (ac_cons (ic_to ic_int (by show _ = (0 : Int) * g + (0 : Int); omega)) ac_nil)))) (cas_ok2 (ws := [sA]) (qs := []) (cs := [(1, 0)]) (many := (1, 0)) (d := some (0, 0)) hg hg2 ln1)) (ic_says (ws := [sA]) (qs := ([] : List QL).map (evQ g)) (cs := ([(1, -1)] : List Ln).map (ev g)) (many := ev g (1, 0)) (d := (none : Option Ln).map (ev g)) (ac_cons (ic_var (i := 10) rfl (by rw [cutS_nil]; exact hDl)) (ac_cons (ic_to (ic_var (i := 0) rfl (.int _)) (by show _ = (1 : Int) * g + (0 : Int); omega)) (ac_cons (ic_tup (ac_cons (ic_to (ic_sub (ic_var (i := 0) rfl (.int _)) ic_int) (by show _ = (1 : Int) * g + (-1 : Int); omega)) ac_nil) (by show 1 ≤ 1000; decide)) (ac_cons ic_non ac_nil)))) (cas_ok2 (ws := [sA]) (qs := []) (cs := [(1, -1)]) (many := (1, 0)) (d := none) hg hg2 ln2)))) fun H9 v9 s9 k9 => ?_
        cases k9
        try dsimp only [List.set]
        refine ret_ic (K := K) (d := .bool true) (ic_and (ic_var rfl (.bl true)) (ic_says (ws := [sA]) (qs := ([] : List QL).map (evQ g)) (cs := ([(1, 1)] : List Ln).map (ev g)) (many := ev g (1, 0)) (d := (none : Option Ln).map (ev g)) (ac_cons (ic_var (i := 10) rfl (by rw [cutS_nil]; exact s9.dp hDl)) (ac_cons (ic_to (ic_var (i := 0) rfl (.int _)) (by show _ = (1 : Int) * g + (0 : Int); omega)) (ac_cons (ic_tup (ac_cons (ic_to (ic_add (ic_var (i := 0) rfl (.int _)) ic_int) (by show _ = (1 : Int) * g + (1 : Int); omega)) ac_nil) (by show 1 ≤ 1000; decide)) (ac_cons ic_non ac_nil)))) (cas_ok2 (ws := [sA]) (qs := []) (cs := [(1, 1)]) (many := (1, 0)) (d := none) hg hg2 ln3))) fun HA vA sA' kA => ?_
        cases kA
        exact q HA (((S.trans s8).trans s9).trans sA')
end
end Jl

set_option Elab.async false
set_option linter.all false
set_option maxRecDepth 100000
set_option maxHeartbeats 1000000
set_option pp.maxSteps 300
namespace Jl
open PySem PySem.Spec PyProof.Rows L2
open Evl (sz_of sz_lt)
local macro_rules | `(tactic| walk_at "at") => `(tactic| first | exact box0 | exact box1 | exact box2)
local macro_rules | `(tactic| walk_at "sq") => `(tactic| first | (show SqL _ _ _ _; assumption) | (show SqT _ _ _ _; assumption) | (show _ = some _; assumption))
local macro_rules | `(tactic| walk_at "side") => `(tactic| first
  | (show (0 : Int) < _; decide)
  | (show (0 : Int) < _; omega)
  | exact ⟨by decide, by decide, by decide⟩
  | exact sz_of (Nat.le_of_ble_eq_true rfl)
  | exact rfl
  | exact Or.inl (by decide)
  | exact Or.inr (by decide)
  | exact Or.inr ⟨by omega, by omega⟩
  | exact Or.inl ⟨by omega, by omega⟩
  | exact ⟨by decide, by decide +kernel⟩)
local macro_rules | `(tactic| walk_at "ev1") => `(tactic| first
  | refine ⟨_, rfl, ?_⟩
  | refine ⟨_, _, rfl, rfl, ?_⟩
  | refine ⟨_, _, _, _, rfl, rfl, (by walk_at "sq"), (by walk_at "at"), ?_⟩
  | refine ⟨_, _, rfl, (by walk_at "sq"), ?_⟩
  | refine ⟨_, _, rfl, Or.inl (by walk_at "sq"), ?_⟩
  | refine ⟨_, _, rfl, Or.inr (by walk_at "sq"), ?_⟩
  | refine Or.inl ⟨_, rfl, ?_⟩
  | refine Or.inr ⟨_, rfl, ?_⟩
  | refine ⟨(by walk_at "side"), ?_⟩
  | refine ⟨.inl ⟨rfl, _, (by walk_at "sq")⟩, ?_⟩
  | refine ⟨_, _, rfl, ?_⟩)
local macro_rules | `(tactic| walk_at "nrm") => `(tactic| dsimp only [tNil, tCons, tC, tCB])
local macro_rules | `(tactic| walk_at "ev") => `(tactic| repeat (walk_at "ev1"))

abbrev sc_w_right_N : List Str := ["_law_box_here", "_law_g"]
abbrev s_w_right : Stmt := topS 24
theorem sc_w_right : FnScope ["_law_box_here", "_law_g"] ["_law_box_here"] (defScope s_w_right) := ⟨rfl, rfl, rfl, by decide +kernel, rfl, by decide +kernel, by decide +kernel⟩
section
variable {P : Program} {w : World} {K : PySem.W.Frag} {mg : Str → Option Value} {base : Heap}
theorem ic_G {E : XK} {te : TE} {g : Int} {σ : L2.St} {H0 : Hp} (h : IsC K [] H0 te (.int g) σ) (hg : 1 ≤ g) (hg2 : g ≤ 10 ^ 40) : IsC K [] H0 (tCall (spG K) [] E (tCons te tNil)) (.bool true) σ := fun H Q e tr q => h H _ e tr fun H1 v s1 hv => by
  cases hv
  exact ⟨g, rfl, hg, hg2, fun H2 s2 => q H2 _ (s1.trans s2) (.bl true)⟩
def spRight (K : PySem.W.Frag) : Sp := fun vs H Q _ => ∃ (b : Addr) (bx : List V) (N : Nat), vs = [.ref b] ∧ H b = some (.lst bx) ∧ BoxL bx N ∧ N < 2 ^ 40 ∧ ∀ H', Same (cutS [b] H) H' → Q (.bl true) H'
theorem ok_right {f fT fA fB : Addr} {fd fdT fdA fdB : FuncData} {k : Nat} (F : Fun K "_law_right" "_law_right" s_w_right f fd)
    (G_w_take : FnOk P w K mg base CX0 k fT fdT ["_law_box_here", "_law_below"] spTake2) (g_w_take : mg "_law_take" = some (.ref fT)) (F_w_take : Fun K "_law_take" "_law_take" s_w_take fT fdT) (b_w_take : Binds K fdT ["_law_box_here", "_law_below"] [])
    (G_w_forks_right : FnOk P w K mg base CX0 k fA fdA ["_law_g"] (spG K)) (g_w_forks_right : mg "_law_forks_right" = some (.ref fA)) (F_w_forks_right : Fun K "_law_forks_right" "_law_forks_right" s_w_forks_right fA fdA) (b_w_forks_right : Binds K fdA ["_law_g"] [])
    (G_w_still_right : FnOk P w K mg base CX0 k fB fdB ["_law_g"] (spG K)) (g_w_still_right : mg "_law_still_right" = some (.ref fB)) (F_w_still_right : Fun K "_law_still_right" "_law_still_right" s_w_still_right fB fdB) (b_w_still_right : Binds K fdB ["_law_g"] []) :
    FnOk P w K mg base CX0 (k + 1) f fd ["_law_box_here"] (spRight K) := by
  refine F.ok sc_w_right (fun vs H Q E h => ?_) (fun cdv A outer s0 H vs Q E hr h => ?_)
  · obtain ⟨b, bx, N, rfl, _⟩ := h
    rfl
  · obtain ⟨b, bx, N, rfl, hb, hB, hN, q⟩ := h
    refine ⟨_, (pss_cons (ps_set (i := 1) sc_w_right.nd rfl (Or.inl rfl) (pe_op op_add pe_int (pe_op op_mul (pe_call G_w_take hr (by rfl) g_w_take F_w_take.kp b_w_take .nil pass0 (pa_cons (pv 0) (pa_cons (pe_op op_pow pe_int pe_int) pa_nil))) (pe_ifExp (pt_cmpR op_eq (pe_call G_w_take hr (by rfl) g_w_take F_w_take.kp b_w_take .nil pass0 (pa_cons (pv 0) (pa_cons pe_int pa_nil))) pe_int (nomark _)) (pe_op op_pow pe_int pe_int) pe_int)))) 
    (pss_one (ps_ret (pe_and (pe_call G_w_forks_right hr (by rfl) g_w_forks_right F_w_forks_right.kp b_w_forks_right .nil pass0 (pa_cons (pv 1) pa_nil)) (pe_and (pe_call G_w_still_right hr (by rfl) g_w_still_right F_w_still_right.kp b_w_still_right .nil pass0 (pa_cons (pv 1) pa_nil)) (pe_and (pe_call G_w_forks_right hr (by rfl) g_w_forks_right F_w_forks_right.kp b_w_forks_right .nil pass0 (pa_cons pe_int pa_nil)) (pe_one (pe_call G_w_still_right hr (by rfl) g_w_still_right F_w_still_right.kp b_w_still_right .nil pass0 (pa_cons pe_int pa_nil))))))))), ?_⟩
    have fin : ∀ (g : Int) (H1 : Hp), 1 ≤ g → g ≤ 10 ^ 40 → Same (cutS [b] H) H1 → tRet (tAndV (tCall (spG K) [] E0 (tCons (tVar 1) tNil)) (tAndV (tCall (spG K) [] E0 (tCons (tVar 1) tNil)) (tAndV (tCall (spG K) [] E0 (tCons (tC (.int 1)) tNil)) (tCall (spG K) [] E0 (tCons (tC (.int 1)) tNil))))) { nx := fun x H' => Q V.non H', rt := Q } [some (.ref b), some (.int g)] H1 := fun g H1 h1 h2 S => by
      refine ret_ic (K := K) (d := .bool true) (ic_and (ic_G (ic_var rfl (.int _)) h1 h2) (ic_and (ic_G (ic_var rfl (.int _)) h1 h2) (ic_and (ic_G ic_int (by decide) (by decide)) (ic_G ic_int (by decide) (by decide))))) fun H2 v s2 hv => ?_
      cases hv
      exact q H2 (S.trans s2)
    have cut : ∀ bx1 bx2, Same (cutS [b] H) (upd (upd H b (.lst bx1)) b (.lst bx2)) := fun bx1 bx2 a o ha => by
      obtain ⟨g1, g2⟩ := cutS_some ha
      have na : a ≠ b := fun z => g1 (by rw [z]; exact List.mem_cons_self)
      rw [upd_ne na, upd_ne na]
      exact g2
    walk_at "ev"
    refine ⟨b, 10 ^ 9, bx, N, rfl, hb, hB, by omega, by decide, small8000 ⟨by decide, by decide⟩, fun r bx1 r0 r1 hB1 => ?_⟩
    walk_at "ev"
    refine ⟨b, 2, bx1, N + 1, rfl, upd_same, hB1, by omega, by decide, small8000 ⟨by decide, by decide⟩, fun r2 bx2 q0 q1 hB2 => ?_⟩
    walk_at "ev"
    by_cases h0 : V.int r2 = V.int 0
    · rw [decide_eq_true h0]
      refine iteT ?_
      have e : (10 : Int) ^ Int.toNat 27 = 10 ^ 27 := rfl
      exact ⟨10, 27, rfl, rfl, (by walk_at "side"), r, _, rfl, rfl, .inl ⟨by omega, by omega⟩, 1, _, rfl, rfl, fin (1 + r * 10 ^ Int.toNat 27) _ (by rw [e]; omega) (by rw [e]; omega) (cut bx1 bx2)⟩
    · rw [decide_eq_false h0]
      refine iteF ?_
      exact ⟨r, 1, rfl, rfl, .inl ⟨by omega, by omega⟩, 1, _, rfl, rfl, fin (1 + r * 1) _ (by omega) (by omega) (cut bx1 bx2)⟩
end
end Jl

set_option Elab.async false
set_option linter.all false
set_option maxRecDepth 100000
set_option maxHeartbeats 4000000
set_option pp.maxSteps 900
namespace Jl
open PySem PySem.Spec PyProof.Rows L2
open Evl (sz_of sz_lt)
local macro_rules | `(tactic| walk_at "at") => `(tactic| first | exact box0 | exact box1 | exact box2)
local macro_rules | `(tactic| walk_at "sq") => `(tactic| first | (show SqL _ _ _ _; assumption) | (show SqT _ _ _ _; assumption) | (show _ = some _; assumption))
local macro_rules | `(tactic| walk_at "side") => `(tactic| first
  | (show (0 : Int) < _; decide)
  | (show (0 : Int) < _; omega)
  | exact ⟨by decide, by decide, by decide⟩
  | exact sz_of (Nat.le_of_ble_eq_true rfl)
  | exact rfl
  | exact Or.inl (by decide)
  | exact Or.inr (by decide)
  | exact Or.inr ⟨by omega, by omega⟩
  | exact Or.inl ⟨by omega, by omega⟩
  | exact ⟨by decide, by decide +kernel⟩)
local macro_rules | `(tactic| walk_at "ev1") => `(tactic| first
  | refine ⟨_, rfl, ?_⟩
  | refine ⟨_, _, rfl, rfl, ?_⟩
  | refine ⟨_, _, _, _, rfl, rfl, (by walk_at "sq"), (by walk_at "at"), ?_⟩
  | refine ⟨_, _, rfl, (by walk_at "sq"), ?_⟩
  | refine ⟨_, _, rfl, Or.inl (by walk_at "sq"), ?_⟩
  | refine ⟨_, _, rfl, Or.inr (by walk_at "sq"), ?_⟩
  | refine Or.inl ⟨_, rfl, ?_⟩
  | refine Or.inr ⟨_, rfl, ?_⟩
  | refine ⟨(by walk_at "side"), ?_⟩
  | refine ⟨.inl ⟨rfl, _, (by walk_at "sq")⟩, ?_⟩
  | refine ⟨_, _, rfl, ?_⟩)
local macro_rules | `(tactic| walk_at "nrm") => `(tactic| dsimp only [tNil, tCons, tC, tCB])
local macro_rules | `(tactic| walk_at "ev") => `(tactic| repeat (walk_at "ev1"))

abbrev sc_law_N : List Str := ["_law_script", "_law_cells_here", "_law_k"]
abbrev s_law : Stmt := topS 25
theorem sc_law : FnScope ["_law_script", "_law_cells_here", "_law_k"] ["_law_script"] (defScope s_law) := ⟨rfl, rfl, rfl, by decide +kernel, rfl, by decide +kernel, by decide +kernel⟩
section
variable {P : Program} {w : World} {K : PySem.W.Frag} {mg : Str → Option Value} {base : Heap}
def spLaw (K : PySem.W.Frag) : Sp := fun vs H Q _ => ∃ (a : Addr) (ns : List Int), vs = [.ref a] ∧ SqL K H a (ns.map V.int) ∧ ns.length ≤ 63 ∧ ∀ H', Q (.bl true) H'
theorem ok_law {f fC fB fR : Addr} {fd fdC fdB fdR : FuncData} {k : Nat} (F : Fun K "law" "law" s_law f fd)
    (G_w_cells : FnOk P w K mg base CX0 k fC fdC ["_law_script", "_law_most"] (spCells K)) (g_w_cells : mg "_law_cells" = some (.ref fC)) (F_w_cells : Fun K "_law_cells" "_law_cells" s_w_cells fC fdC) (b_w_cells : Binds K fdC ["_law_script", "_law_most"] [])
    (G_w_box : FnOk P w K mg base CX0 k fB fdB ["_law_script", "_law_k"] (spBox K)) (g_w_box : mg "_law_box" = some (.ref fB)) (F_w_box : Fun K "_law_box" "_law_box" s_w_box fB fdB) (b_w_box : Binds K fdB ["_law_script", "_law_k"] [])
    (G_w_right : FnOk P w K mg base CX0 k fR fdR ["_law_box_here"] (spRight K)) (g_w_right : mg "_law_right" = some (.ref fR)) (F_w_right : Fun K "_law_right" "_law_right" s_w_right fR fdR) (b_w_right : Binds K fdR ["_law_box_here"] [])
    (m_all : mg "all" = none) (m_range : mg "range" = none) (m_len : mg "len" = none) : FnOk P w K mg base CX0 (k + 1) f fd ["_law_script"] (spLaw K) := by
  refine F.ok sc_law (fun vs H Q E h => ?_) (fun cdv A outer s0 H vs Q E hr h => ?_)
  · obtain ⟨a, ns, rfl, _⟩ := h
    rfl
  · obtain ⟨a, ns, rfl, hS, hn, q⟩ := h
    refine ⟨_, (pss_cons (ps_set (i := 1) sc_law.nd rfl (Or.inr rfl) (pe_call G_w_cells hr (by rfl) g_w_cells F_w_cells.kp b_w_cells .nil pass0 (pa_cons (pv 0) (pa_cons pe_int pa_nil)))) 
    (pss_one (ps_ret (pe_callB (cr_all rfl) (by rfl) m_all (by decide +kernel) (pa_cons (pe_lcX (pe_lc (own := [("_law_k", 2)]) (g := gName 2) (tt := tYes) (by rfl) sc_law.nd (pi_range1 (by rfl) m_range (pa_cons (pe_callB call_len_seq (by rfl) m_len PySem.boot_len (pa_cons (pv 1) pa_nil)) pa_nil)) (blkOk_by (own := [("_law_k", 2)]) (N := sc_law_N) (sc := defScope s_law) (by decide +kernel)) (fun _ _ _ _ _ => pg_name (i := 2) sc_law.nd rfl (Or.inl rfl)) (fun _ _ _ _ _ => pts_nil) (fun _ _ _ _ _ => (pe_call G_w_right hr (by rfl) g_w_right F_w_right.kp b_w_right .nil pass0 (pa_cons (pe_call G_w_box hr (by rfl) g_w_box F_w_box.kp b_w_box .nil pass0 (pa_cons (pv 1) (pa_cons (pv 2) pa_nil))) pa_nil))))) pa_nil))))), ?_⟩
    walk_at "ev"
    refine ⟨a, ns, 2, rfl, hS, hn, by decide, by decide, fun H1 p cs s1 hp hp1 hl => ?_⟩
    have hq1 : SqL K H1 p (cs.map V.int) := sql_of hp1
    walk_at "ev"
    refine lc_of ?_
    walk_at "ev"
    rw [List.length_map]
    refine ⟨by omega, by omega, ?_⟩
    rw [Int.toNat_natCast]
    intro D hD
    refine lc_it (walk_range (lo := 0) (n := cs.length)) (fun i H' => H' p = some (.lst (cs.map V.int)) ∧ H' D = some (.lst ((List.replicate i true).map V.bl))) ⟨(Same.upd hD) _ _ hp1, upd_same⟩ (fun _ _ _ _ => trivial) (fun i x H' H'' hi hh y => ?_) (fun H' hh => ?_)
    · obtain ⟨h1, h2⟩ := hh
      obtain ⟨rfl, hv⟩ := y
      have hv : x = .int (0 + (i : Int)) := hv
      rw [Int.zero_add] at hv
      subst hv
      refine ⟨rfl, ?_⟩
      dsimp only [tYes]
      rw [if_pos rfl]
      walk_at "ev"
      refine ⟨p, cs, i, rfl, sql_of h1, by omega, by omega, fun b c0 c1 hb k0 k1 k2 => ?_⟩
      walk_at "ev"
      refine ⟨b, _, 0, rfl, upd_same, ⟨c0, c1, 0, rfl, k0, k1, k2, by decide, by decide⟩, by decide, fun H3 s3 => ?_⟩
      have npb : p ≠ b := ne_of_none h1 hb
      have nDb : D ≠ b := ne_of_none h2 hb
      have g1 : H3 p = some (.lst (cs.map V.int)) := s3 _ _ (by rw [cutS_out (not1 npb), upd_ne npb]; exact h1)
      have g2 : H3 D = some (.lst ((List.replicate i true).map V.bl)) := s3 _ _ (by rw [cutS_out (not1 nDb), upd_ne nDb]; exact h2)
      have nDp : p ≠ D := ne_of_none hp1 hD
      refine ⟨_, g2, by rw [List.length_map, List.length_replicate]; exact sz_lt (by omega), ?_, ?_⟩
      · rw [upd_ne nDp]
        exact g1
      · rw [upd_same, List.replicate_succ', List.map_append]
        rfl
    · obtain ⟨h1, h2⟩ := hh
      refine ⟨D, _, rfl, sql_of h2, ?_⟩
      have e : (List.replicate cs.length true).all id = true := by
        rw [List.all_eq_true]
        exact fun b hb => List.eq_of_mem_replicate hb
      rw [e]
      exact q _
end
end Jl

set_option Elab.async false
set_option linter.all false
set_option maxRecDepth 100000
set_option maxHeartbeats 4000000
set_option pp.maxSteps 40
namespace Jl
open PySem PySem.Spec PyProof.Rows L2
open Evl (sz_of sz_lt)
local macro_rules | `(tactic| walk_at "at") => `(tactic| first | exact box0 | exact box1 | exact box2)
local macro_rules | `(tactic| walk_at "sq") => `(tactic| first | (show SqL _ _ _ _; assumption) | (show SqT _ _ _ _; assumption) | (show _ = some _; assumption))
local macro_rules | `(tactic| walk_at "side") => `(tactic| first
  | (show (0 : Int) < _; decide)
  | (show (0 : Int) < _; omega)
  | exact ⟨by decide, by decide, by decide⟩
  | exact sz_of (Nat.le_of_ble_eq_true rfl)
  | exact rfl
  | exact Or.inl (by decide)
  | exact Or.inr (by decide)
  | exact Or.inr ⟨by omega, by omega⟩
  | exact Or.inl ⟨by omega, by omega⟩
  | exact ⟨by decide, by decide +kernel⟩)
local macro_rules | `(tactic| walk_at "ev1") => `(tactic| first
  | refine ⟨_, rfl, ?_⟩
  | refine ⟨_, _, rfl, rfl, ?_⟩
  | refine ⟨_, _, _, _, rfl, rfl, (by walk_at "sq"), (by walk_at "at"), ?_⟩
  | refine ⟨_, _, rfl, (by walk_at "sq"), ?_⟩
  | refine ⟨_, _, rfl, Or.inl (by walk_at "sq"), ?_⟩
  | refine ⟨_, _, rfl, Or.inr (by walk_at "sq"), ?_⟩
  | refine Or.inl ⟨_, rfl, ?_⟩
  | refine Or.inr ⟨_, rfl, ?_⟩
  | refine ⟨(by walk_at "side"), ?_⟩
  | refine ⟨.inl ⟨rfl, _, (by walk_at "sq")⟩, ?_⟩
  | refine ⟨_, _, rfl, ?_⟩)
local macro_rules | `(tactic| walk_at "nrm") => `(tactic| dsimp only [tNil, tCons, tC, tCB])
local macro_rules | `(tactic| walk_at "ev") => `(tactic| repeat (walk_at "ev1"))

theorem all_mk {l : PySem.W.OpenLaw} {w : World} {K : PySem.W.Frag} {h : Heap} {mg : Str → Option Value} {fa f1 f2 f3 f4 f5 f6 f7 f8 f9 f10 f11 f12 f13 f14 f15 f16 f17 f18 f19 f20 f21 f22 : Addr} (X : K.In h) (G : h.Ns mainGlobals mg) (hfa : mg "law" = some (.ref fa))
    {od1 an1 od2 an2 od3 an3 od4 an4 od5 an5 od6 an6 od7 an7 od8 an8 od9 an9 od10 an10 od11 an11 od12 an12 od13 an13 od14 an14 od15 an15 od16 an16 od17 an17 od18 an18 od19 an19 od20 an20 od21 an21 od22 an22 : Option Addr} {sl1 sl2 sl3 sl4 sl5 sl6 sl7 sl8 sl9 sl10 sl11 sl12 sl13 sl14 sl15 sl16 sl17 sl18 sl19 sl20 sl21 sl22 : Array (Option Value)} {oc1 kV1 dc1 pm1 cd1 ct1 oc2 kV2 dc2 pm2 cd2 ct2 oc3 kV3 dc3 pm3 cd3 ct3 oc4 kV4 dc4 pm4 cd4 ct4 oc5 kV5 dc5 pm5 cd5 ct5 oc6 kV6 dc6 pm6 cd6 ct6 oc7 kV7 dc7 pm7 cd7 ct7 oc8 kV8 dc8 pm8 cd8 ct8 oc9 kV9 dc9 pm9 cd9 ct9 oc10 kV10 dc10 pm10 cd10 ct10 oc11 kV11 dc11 pm11 cd11 ct11 oc12 kV12 dc12 pm12 cd12 ct12 oc13 kV13 dc13 pm13 cd13 ct13 oc14 kV14 dc14 pm14 cd14 ct14 oc15 kV15 dc15 pm15 cd15 ct15 oc16 kV16 dc16 pm16 cd16 ct16 oc17 kV17 dc17 pm17 cd17 ct17 oc18 kV18 dc18 pm18 cd18 ct18 oc19 kV19 dc19 pm19 cd19 ct19 oc20 kV20 dc20 pm20 cd20 ct20 oc21 kV21 dc21 pm21 cd21 ct21 oc22 kV22 dc22 pm22 cd22 ct22 : Value}
    (a1 : PySem.W.nsIn K mainGlobals "idle" = some (some (.ref f1))) (l1 : K.lookup f1 = some ⟨oc1, od1, .func (PySem.W.fnOf "idle" "idle" (defArgs s_idle) (defBody s_idle) (defScope s_idle) .none kV1 dc1 pm1 an1 cd1 ct1), sl1⟩) (c1 : PySem.W.codeIn K cd1 "idle" = true) (k1 : PySem.W.keepIn K (.ref f1) = true)
    (a2 : PySem.W.nsIn K mainGlobals "most_lead" = some (some (.ref f2))) (l2 : K.lookup f2 = some ⟨oc2, od2, .func (PySem.W.fnOf "most_lead" "most_lead" (defArgs s_most_lead) (defBody s_most_lead) (defScope s_most_lead) .none kV2 dc2 pm2 an2 cd2 ct2), sl2⟩) (c2 : PySem.W.codeIn K cd2 "most_lead" = true) (k2 : PySem.W.keepIn K (.ref f2) = true)
    (a3 : PySem.W.nsIn K mainGlobals "spans" = some (some (.ref f3))) (l3 : K.lookup f3 = some ⟨oc3, od3, .func (PySem.W.fnOf "spans" "spans" (defArgs s_spans) (defBody s_spans) (defScope s_spans) .none kV3 dc3 pm3 an3 cd3 ct3), sl3⟩) (c3 : PySem.W.codeIn K cd3 "spans" = true) (k3 : PySem.W.keepIn K (.ref f3) = true)
    (a4 : PySem.W.nsIn K mainGlobals "can_stand" = some (some (.ref f4))) (l4 : K.lookup f4 = some ⟨oc4, od4, .func (PySem.W.fnOf "can_stand" "can_stand" (defArgs s_can_stand) (defBody s_can_stand) (defScope s_can_stand) .none kV4 dc4 pm4 an4 cd4 ct4), sl4⟩) (c4 : PySem.W.codeIn K cd4 "can_stand" = true) (k4 : PySem.W.keepIn K (.ref f4) = true)
    (a5 : PySem.W.nsIn K mainGlobals "is_low" = some (some (.ref f5))) (l5 : K.lookup f5 = some ⟨oc5, od5, .func (PySem.W.fnOf "is_low" "is_low" (defArgs s_is_low) (defBody s_is_low) (defScope s_is_low) .none kV5 dc5 pm5 an5 cd5 ct5), sl5⟩) (c5 : PySem.W.codeIn K cd5 "is_low" = true) (k5 : PySem.W.keepIn K (.ref f5) = true)
    (a6 : PySem.W.nsIn K mainGlobals "is_high" = some (some (.ref f6))) (l6 : K.lookup f6 = some ⟨oc6, od6, .func (PySem.W.fnOf "is_high" "is_high" (defArgs s_is_high) (defBody s_is_high) (defScope s_is_high) .none kV6 dc6 pm6 an6 cd6 ct6), sl6⟩) (c6 : PySem.W.codeIn K cd6 "is_high" = true) (k6 : PySem.W.keepIn K (.ref f6) = true)
    (a7 : PySem.W.nsIn K mainGlobals "silences" = some (some (.ref f7))) (l7 : K.lookup f7 = some ⟨oc7, od7, .func (PySem.W.fnOf "silences" "silences" (defArgs s_silences) (defBody s_silences) (defScope s_silences) .none kV7 dc7 pm7 an7 cd7 ct7), sl7⟩) (c7 : PySem.W.codeIn K cd7 "silences" = true) (k7 : PySem.W.keepIn K (.ref f7) = true)
    (a8 : PySem.W.nsIn K mainGlobals "is_stop" = some (some (.ref f8))) (l8 : K.lookup f8 = some ⟨oc8, od8, .func (PySem.W.fnOf "is_stop" "is_stop" (defArgs s_is_stop) (defBody s_is_stop) (defScope s_is_stop) .none kV8 dc8 pm8 an8 cd8 ct8), sl8⟩) (c8 : PySem.W.codeIn K cd8 "is_stop" = true) (k8 : PySem.W.keepIn K (.ref f8) = true)
    (a9 : PySem.W.nsIn K mainGlobals "going_on" = some (some (.ref f9))) (l9 : K.lookup f9 = some ⟨oc9, od9, .func (PySem.W.fnOf "going_on" "going_on" (defArgs s_going_on) (defBody s_going_on) (defScope s_going_on) .none kV9 dc9 pm9 an9 cd9 ct9), sl9⟩) (c9 : PySem.W.codeIn K cd9 "going_on" = true) (k9 : PySem.W.keepIn K (.ref f9) = true)
    (a10 : PySem.W.nsIn K mainGlobals "can_be_left" = some (some (.ref f10))) (l10 : K.lookup f10 = some ⟨oc10, od10, .func (PySem.W.fnOf "can_be_left" "can_be_left" (defArgs s_can_be_left) (defBody s_can_be_left) (defScope s_can_be_left) .none kV10 dc10 pm10 an10 cd10 ct10), sl10⟩) (c10 : PySem.W.codeIn K cd10 "can_be_left" = true) (k10 : PySem.W.keepIn K (.ref f10) = true)
    (a11 : PySem.W.nsIn K mainGlobals "price" = some (some (.ref f11))) (l11 : K.lookup f11 = some ⟨oc11, od11, .func (PySem.W.fnOf "price" "price" (defArgs s_price) (defBody s_price) (defScope s_price) .none kV11 dc11 pm11 an11 cd11 ct11), sl11⟩) (c11 : PySem.W.codeIn K cd11 "price" = true) (k11 : PySem.W.keepIn K (.ref f11) = true)
    (a12 : PySem.W.nsIn K mainGlobals "_law_box" = some (some (.ref f12))) (l12 : K.lookup f12 = some ⟨oc12, od12, .func (PySem.W.fnOf "_law_box" "_law_box" (defArgs s_w_box) (defBody s_w_box) (defScope s_w_box) .none kV12 dc12 pm12 an12 cd12 ct12), sl12⟩) (c12 : PySem.W.codeIn K cd12 "_law_box" = true) (k12 : PySem.W.keepIn K (.ref f12) = true)
    (a13 : PySem.W.nsIn K mainGlobals "_law_take" = some (some (.ref f13))) (l13 : K.lookup f13 = some ⟨oc13, od13, .func (PySem.W.fnOf "_law_take" "_law_take" (defArgs s_w_take) (defBody s_w_take) (defScope s_w_take) .none kV13 dc13 pm13 an13 cd13 ct13), sl13⟩) (c13 : PySem.W.codeIn K cd13 "_law_take" = true) (k13 : PySem.W.keepIn K (.ref f13) = true)
    (a14 : PySem.W.nsIn K mainGlobals "_law_cells" = some (some (.ref f14))) (l14 : K.lookup f14 = some ⟨oc14, od14, .func (PySem.W.fnOf "_law_cells" "_law_cells" (defArgs s_w_cells) (defBody s_w_cells) (defScope s_w_cells) .none kV14 dc14 pm14 an14 cd14 ct14), sl14⟩) (c14 : PySem.W.codeIn K cd14 "_law_cells" = true) (k14 : PySem.W.keepIn K (.ref f14) = true)
    (a15 : PySem.W.nsIn K mainGlobals "_law_lists" = some (some (.ref f15))) (l15 : K.lookup f15 = some ⟨oc15, od15, .func (PySem.W.fnOf "_law_lists" "_law_lists" (defArgs s_w_lists) (defBody s_w_lists) (defScope s_w_lists) .none kV15 dc15 pm15 an15 cd15 ct15), sl15⟩) (c15 : PySem.W.codeIn K cd15 "_law_lists" = true) (k15 : PySem.W.keepIn K (.ref f15) = true)
    (a16 : PySem.W.nsIn K mainGlobals "_law_same" = some (some (.ref f16))) (l16 : K.lookup f16 = some ⟨oc16, od16, .func (PySem.W.fnOf "_law_same" "_law_same" (defArgs s_w_same) (defBody s_w_same) (defScope s_w_same) .none kV16 dc16 pm16 an16 cd16 ct16), sl16⟩) (c16 : PySem.W.codeIn K cd16 "_law_same" = true) (k16 : PySem.W.keepIn K (.ref f16) = true)
    (a17 : PySem.W.nsIn K mainGlobals "_law_says" = some (some (.ref f17))) (l17 : K.lookup f17 = some ⟨oc17, od17, .func (PySem.W.fnOf "_law_says" "_law_says" (defArgs s_w_says) (defBody s_w_says) (defScope s_w_says) .none kV17 dc17 pm17 an17 cd17 ct17), sl17⟩) (c17 : PySem.W.codeIn K cd17 "_law_says" = true) (k17 : PySem.W.keepIn K (.ref f17) = true)
    (a18 : PySem.W.nsIn K mainGlobals "_law_fork" = some (some (.ref f18))) (l18 : K.lookup f18 = some ⟨oc18, od18, .func (PySem.W.fnOf "_law_fork" "_law_fork" (defArgs s_w_fork) (defBody s_w_fork) (defScope s_w_fork) .none kV18 dc18 pm18 an18 cd18 ct18), sl18⟩) (c18 : PySem.W.codeIn K cd18 "_law_fork" = true) (k18 : PySem.W.keepIn K (.ref f18) = true)
    (a19 : PySem.W.nsIn K mainGlobals "_law_forks_right" = some (some (.ref f19))) (l19 : K.lookup f19 = some ⟨oc19, od19, .func (PySem.W.fnOf "_law_forks_right" "_law_forks_right" (defArgs s_w_forks_right) (defBody s_w_forks_right) (defScope s_w_forks_right) .none kV19 dc19 pm19 an19 cd19 ct19), sl19⟩) (c19 : PySem.W.codeIn K cd19 "_law_forks_right" = true) (k19 : PySem.W.keepIn K (.ref f19) = true)
    (a20 : PySem.W.nsIn K mainGlobals "_law_still_right" = some (some (.ref f20))) (l20 : K.lookup f20 = some ⟨oc20, od20, .func (PySem.W.fnOf "_law_still_right" "_law_still_right" (defArgs s_w_still_right) (defBody s_w_still_right) (defScope s_w_still_right) .none kV20 dc20 pm20 an20 cd20 ct20), sl20⟩) (c20 : PySem.W.codeIn K cd20 "_law_still_right" = true) (k20 : PySem.W.keepIn K (.ref f20) = true)
    (a21 : PySem.W.nsIn K mainGlobals "_law_right" = some (some (.ref f21))) (l21 : K.lookup f21 = some ⟨oc21, od21, .func (PySem.W.fnOf "_law_right" "_law_right" (defArgs s_w_right) (defBody s_w_right) (defScope s_w_right) .none kV21 dc21 pm21 an21 cd21 ct21), sl21⟩) (c21 : PySem.W.codeIn K cd21 "_law_right" = true) (k21 : PySem.W.keepIn K (.ref f21) = true)
    (a22 : PySem.W.nsIn K mainGlobals "law" = some (some (.ref f22))) (l22 : K.lookup f22 = some ⟨oc22, od22, .func (PySem.W.fnOf "law" "law" (defArgs s_law) (defBody s_law) (defScope s_law) .none kV22 dc22 pm22 an22 cd22 ct22), sl22⟩) (c22 : PySem.W.codeIn K cd22 "law" = true) (k22 : PySem.W.keepIn K (.ref f22) = true)
    (z1 : PySem.W.nsIn K mainGlobals "len" = some none) (z2 : PySem.W.nsIn K mainGlobals "abs" = some none) (z3 : PySem.W.nsIn K mainGlobals "int" = some none) (z4 : PySem.W.nsIn K mainGlobals "list" = some none) (z5 : PySem.W.nsIn K mainGlobals "enumerate" = some none) (z6 : PySem.W.nsIn K mainGlobals "range" = some none) (z7 : PySem.W.nsIn K mainGlobals "min" = some none) (z8 : PySem.W.nsIn K mainGlobals "tuple" = some none) (z9 : PySem.W.nsIn K mainGlobals "isinstance" = some none) (z10 : PySem.W.nsIn K mainGlobals "bool" = some none) (z11 : PySem.W.nsIn K mainGlobals "str" = some none) (z12 : PySem.W.nsIn K mainGlobals "all" = some none) (z13 : PySem.W.nsIn K mainGlobals "any" = some none) (z14 : PySem.W.nsIn K mainGlobals "zip" = some none) (z15 : PySem.W.nsIn K mainGlobals "sum" = some none) (z16 : PySem.W.nsIn K mainGlobals "max" = some none) :
    ∃ fd : FuncData, (∀ (s : Shared) (v : Value), BindsTo s fd ⟨[v], []⟩ [("_law_script", v)]) ∧ ∀ base : Heap, K.In base → base.Ns mainGlobals mg → FnOk l.prog w K mg base CX0 9 fa fd ["_law_script"] (spLaw K) := by
  have e := hfa.symm.trans (PySem.W.mg_of X G a22)
  cases e
  have F1 := fun_mk (st := s_idle) l1 c1 k1
  have g1 := PySem.W.mg_of X G a1
  have b1 := F1.binds (ps := ["net"]) fun _ _ _ _ _ _ us hl => match us, hl with | [_], _ => rfl
  have F2 := fun_mk (st := s_most_lead) l2 c2 k2
  have g2 := PySem.W.mg_of X G a2
  have b2 := F2.binds (ps := ["queue"]) fun _ _ _ _ _ _ us hl => match us, hl with | [_], _ => rfl
  have F3 := fun_mk (st := s_spans) l3 c3 k3
  have g3 := PySem.W.mg_of X G a3
  have b3 := F3.binds (ps := ["net", "counts"]) fun _ _ _ _ _ _ us hl => match us, hl with | [_, _], _ => rfl
  have F4 := fun_mk (st := s_can_stand) l4 c4 k4
  have g4 := PySem.W.mg_of X G a4
  have b4 := F4.binds (ps := ["net", "counts"]) fun _ _ _ _ _ _ us hl => match us, hl with | [_, _], _ => rfl
  have F5 := fun_mk (st := s_is_low) l5 c5 k5
  have g5 := PySem.W.mg_of X G a5
  have b5 := F5.binds (ps := ["queue", "lead"]) fun _ _ _ _ _ _ us hl => match us, hl with | [_, _], _ => rfl
  have F6 := fun_mk (st := s_is_high) l6 c6 k6
  have g6 := PySem.W.mg_of X G a6
  have b6 := F6.binds (ps := ["queue", "lead"]) fun _ _ _ _ _ _ us hl => match us, hl with | [_, _], _ => rfl
  have F7 := fun_mk (st := s_silences) l7 c7 k7
  have g7 := PySem.W.mg_of X G a7
  have b7 := F7.binds (ps := ["net", "counts", "going"]) fun _ _ _ _ _ _ us hl => match us, hl with | [_, _, _], _ => rfl
  have F8 := fun_mk (st := s_is_stop) l8 c8 k8
  have g8 := PySem.W.mg_of X G a8
  have b8 := F8.binds (ps := ["net", "counts", "going"]) fun _ _ _ _ _ _ us hl => match us, hl with | [_, _, _], _ => rfl
  have F9 := fun_mk (st := s_going_on) l9 c9 k9
  have g9 := PySem.W.mg_of X G a9
  have b9 := F9.binds (ps := ["net", "many", "counts"]) fun _ _ _ _ _ _ us hl => match us, hl with | [_, _, _], _ => rfl
  have F10 := fun_mk (st := s_can_be_left) l10 c10 k10
  have g10 := PySem.W.mg_of X G a10
  have b10 := F10.binds (ps := ["net", "many", "counts"]) fun _ _ _ _ _ _ us hl => match us, hl with | [_, _, _], _ => rfl
  have F11 := fun_mk (st := s_price) l11 c11 k11
  have g11 := PySem.W.mg_of X G a11
  have b11 := F11.binds (ps := ["net", "many", "counts"]) fun _ _ _ _ _ _ us hl => match us, hl with | [_, _, _], _ => rfl
  have F12 := fun_mk (st := s_w_box) l12 c12 k12
  have g12 := PySem.W.mg_of X G a12
  have b12 := F12.binds (ps := ["_law_script", "_law_k"]) fun _ _ _ _ _ _ us hl => match us, hl with | [_, _], _ => rfl
  have F13 := fun_mk (st := s_w_take) l13 c13 k13
  have g13 := PySem.W.mg_of X G a13
  have b13 := F13.binds (ps := ["_law_box_here", "_law_below"]) fun _ _ _ _ _ _ us hl => match us, hl with | [_, _], _ => rfl
  have F14 := fun_mk (st := s_w_cells) l14 c14 k14
  have g14 := PySem.W.mg_of X G a14
  have b14 := F14.binds (ps := ["_law_script", "_law_most"]) fun _ _ _ _ _ _ us hl => match us, hl with | [_, _], _ => rfl
  have F15 := fun_mk (st := s_w_lists) l15 c15 k15
  have g15 := PySem.W.mg_of X G a15
  have b15 := F15.binds (ps := ["_law_matter"]) fun _ _ _ _ _ _ us hl => match us, hl with | [_], _ => rfl
  have F16 := fun_mk (st := s_w_same) l16 c16 k16
  have g16 := PySem.W.mg_of X G a16
  have b16 := F16.binds (ps := ["_law_got", "_law_due"]) fun _ _ _ _ _ _ us hl => match us, hl with | [_, _], _ => rfl
  have F17 := fun_mk (st := s_w_says) l17 c17 k17
  have g17 := PySem.W.mg_of X G a17
  have b17 := F17.binds (ps := ["_law_web", "_law_most", "_law_row", "_law_due"]) fun _ _ _ _ _ _ us hl => match us, hl with | [_, _, _, _], _ => rfl
  have F18 := fun_mk (st := s_w_fork) l18 c18 k18
  have g18 := PySem.W.mg_of X G a18
  have b18 := F18.binds (ps := ["_law_g"]) fun _ _ _ _ _ _ us hl => match us, hl with | [_], _ => rfl
  have F19 := fun_mk (st := s_w_forks_right) l19 c19 k19
  have g19 := PySem.W.mg_of X G a19
  have b19 := F19.binds (ps := ["_law_g"]) fun _ _ _ _ _ _ us hl => match us, hl with | [_], _ => rfl
  have F20 := fun_mk (st := s_w_still_right) l20 c20 k20
  have g20 := PySem.W.mg_of X G a20
  have b20 := F20.binds (ps := ["_law_g"]) fun _ _ _ _ _ _ us hl => match us, hl with | [_], _ => rfl
  have F21 := fun_mk (st := s_w_right) l21 c21 k21
  have g21 := PySem.W.mg_of X G a21
  have b21 := F21.binds (ps := ["_law_box_here"]) fun _ _ _ _ _ _ us hl => match us, hl with | [_], _ => rfl
  have F22 := fun_mk (st := s_law) l22 c22 k22
  have g22 := PySem.W.mg_of X G a22
  have m_len := PySem.W.mg_none_of X G z1
  have m_abs := PySem.W.mg_none_of X G z2
  have m_int := PySem.W.mg_none_of X G z3
  have m_list := PySem.W.mg_none_of X G z4
  have m_enumerate := PySem.W.mg_none_of X G z5
  have m_range := PySem.W.mg_none_of X G z6
  have m_min := PySem.W.mg_none_of X G z7
  have m_tuple := PySem.W.mg_none_of X G z8
  have m_isinstance := PySem.W.mg_none_of X G z9
  have m_bool := PySem.W.mg_none_of X G z10
  have m_str := PySem.W.mg_none_of X G z11
  have m_all := PySem.W.mg_none_of X G z12
  have m_any := PySem.W.mg_none_of X G z13
  have m_zip := PySem.W.mg_none_of X G z14
  have m_sum := PySem.W.mg_none_of X G z15
  have m_max := PySem.W.mg_none_of X G z16
  have kbL : KBinds K (PySem.W.fnOf "can_be_left" "can_be_left" (defArgs s_can_be_left) (defBody s_can_be_left) (defScope s_can_be_left) .none kV10 dc10 pm10 an10 cd10 ct10) ["net", "many", "counts"] ["counts", "many", "net"] gR0 gR0 := ⟨fun s us ws _ hl => match us, hl with | [], hl => (match ws, (show ws.length = 3 from by simpa [gR0] using hl) with | [_, _, _], _ => .of_eq rfl) | _ :: _, hl => absurd hl (fun z => nomatch z), fun r1 r2 => vals_gR0 r1 r2⟩
  have kbP : KBinds K (PySem.W.fnOf "price" "price" (defArgs s_price) (defBody s_price) (defScope s_price) .none kV11 dc11 pm11 an11 cd11 ct11) ["net", "many", "counts"] ["counts", "many"] gR1 gR1 := ⟨fun s us ws _ hl => match us, hl with | [_], hl => (match ws, (show ws.length = 2 from by simpa [gR1] using hl) with | [_, _], _ => .of_eq rfl) | [], hl => absurd hl (fun z => nomatch z) | _ :: _ :: _, hl => absurd hl (fun z => nomatch z), fun r1 r2 => vals_gR1 r1 r2⟩
  clear hfa a1 l1 c1 k1 a2 l2 c2 k2 a3 l3 c3 k3 a4 l4 c4 k4 a5 l5 c5 k5 a6 l6 c6 k6 a7 l7 c7 k7 a8 l8 c8 k8 a9 l9 c9 k9 a10 l10 c10 k10 a11 l11 c11 k11 a12 l12 c12 k12 a13 l13 c13 k13 a14 l14 c14 k14 a15 l15 c15 k15 a16 l16 c16 k16 a17 l17 c17 k17 a18 l18 c18 k18 a19 l19 c19 k19 a20 l20 c20 k20 a21 l21 c21 k21 a22 l22 c22 k22 z1 z2 z3 z4 z5 z6 z7 z8 z9 z10 z11 z12 z13 z14 z15 z16
  refine ⟨PySem.W.fnOf "law" "law" (defArgs s_law) (defBody s_law) (defScope s_law) .none kV22 dc22 pm22 an22 cd22 ct22, fun s v => .of_eq rfl, fun base _ _ => ?_⟩
  have Gbox := ok_box (P := l.prog) (w := w) (base := base) (k := 7) F12 m_len m_abs m_int
  have Gtake1 := ok_take2 (ok_take (P := l.prog) (w := w) (base := base) (k := 0) F13 m_int)
  have Gcells := ok_cells (P := l.prog) (w := w) (base := base) (k := 7) F14 m_int m_list m_enumerate
  have Glists := ok_lists (P := l.prog) (w := w) (base := base) F15 g15 b15 m_isinstance m_list m_tuple 4
  have Gsame := ok_same (P := l.prog) (w := w) (base := base) F16 g16 b16 m_isinstance m_list m_tuple m_bool m_str m_int m_len m_all m_zip 4
  have Gidle := ok_idle (P := l.prog) (w := w) (base := base) (k := 0) F1 m_len m_tuple
  have Gmost := ok_most_lead (P := l.prog) (w := w) (base := base) (mg := mg) (k := 0) F2
  have Gspans := ok_spans (P := l.prog) (w := w) (base := base) (k := 0) F3 m_enumerate
  have Gcan := ok_can_stand F4 Gidle g1 F1 b1 Gspans g3 F3 b3 Gmost g2 F2 b2 m_any m_all m_enumerate
  have Glow := ok_is_low (P := l.prog) (w := w) (base := base) (mg := mg) (k := 0) F5
  have Ghigh := ok_is_high (P := l.prog) (w := w) (base := base) (mg := mg) (k := 0) F6
  have Gsil := ok_silences F7 Gspans g3 F3 b3 Glow g5 F5 b5 Ghigh g6 F6 b6 m_len m_min
  have Ggo := ok_going_on (P := l.prog) (w := w) (base := base) (mg := mg) (k := 0) F9 m_enumerate
  have Gstop := ok_is_stop F8 Gcan g4 F4 b4 Gsil g7 F7 b7
  have Gleft := ok_can_be_left F10 Gstop g8 F8 b8 (Ggo.mono (by decide : 1 ≤ 3)) g9 F9 b9 m_all
  have Gprice := ok_price F11 Gleft g10 F10 b10 (Gspans.mono (by decide : 1 ≤ 4)) g3 F3 b3 (Gsil.mono (by decide : 2 ≤ 4)) g7 F7 b7 (Ggo.mono (by decide : 1 ≤ 4)) g9 F9 b9 m_sum m_max
  have Gsays := ok_w_says F17 (Gleft.mono (by decide : 4 ≤ 5)) g10 F10 b10 Gprice g11 F11 b11 (Glists.mono (by decide : 4 ≤ 5)) g15 F15 b15 (Gsame.mono (by decide : 4 ≤ 5)) g16 F16 b16 kbL kbP m_list
  have Gfork := ok_w_fork (P := l.prog) (w := w) (base := base) (mg := mg) (k := 5) F18
  have Gforks := ok_w_forks_right F19 Gfork g18 F18 b18 Gsays g17 F17 b17
  have Gstill := ok_w_still_right F20 Gsays g17 F17 b17
  have Gright := ok_right F21 (Gtake1.mono (by decide : 1 ≤ 7)) g13 F13 b13 Gforks g19 F19 b19 Gstill g20 F20 b20
  exact ok_law F22 Gcells g14 F14 b14 Gbox g12 F12 b12 Gright g21 F21 b21 m_all m_range m_len
end Jl
open PySem PySem.W PyProof.Rows
set_option maxHeartbeats 0 in
theorem PySem.Challenge.cw_joinlags_k49_rows_at_their_bounds_holds : PySem.Challenge.rw_joinlags_k49_rows_at_their_bounds.Holds := by
  w_on; o_law; k_head; (case hw => w_witness2)
  k_fill
  refine L2.walk_of (l := PySem.Challenge.rw_joinlags_k49_rows_at_their_bounds) (n := 63) (k := 9) (x := "_law_script") (CX := fun _ => L2.CX0) (sp := fun w => Jl.spLaw _) rfl (by decide) rfl ⟨rfl, by decide, by decide⟩ (fun w h Y => PySem.W.kIn_of Y) ?F (fun _ _ a ns hl _ hS => ⟨a, ns, rfl, hS, hl, fun _ => rfl⟩) (fun _ _ _ _ _ h => h)
  case F =>
    intro w mg fa h KX G hmg
    refine' Jl.all_mk KX G hmg ?a1 ?l1 ?c1 ?k1 ?a2 ?l2 ?c2 ?k2 ?a3 ?l3 ?c3 ?k3 ?a4 ?l4 ?c4 ?k4 ?a5 ?l5 ?c5 ?k5 ?a6 ?l6 ?c6 ?k6 ?a7 ?l7 ?c7 ?k7 ?a8 ?l8 ?c8 ?k8 ?a9 ?l9 ?c9 ?k9 ?a10 ?l10 ?c10 ?k10 ?a11 ?l11 ?c11 ?k11 ?a12 ?l12 ?c12 ?k12 ?a13 ?l13 ?c13 ?k13 ?a14 ?l14 ?c14 ?k14 ?a15 ?l15 ?c15 ?k15 ?a16 ?l16 ?c16 ?k16 ?a17 ?l17 ?c17 ?k17 ?a18 ?l18 ?c18 ?k18 ?a19 ?l19 ?c19 ?k19 ?a20 ?l20 ?c20 ?k20 ?a21 ?l21 ?c21 ?k21 ?a22 ?l22 ?c22 ?k22 ?z1 ?z2 ?z3 ?z4 ?z5 ?z6 ?z7 ?z8 ?z9 ?z10 ?z11 ?z12 ?z13 ?z14 ?z15 ?z16
    (case a1 => k_is); (case l1 => k_is); (case c1 => k_is); (case k1 => k_is); (case a2 => k_is); (case l2 => k_is); (case c2 => k_is); (case k2 => k_is); (case a3 => k_is); (case l3 => k_is); (case c3 => k_is); (case k3 => k_is); (case a4 => k_is); (case l4 => k_is); (case c4 => k_is); (case k4 => k_is); (case a5 => k_is); (case l5 => k_is); (case c5 => k_is); (case k5 => k_is); (case a6 => k_is); (case l6 => k_is); (case c6 => k_is); (case k6 => k_is); (case a7 => k_is); (case l7 => k_is); (case c7 => k_is); (case k7 => k_is); (case a8 => k_is); (case l8 => k_is); (case c8 => k_is); (case k8 => k_is); (case a9 => k_is); (case l9 => k_is); (case c9 => k_is); (case k9 => k_is); (case a10 => k_is); (case l10 => k_is); (case c10 => k_is); (case k10 => k_is); (case a11 => k_is); (case l11 => k_is); (case c11 => k_is); (case k11 => k_is); (case a12 => k_is); (case l12 => k_is); (case c12 => k_is); (case k12 => k_is); (case a13 => k_is); (case l13 => k_is); (case c13 => k_is); (case k13 => k_is); (case a14 => k_is); (case l14 => k_is); (case c14 => k_is); (case k14 => k_is); (case a15 => k_is); (case l15 => k_is); (case c15 => k_is); (case k15 => k_is); (case a16 => k_is); (case l16 => k_is); (case c16 => k_is); (case k16 => k_is); (case a17 => k_is); (case l17 => k_is); (case c17 => k_is); (case k17 => k_is); (case a18 => k_is); (case l18 => k_is); (case c18 => k_is); (case k18 => k_is); (case a19 => k_is); (case l19 => k_is); (case c19 => k_is); (case k19 => k_is); (case a20 => k_is); (case l20 => k_is); (case c20 => k_is); (case k20 => k_is); (case a21 => k_is); (case l21 => k_is); (case c21 => k_is); (case k21 => k_is); (case a22 => k_is); (case l22 => k_is); (case c22 => k_is); (case k22 => k_is); (case z1 => k_is); (case z2 => k_is); (case z3 => k_is); (case z4 => k_is); (case z5 => k_is); (case z6 => k_is); (case z7 => k_is); (case z8 => k_is); (case z9 => k_is); (case z10 => k_is); (case z11 => k_is); (case z12 => k_is); (case z13 => k_is); (case z14 => k_is); (case z15 => k_is); (case z16 => k_is)

