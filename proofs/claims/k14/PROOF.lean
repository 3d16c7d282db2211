import PyProof.Rows.All
import HandS.ForMost
import HandS.Wide
import HandS.IsInst
import HandS.Zip
import HandS.DictComp
import HandS.SetKeys
import HandS.Flow
import HandS.SortOrd
import HandS.Evl
import HandS.Walk
import PySem.Challenge.RW_joinlags_k14_whole_a_worker_in_the_middl
import PyProof.ListRange
import HandS.Sort
import HandS.Strs
import KE.SortData
import HandS.TryOnly
import HandS.SortKw
import HandS.TupAny
import KE.DataMinMax
import KE.GoesEnum
import PyProof.Rows.SeqMore
import HandS.SetTxtIn
import HandS.TupSets
import PyProof.Rows.RowBridgeK
import HandS.Style
import HandS.TupMul
import HandS.Codes
import KE.KRevSl
import HandS.Deep
import KE.KOpsOwn
set_option Elab.async false
set_option linter.all false
set_option maxRecDepth 100000
set_option maxHeartbeats 4000000
namespace Jl
open PySem PySem.Spec PyProof.Rows L2
open Evl (sz_of sz_lt)
def topS (i : Nat) : Stmt := PySem.Challenge.pw_joinlags_k14_whole_a_worker_in_the_middl.main.body.getD i (.Pass ⟨0, 0, 0, 0⟩)
abbrev sc_w_box_N : List Str := ["_law_script", "_law_k", "_law_cell"]
abbrev s_w_box : Stmt := topS 29
theorem sc_w_box : FnScope ["_law_script", "_law_k", "_law_cell"] ["_law_script", "_law_k"] (defScope s_w_box) := ⟨rfl, rfl, rfl, by decide +kernel, rfl, by decide +kernel, by decide +kernel⟩
local macro_rules | `(tactic| walk_at "at") => `(tactic| fail)
local macro_rules | `(tactic| walk_at "side") => `(tactic| first
  | (show (0 : Int) < _; decide)
  | (show (0 : Int) < _; omega)
  | exact ⟨by decide, by decide, by decide⟩
  | exact sz_of (Nat.le_of_ble_eq_true rfl)
  | exact rfl
  | exact Or.inl (by decide)
  | exact Or.inr (by decide)
  | exact Or.inr ⟨by omega, by omega⟩
  | exact Or.inl ⟨by omega, by omega⟩
  | exact ⟨by decide, by decide +kernel⟩)
local macro_rules | `(tactic| walk_at "ev1") => `(tactic| first
  | refine ⟨_, rfl, ?_⟩
  | refine ⟨_, _, rfl, rfl, ?_⟩
  | refine ⟨_, _, _, _, rfl, rfl, (by assumption), (by walk_at "at"), ?_⟩
  | refine Or.inl ⟨_, rfl, ?_⟩
  | refine Or.inr ⟨_, rfl, ?_⟩
  | refine ⟨(by walk_at "side"), ?_⟩)
local macro_rules | `(tactic| walk_at "ev") => `(tactic| repeat (walk_at "ev1"))
abbrev sc_w_take_N : List Str := ["_law_box_here", "_law_below", "_law_once", "_law_far", "_law_twice", "_law_drawn"]
abbrev s_w_take : Stmt := topS 30
theorem sc_w_take : FnScope ["_law_box_here", "_law_below", "_law_once", "_law_far", "_law_twice", "_law_drawn"] ["_law_box_here", "_law_below"] (defScope s_w_take) := ⟨rfl, rfl, rfl, by decide +kernel, rfl, by decide +kernel, by decide +kernel⟩
section
variable {P : Program} {w : World} {K : PySem.W.Frag} {mg : Str → Option Value} {base : Heap}
/-! ### the box: three numbers -/
def boxV (c0 c1 c2 : Int) : List V := [.int c0, .int c1, .int c2]
theorem box0 {c0 c1 c2 : Int} : atI (boxV c0 c1 c2) 0 = some (.int c0) := atI_nat (j := 0) rfl
theorem box1 {c0 c1 c2 : Int} : atI (boxV c0 c1 c2) 1 = some (.int c1) := atI_nat (j := 1) rfl
theorem box2 {c0 c1 c2 : Int} : atI (boxV c0 c1 c2) 2 = some (.int c2) := atI_nat (j := 2) rfl
local macro_rules | `(tactic| walk_at "at") => `(tactic| first | exact box0 | exact box1 | exact box2)
/-- _law_box(script, k) -/
def spBox (K : PySem.W.Frag) : Sp := fun vs H Q _ => ∃ (a : Addr) (ns : List Int) (k : Int), vs = [.ref a, .int k] ∧ SqL K H a (ns.map V.int) ∧ 0 ≤ k ∧ k < 100 ∧
  ∀ p c0 c1, H p = none → 0 ≤ c0 → 0 ≤ c1 → c1 < 2 ^ 62 → Q (.ref p) (upd H p (.lst (boxV c0 c1 0)))
theorem ok_box {f : Addr} {fd : FuncData} {k : Nat} (F : Fun K "_law_box" "_law_box" s_w_box f fd) (m_len : mg "len" = none) (m_abs : mg "abs" = none) (m_int : mg "int" = none) : FnOk P w K mg base CX0 (k + 1) f fd ["_law_script", "_law_k"] (spBox K) := by
  refine F.ok sc_w_box (fun vs H Q E h => ?_) (fun cdv A outer s H vs Q E hr h => ?_)
  · obtain ⟨a, ns, k, rfl, _⟩ := h
    rfl
  · obtain ⟨a, ns, j, rfl, hS, j0, j1, q⟩ := h
    refine ⟨_, (pss_cons (ps_set (i := 2) sc_w_box.nd rfl (Or.inl rfl) (pe_ifExp (pt_cmpR op_lt (pv 1) (pe_callB call_len_seq (by rfl) m_len PySem.boot_len (pa_cons (pv 0) pa_nil)) (nomark _)) (pe_ix ix_list (pv 0) (pv 1) (fun _ _ => rfl)) pe_int)) 
    (pss_one (ps_ret (pe_lst (pa_cons (pe_op op_mul (pe_callB call_abs (by rfl) m_abs (by decide +kernel) (pa_cons (pv 2) pa_nil)) (pe_callTy call_int1 (by rfl) m_int (by decide +kernel) (pa_cons (pe_cmpR op_ge (pe_callB call_abs (by rfl) m_abs (by decide +kernel) (pa_cons (pv 2) pa_nil)) (pe_op op_pow pe_int pe_int) (nomark _)) pa_nil))) (pa_cons (pe_op op_add (pe_op op_add (pe_op op_mod (pe_callTy call_int1 (by rfl) m_int (by decide +kernel) (pa_cons (pv 2) pa_nil)) pe_int) (pe_op op_mul pe_int (pv 1))) pe_int) (pa_cons pe_int pa_nil))))))), ?_⟩
    have fin : ∀ (c : Int), 0 ≤ (if c < 0 then -c else c) * (if decide ((10 : Int) ^ (18 : Int).toNat ≤ (if c < 0 then -c else c)) = true then 1 else 0) ∧ 0 ≤ c % 2305843009213693951 + 39373 * j + 307 ∧ c % 2305843009213693951 + 39373 * j + 307 < 2 ^ 62 := fun c => by
      refine ⟨Int.mul_nonneg (by split <;> omega) (by split <;> omega), by omega, by omega⟩
    have h01 : ∀ (b : Bool), -(2 ^ 64) < (if b = true then (1 : Int) else 0) ∧ (if b = true then (1 : Int) else 0) < 2 ^ 64 := fun b => by cases b <;> decide
    refine ⟨_, rfl, .ref a, rfl, a, _, rfl, .inl hS, _, _, rfl, rfl, _, rfl, ite2 (fun e => ?_) (fun e => ?_)⟩
    · have e1 : j < ((ns.map V.int).length : Int) := of_decide_eq_true e
      rw [List.length_map] at e1
      have hj : j.toNat < ns.length := by omega
      have hat : atI (ns.map V.int) j = some (.int ns[j.toNat]) := at_of (j := j.toNat) (by omega) (by rw [List.getElem?_map, List.getElem?_eq_getElem hj]; rfl)
      refine ⟨_, rfl, _, rfl, a, _, _, _, rfl, rfl, hS, hat, ?_⟩
      generalize ns[j.toNat] = c
      walk_at "ev"
      exact fun p hp => q p _ _ hp (fin c).1 (fin c).2.1 (fin c).2.2
    · walk_at "ev"
      exact fun p hp => q p _ _ hp (fin 0).1 (fin 0).2.1 (fin 0).2.2
/-- _law_take(box, below): a drawn number below, the box goes on -/
def spTake (K : PySem.W.Frag) : Sp := fun vs H Q _ => ∃ (b : Addr) (c0 c1 c2 n : Int), vs = [.ref b, .int n] ∧ H b = some (.lst (boxV c0 c1 c2)) ∧ 0 ≤ c0 ∧ 0 ≤ c1 ∧ c1 < 2 ^ 62 ∧ 0 ≤ c2 ∧ c2 < 2 ^ 60 ∧ 1 ≤ n ∧ n.natAbs < 2 ^ 8000 ∧
  ∀ r d0 d2, 0 ≤ r → r < n → 0 ≤ d0 → 0 ≤ d2 → d2 ≤ c2 + 1 → Q (.int r) (upd H b (.lst (boxV d0 c1 d2)))
theorem ok_take {f : Addr} {fd : FuncData} {k : Nat} (F : Fun K "_law_take" "_law_take" s_w_take f fd) (m_int : mg "int" = none) : FnOk P w K mg base CX0 (k + 1) f fd ["_law_box_here", "_law_below"] (spTake K) := by
  refine F.ok sc_w_take (fun vs H Q E h => ?_) (fun cdv A outer s H vs Q E hr h => ?_)
  · obtain ⟨b, c0, c1, c2, n, rfl, _⟩ := h
    rfl
  · obtain ⟨b, c0, c1, c2, n, rfl, hb, c00, c10, c11, c20, c21, n0, n1, q⟩ := h
    refine ⟨_, (pss_cons (ps_if (pt_cmpR op_gt (pe_ix ix_list (pv 0) pe_int (fun _ _ => rfl)) pe_int (nomark _)) 
      (pss_cons (ps_set (i := 5) sc_w_take.nd rfl (Or.inl rfl) (pe_op op_mod (pe_callTy call_int1 (by rfl) m_int (by decide +kernel) (pa_cons (pe_ix ix_list (pv 0) pe_int (fun _ _ => rfl)) pa_nil)) (pv 1))) 
      (pss_cons (ps_asg (pe_op op_fdivW (pe_ix ix_list (pv 0) pe_int (fun _ _ => rfl)) (pv 1)) (pg_sub (pv 0) pe_int set_list)) 
      (pss_one (ps_ret (pv 5))))) pss_nil) 
    (pss_cons (ps_asg (pe_op op_add (pe_ix ix_list (pv 0) pe_int (fun _ _ => rfl)) pe_int) (pg_sub (pv 0) pe_int set_list)) 
    (pss_cons (ps_set (i := 2) sc_w_take.nd rfl (Or.inl rfl) (pe_op op_mod (pe_callTy call_int1 (by rfl) m_int (by decide +kernel) (pa_cons (pe_op op_mul (pe_op op_add (pe_ix ix_list (pv 0) pe_int (fun _ _ => rfl)) (pe_op op_mul pe_int (pe_ix ix_list (pv 0) pe_int (fun _ _ => rfl)))) (pe_op op_add pe_int (pe_ix ix_list (pv 0) pe_int (fun _ _ => rfl)))) pa_nil)) pe_int)) 
    (pss_cons (ps_set (i := 3) sc_w_take.nd rfl (Or.inl rfl) (pe_op op_add (pe_op op_mod (pe_callTy call_int1 (by rfl) m_int (by decide +kernel) (pa_cons (pv 2) pa_nil)) pe_int) pe_int)) 
    (pss_cons (ps_set (i := 4) sc_w_take.nd rfl (Or.inl rfl) (pe_op op_mod (pe_callTy call_int1 (by rfl) m_int (by decide +kernel) (pa_cons (pe_op op_mul (pe_op op_add (pe_op op_add (pv 2) (pe_ix ix_list (pv 0) pe_int (fun _ _ => rfl))) (pe_op op_fdivW (pe_ix ix_list (pv 0) pe_int (fun _ _ => rfl)) pe_int)) (pv 3)) pa_nil)) pe_int)) 
    (pss_one (ps_ret (pe_op op_mod (pe_callTy call_int1 (by rfl) m_int (by decide +kernel) (pa_cons (pe_op op_fdivW (pe_op op_mod (pe_callTy call_int1 (by rfl) m_int (by decide +kernel) (pa_cons (pe_op op_add (pe_op op_mul (pv 4) pe_int) (pv 2)) pa_nil)) pe_int) pe_int) pa_nil)) (pv 1))))))))), ?_⟩
    have hL : SqL K H b (boxV c0 c1 c2) := .inl (.inl hb)
    have small : ∀ j : Int, j = 1000003 ∨ j = 64 → CDivW 0 j := fun j h => by rcases h with h | h <;> (rw [h]; exact ⟨by decide, by decide +kernel⟩)
    walk_at "ev"
    refine ite2 (fun e => ?_) (fun e => ?_)
    · have e1 : 0 < c0 := of_decide_eq_true e
      walk_at "ev"
      refine ⟨wide_div (by omega) n1 (by decide) (by decide), ?_⟩
      walk_at "ev"
      refine ⟨b, _, _, 0, rfl, rfl, hb, rfl, ?_⟩
      refine ⟨_, rfl, ?_⟩
      exact q _ _ _ (Int.emod_nonneg _ (by omega)) (Int.emod_lt_of_pos _ (by omega)) (Int.ediv_nonneg c00 (by omega)) c20 (by omega)
    · walk_at "ev"
      refine ⟨b, _, _, 2, rfl, rfl, hb, rfl, ?_⟩
      have hb2 : (upd H b (.lst (boxV c0 c1 (c2 + 1)))) b = some (.lst (boxV c0 c1 (c2 + 1))) := upd_same
      have hL2 : SqL K (upd H b (.lst (boxV c0 c1 (c2 + 1)))) b (boxV c0 c1 (c2 + 1)) := .inl (.inl hb2)
      have fin : ∀ x : Int, Q (.int (x % n)) (upd H b (.lst (boxV c0 c1 (c2 + 1)))) := fun x => q _ _ _ (Int.emod_nonneg _ (by omega)) (Int.emod_lt_of_pos _ (by omega)) c00 (by omega) (by omega)
      show tSeq _ _ _ _ (upd H b (.lst (boxV c0 c1 (c2 + 1))))
      generalize upd H b (.lst (boxV c0 c1 (c2 + 1))) = H2 at hb2 hL2 fin
      walk_at "ev"
      exact fin _
end
end Jl

set_option Elab.async false
set_option linter.all false
set_option maxRecDepth 100000
set_option maxHeartbeats 4000000
namespace Jl
open PySem PySem.Spec PyProof.Rows L2
open Evl (sz_of sz_lt)
/-! ### heaps without some addresses -/
def cutS (S : List Addr) (H : Hp) : Hp := fun a => if a ∈ S then none else H a
theorem cutS_nil {H : Hp} : cutS [] H = H := by
  funext a
  unfold cutS
  rw [if_neg (List.not_mem_nil)]
theorem cutS_in {S : List Addr} {H : Hp} {a : Addr} (h : a ∈ S) : cutS S H a = none := by
  unfold cutS
  rw [if_pos h]
theorem cutS_out {S : List Addr} {H : Hp} {a : Addr} (h : a ∉ S) : cutS S H a = H a := by
  unfold cutS
  rw [if_neg h]
theorem cutS_some {S : List Addr} {H : Hp} {a : Addr} {o : HO} (h : cutS S H a = some o) : a ∉ S ∧ H a = some o := by
  by_cases q : a ∈ S
  · rw [cutS_in q] at h
    cases h
  · rw [cutS_out q] at h
    exact ⟨q, h⟩
theorem cutS_le {S : List Addr} {H : Hp} : Same (cutS S H) H := fun b o h => (cutS_some h).2
theorem cutS_mono {S : List Addr} {H H' : Hp} (e : Same H H') : Same (cutS S H) (cutS S H') := fun b o h => by
  obtain ⟨h1, h2⟩ := cutS_some h
  rw [cutS_out h1]
  exact e b o h2
theorem cutS_sub {S T : List Addr} {H : Hp} (h : ∀ a ∈ T, a ∈ S) : Same (cutS S H) (cutS T H) := fun b o q => by
  obtain ⟨h1, h2⟩ := cutS_some q
  rw [cutS_out fun z => h1 (h b z)]
  exact h2
theorem cutS_upd {S : List Addr} {H : Hp} {a : Addr} {o : HO} (h : a ∈ S) : cutS S (upd H a o) = cutS S H := by
  funext b
  by_cases q : b ∈ S
  · rw [cutS_in q, cutS_in q]
  · rw [cutS_out q, cutS_out q, upd_ne (fun e => q (by rw [e]; exact h))]
/-- a new object -/
theorem _root_.L2.Same.upd {H : Hp} {p : Addr} {o : HO} (h : H p = none) : Same H (upd H p o) := fun b x e => by
  rw [upd_ne (ne_of_none e h)]
  exact e
theorem _root_.L2.Same.mut {H H' : Hp} {p : Addr} {o : HO} (e : Same H H') (h : H p = none) : Same H (L2.upd H' p o) := fun a u ha => by
  rw [upd_ne (ne_of_none ha h)]
  exact e a u ha
def Trk (S : List Addr) (H : Hp) : Prop := ∀ a ∈ S, H a ≠ none
theorem Trk.nil {H : Hp} : Trk [] H := fun _ h => absurd h List.not_mem_nil
theorem Trk.mono {S : List Addr} {H H' : Hp} (t : Trk S H) (e : Same H H') : Trk S H' := fun a ha z => by
  cases q : H a with
  | none => exact t a ha q
  | some o =>
    rw [e a o q] at z
    cases z
theorem Trk.upd {S : List Addr} {H : Hp} {p : Addr} {o : HO} (t : Trk S H) : Trk S (L2.upd H p o) := fun a ha z => by
  by_cases e : a = p
  · rw [e, upd_same] at z
    cases z
  · rw [upd_ne e] at z
    exact t a ha z
theorem Trk.cons {S : List Addr} {H : Hp} {p : Addr} {o : HO} (t : Trk S H) (h : H p = some o) : Trk (p :: S) H := fun a ha z => by
  rcases List.mem_cons.mp ha with e | e
  · rw [e, h] at z
    cases z
  · exact t a e z
theorem Trk.out {S : List Addr} {H : Hp} {p : Addr} (t : Trk S H) (h : H p = none) : p ∉ S := fun z => t p z h
/-- a new object beside the cut -/
theorem cutS_new {S : List Addr} {H : Hp} {p : Addr} {o : HO} (t : Trk S H) (h : H p = none) : cutS S (L2.upd H p o) p = some o := by
  rw [cutS_out (t.out h), upd_same]
theorem cutS_none {S : List Addr} {H : Hp} {p : Addr} (h : H p = none) : cutS S H p = none := by
  by_cases q : p ∈ S
  · exact cutS_in q
  · rw [cutS_out q, h]
/-- a new object that will change goes into the cut -/
theorem cutS_cons {S : List Addr} {H : Hp} {p : Addr} {o : HO} (h : H p = none) : Same (cutS S H) (cutS (p :: S) (L2.upd H p o)) := fun b u q => by
  obtain ⟨h1, h2⟩ := cutS_some q
  have hb : b ≠ p := ne_of_none h2 h
  rw [cutS_out (fun z => by
    rcases List.mem_cons.mp z with e | e
    · exact hb e
    · exact h1 e), upd_ne hb]
  exact h2
theorem cutS_tail {S : List Addr} {H : Hp} {p : Addr} : Same (cutS (p :: S) H) (cutS S H) := cutS_sub fun _ h => List.mem_cons_of_mem _ h
/-! ### lists and tuples alike (f: a tuple) -/
def SqF (f : Bool) (K : PySem.W.Frag) (H : Hp) (a : Addr) (xs : List V) : Prop := if f = true then SqT K H a xs else SqL K H a xs
def seqO (f : Bool) (xs : List V) : HO := if f = true then .tup xs else .lst xs
def seqD (f : Bool) (ds : List PyData) : PyData := if f = true then .tuple ds else .list ds
theorem _root_.L2.Same.sqL {K : PySem.W.Frag} {H H' : Hp} {a : Addr} {xs : List V} (e : Same H H') (h : SqL K H a xs) : SqL K H' a xs := by
  rcases h with (h | ⟨o, h⟩) | h
  · exact .inl (.inl (e _ _ h))
  · exact .inl (.inr ⟨o, e _ _ h⟩)
  · exact .inr h
theorem _root_.L2.Same.sqT {K : PySem.W.Frag} {H H' : Hp} {a : Addr} {xs : List V} (e : Same H H') (h : SqT K H a xs) : SqT K H' a xs := by
  rcases h with (h | ⟨o, h⟩) | h
  · exact .inl (.inl (e _ _ h))
  · exact .inl (.inr ⟨o, e _ _ h⟩)
  · exact .inr h
theorem _root_.L2.Same.sqF {f : Bool} {K : PySem.W.Frag} {H H' : Hp} {a : Addr} {xs : List V} (e : Same H H') (h : SqF f K H a xs) : SqF f K H' a xs := by
  cases f with
  | true => exact e.sqT h
  | false => exact e.sqL h
theorem SqF.or {f : Bool} {K : PySem.W.Frag} {H : Hp} {a : Addr} {xs : List V} (h : SqF f K H a xs) : SqL K H a xs ∨ SqT K H a xs := by
  cases f with
  | true => exact .inr h
  | false => exact .inl h
theorem SqF.of {f : Bool} {K : PySem.W.Frag} {H : Hp} {a : Addr} {xs : List V} (h : H a = some (seqO f xs)) : SqF f K H a xs := by
  cases f with
  | true => exact .inl (.inl h)
  | false => exact .inl (.inl h)
theorem sql_of {K : PySem.W.Frag} {H : Hp} {a : Addr} {xs : List V} (h : H a = some (.lst xs)) : SqL K H a xs := .inl (.inl h)
theorem sqt_of {K : PySem.W.Frag} {H : Hp} {a : Addr} {xs : List V} (h : H a = some (.tup xs)) : SqT K H a xs := .inl (.inl h)
/-! ### data -/
section
variable {K : PySem.W.Frag} {H H' : Hp}
mutual
theorem dp_mono (e : Same H H') : ∀ (d : PyData) (v : V), Dp K H v d → Dp K H' v d
  | .none, _, h => by cases h; exact .non
  | .bool b, _, h => by cases h; exact .bl b
  | .int i, _, h => by cases h; exact .int i
  | .str x, _, h => by cases h; exact .str x
  | .list ds, _, h => by
    cases h with
    | lst hs ha => exact .lst (e.sqL hs) (dpa_mono e ds _ ha)
  | .tuple ds, _, h => by
    cases h with
    | tup hs ha => exact .tup (e.sqT hs) (dpa_mono e ds _ ha)
  | .dict _, _, h => by cases h
theorem dpa_mono (e : Same H H') : ∀ (ds : List PyData) (vs : List V), DpAll K H vs ds → DpAll K H' vs ds
  | [], _, h => by cases h; exact .nil
  | d :: ds, _, h => by
    cases h with
    | cons h1 h2 => exact .cons (dp_mono e d _ h1) (dpa_mono e ds _ h2)
end
theorem _root_.L2.Same.dp (e : Same H H') {v : V} {d : PyData} (h : Dp K H v d) : Dp K H' v d := dp_mono e d v h
theorem _root_.L2.Same.dpa (e : Same H H') {vs : List V} {ds : List PyData} (h : DpAll K H vs ds) : DpAll K H' vs ds := dpa_mono e ds vs h
theorem dpa_len : ∀ {vs : List V} {ds : List PyData}, DpAll K H vs ds → vs.length = ds.length
  | _, _, .nil => rfl
  | _, _, .cons _ h => by rw [List.length_cons, List.length_cons, dpa_len h]
theorem dpa_get : ∀ {vs : List V} {ds : List PyData} {i : Nat} {v : V}, DpAll K H vs ds → vs[i]? = some v → ∃ d, ds[i]? = some d ∧ Dp K H v d
  | _, _, _, _, .nil, h => by simp at h
  | _, _, 0, v, .cons h1 h2, h => by
    simp at h
    subst h
    exact ⟨_, rfl, h1⟩
  | _, _, i + 1, v, .cons h1 h2, h => by
    obtain ⟨d, e1, e2⟩ := dpa_get (i := i) h2 (by simpa using h)
    exact ⟨d, by simpa using e1, e2⟩
theorem dpa_get' : ∀ {vs : List V} {ds : List PyData} {i : Nat} {d : PyData}, DpAll K H vs ds → ds[i]? = some d → ∃ v, vs[i]? = some v ∧ Dp K H v d
  | _, _, _, _, .nil, h => by simp at h
  | _, _, 0, v, .cons h1 h2, h => by
    simp at h
    subst h
    exact ⟨_, rfl, h1⟩
  | _, _, i + 1, v, .cons h1 h2, h => by
    obtain ⟨d, e1, e2⟩ := dpa_get' (i := i) h2 (by simpa using h)
    exact ⟨d, by simpa using e1, e2⟩
theorem dpa_app : ∀ {vs ws : List V} {ds es : List PyData}, DpAll K H vs ds → DpAll K H ws es → DpAll K H (vs ++ ws) (ds ++ es)
  | _, _, _, _, .nil, h => h
  | _, _, _, _, .cons h1 h2, h => .cons h1 (dpa_app h2 h)
theorem dpa_one {v : V} {d : PyData} (h : Dp K H v d) : DpAll K H [v] [d] := .cons h .nil
theorem Dp.seq {f : Bool} {a : Addr} {xs : List V} {ds : List PyData} (h : SqF f K H a xs) (ha : DpAll K H xs ds) : Dp K H (.ref a) (seqD f ds) := by
  cases f with
  | true => exact .tup h ha
  | false => exact .lst h ha
theorem Dp.seq_of {f : Bool} {v : V} {ds : List PyData} (h : Dp K H v (seqD f ds)) : ∃ a xs, v = .ref a ∧ SqF f K H a xs ∧ DpAll K H xs ds := by
  cases f with
  | true =>
    have h : Dp K H v (.tuple ds) := h
    cases h with
    | tup hs ha => exact ⟨_, _, rfl, hs, ha⟩
  | false =>
    have h : Dp K H v (.list ds) := h
    cases h with
    | lst hs ha => exact ⟨_, _, rfl, hs, ha⟩
theorem dpa_strs : ∀ {xs : List Str}, DpAll K H (xs.map V.str) (xs.map PyData.str)
  | [] => .nil
  | x :: xs => .cons (.str x) dpa_strs
theorem dpa_strs_of : ∀ {vs : List V} {xs : List Str}, DpAll K H vs (xs.map PyData.str) → vs = xs.map V.str
  | _, [], .nil => rfl
  | _, x :: xs, .cons h1 h2 => by
    cases h1
    rw [dpa_strs_of h2]
    rfl
end
/-! ### what is walked, indexed: a list or a tuple -/
section
variable {X : Cx}
theorem pi_or {tg l : Expr} {w1 w2 : TI} (h1 : PI X tg l w1) (h2 : PI X tg l w2) : PI X tg l (fun σ H R => w1 σ H R ∨ w2 σ H R) := ⟨fun pins s σ H R I h => by
  rcases h with h | h
  · exact h1.run pins s σ H R I h
  · exact h2.run pins s σ H R I h⟩
def iSeq (K : PySem.W.Frag) (tl : TE) : TI := fun σ H R => iList K tl σ H R ∨ iTup K tl σ H R
theorem pi_seq {tg l : Expr} {tl : TE} (hl : PE X l tl) : PI X tg l (iSeq X.K tl) := pi_or (pi_list hl) (pi_tup hl)
theorem iSeq_at {K : PySem.W.Frag} {tl : TE} {σ : L2.St} {H H1 : Hp} {R : It → Hp → Prop} {a : Addr} {f : Bool} {xs : List V} (ht : ∀ R' : VK, R' (.ref a) H1 → tl σ H R') (hs : SqF f K H1 a xs)
    (q : ∀ J, Walk J xs.length (fun H => SqF f K H a xs) (YAt xs) → R J H1) : iSeq K tl σ H R := by
  cases f with
  | false => exact .inl (ht _ ⟨a, rfl, ⟨xs, hs⟩, q _ walk_list⟩)
  | true => exact .inr (ht _ ⟨a, rfl, ⟨xs, hs⟩, q _ walk_tup⟩)
def rIxF (K : PySem.W.Frag) : R2 := fun x y H Q => rIxL K x y H Q ∨ rIxT K x y H Q
theorem ix_lt : IxR X (rIxF X.K) := ix_list.or ix_tup
theorem rIxF_at {K : PySem.W.Frag} {f : Bool} {p : Addr} {xs : List V} {i : Int} {v : V} {H : Hp} {Q : VK} (h : SqF f K H p xs) (ha : atI xs i = some v) (q : Q v H) : rIxF K (.ref p) (.int i) H Q := by
  cases f with
  | false => exact .inl ⟨p, xs, i, v, rfl, rfl, h, ha, q⟩
  | true => exact .inr ⟨p, xs, i, v, rfl, rfl, h, ha, q⟩
theorem walk_zipTT {K : PySem.W.Frag} {a b : Addr} {xs ys : List V} (e : xs.length = ys.length) : Walk (RZ.ItzT K a b) xs.length (fun H => SqT K H a xs ∧ SqT K H b ys) (YPair (fun i => xs[i]?) (fun i => ys[i]?)) := by
  refine ⟨fun i _ hi q => ?_, fun _ q => ⟨xs, ys, q.1, q.2, .inl (Nat.le_refl _)⟩, fun i H v H' _ q y => ?_⟩
  · have h2 : i < ys.length := by omega
    exact ⟨xs, ys, xs[i], ys[i], q.1, q.2, by simp [hi], by simp [h2]⟩
  · obtain ⟨T, x, z, h1, h2, h3, h4, h5⟩ := y
    exact ⟨T, x, z, h1, h2, h3, h4 xs q.1, h5 ys q.2⟩
theorem iZip_at {K : PySem.W.Frag} {ta : TA} {σ : L2.St} {H H1 : Hp} {R : It → Hp → Prop} {a b : Addr} {f : Bool} {xs ys : List V} (ht : ∀ R' : List V → Hp → Prop, R' [.ref a, .ref b] H1 → ta σ H R') (h1 : SqF f K H1 a xs) (h2 : SqF f K H1 b ys) (el : xs.length = ys.length)
    (q : ∀ J, Walk J xs.length (fun H => SqF f K H a xs ∧ SqF f K H b ys) (YPair (fun i => xs[i]?) (fun i => ys[i]?)) → R J H1) : RZ.iZipA K ta σ H R := by
  refine ht _ ⟨a, b, xs, ys, rfl, ?_⟩
  cases f with
  | false => exact .inl ⟨h1, h2, q _ (walk_zip (by omega))⟩
  | true => exact .inr ⟨h1, h2, q _ (walk_zipTT el)⟩
/-! ### a loop, a comprehension by a walk -/
inductive ForP (wi : TI) (g : TG) (tb : TS) (D : Ends) (σ : L2.St) (H : Hp) : Prop
  | yes (h : tFor wi g tb D σ H)
  | no (h : False)
def tForX (wi : TI) (g : TG) (tb : TS) : TS := fun D σ H => ForP wi g tb D σ H
theorem ps_forX {st : Stmt} {wi : TI} {g : TG} {tb : TS} (h : PS X st (tFor wi g tb)) : PS X st (tForX wi g tb) := ⟨fun pins s σ H D I q => by
  cases q with
  | yes q => exact h.run pins s σ H D I q
  | no q => exact q.elim⟩
theorem for_of {wi : TI} {g : TG} {tb : TS} {D : Ends} {σ : L2.St} {H : Hp} (q : wi σ H fun J H1 => tFor (fun _ _ R => R J H1) g tb D σ H1) : tForX wi g tb D σ H := .yes q
inductive WhP (t : TT) (tb : TS) (D : Ends) (σ : L2.St) (H : Hp) : Prop
  | yes (h : tWhile t tb D σ H)
  | no (h : False)
def tWhileX (t : TT) (tb : TS) : TS := fun D σ H => WhP t tb D σ H
theorem ps_whileX {st : Stmt} {t : TT} {tb : TS} (h : PS X st (tWhile t tb)) : PS X st (tWhileX t tb) := ⟨fun pins s σ H D I q => by
  cases q with
  | yes q => exact h.run pins s σ H D I q
  | no q => exact q.elim⟩
inductive LcP (wi : TI) (g : TG) (tt : TT) (te : TE) (vs : List Nat) (σ : L2.St) (H : Hp) (Q : VK) : Prop
  | yes (h : tLc wi g tt te vs σ H Q)
  | no (h : False)
def tLcX (wi : TI) (g : TG) (tt : TT) (te : TE) (vs : List Nat) : TE := fun σ H Q => LcP wi g tt te vs σ H Q
theorem pe_lcX {e : Expr} {wi : TI} {g : TG} {tt : TT} {te : TE} {vs : List Nat} (h : PE X e (tLc wi g tt te vs)) : PE X e (tLcX wi g tt te vs) := ⟨fun pins s σ H Q I q => by
  cases q with
  | yes q => exact h.run pins s σ H Q I q
  | no q => exact q.elim⟩
theorem lc_of {wi : TI} {g : TG} {tt : TT} {te : TE} {vs : List Nat} {σ : L2.St} {H : Hp} {Q : VK} (q : tLc wi g tt te vs σ H Q) : tLcX wi g tt te vs σ H Q := .yes q
theorem ps_setLcX {st : Stmt} {i : Nat} {wi : TI} {g : TG} {tt : TT} {te : TE} {vs : List Nat} (h : PS X st (tAsg (tLc wi g tt te vs) (gName i))) : PS X st (tAsg (tLcX wi g tt te vs) (gName i)) := ⟨fun pins s σ H D I q => by
  have q : LcP wi g tt te vs σ H (fun x H1 => gName i x σ H1 D.nx) := q
  cases q with
  | yes q => exact h.run pins s σ H D I q
  | no q => exact q.elim⟩
theorem forR_it {J : It} {n : Nat} {G : Hp → Prop} {Y : Nat → Hp → V → Hp → Prop} (w : Walk J n G Y) {g : TG} {tb : TS} {D : Ends} {σ : L2.St} {H : Hp} (Pv : Nat → L2.St → Hp → Prop) (h0 : Pv 0 σ H) (hG : ∀ i σ H, i ≤ n → Pv i σ H → G H)
    (hs : ∀ i x σ H H', i < n → Pv i σ H → Y i H x H' → g x σ H' fun σ2 H2 => tb { D with nx := Pv (i + 1), ct := Pv (i + 1), bk := D.nx } σ2 H2) (hd : ∀ σ H, Pv n σ H → D.nx σ H) : tFor (fun _ _ R => R J H) g tb D σ H := for_it w Pv h0 hG hs hd
/-! ### isinstance -/
theorem tyx_list {K : PySem.W.Frag} {H : Hp} {a : Addr} {xs : List V} (h : SqL K H a xs) : TyX K H (.ref a) (.type "list") := by
  rcases h with (h | ⟨o, h⟩) | ⟨o, its, n, h, hc, _⟩
  · exact .base (.lst h)
  · exact .base (.frz h)
  · exact .kList h hc
theorem tyx_tup {K : PySem.W.Frag} {H : Hp} {a : Addr} {xs : List V} (h : SqT K H a xs) : TyX K H (.ref a) (.type "tuple") := by
  rcases h with (h | ⟨o, h⟩) | ⟨o, its, n, h, hc, _⟩
  · exact .base (.tup h)
  · exact .fTuple h
  · exact .kTuple h hc
def tyD : PyData → String
  | .none => "NoneType"
  | .bool _ => "bool"
  | .int _ => "int"
  | .str _ => "str"
  | .list _ => "list"
  | .tuple _ => "tuple"
  | .dict _ => "dict"
theorem tyx_dp {K : PySem.W.Frag} {H : Hp} {v : V} {d : PyData} (h : Dp K H v d) : TyX K H v (.type (tyD d)) := by
  cases h with
  | non => exact .base .non
  | bl b => exact .base (.bl b)
  | int i => exact .base (.int i)
  | str x => exact .base (.str x)
  | lst hs _ => exact tyx_list hs
  | tup hs _ => exact tyx_tup hs
/-- isinstance(x, (A, B)) of data -/
theorem isi2 {K : PySem.W.Frag} {H : Hp} {Q : VK} {v : V} {d : PyData} {p : Addr} {A B : String} {r : Bool} (h : Dp K H v d) (hp : H p = some (.tup [.ty A, .ty B])) (hk : ∀ t, t = tyD d → PySem.W.kitAny K (.type t) [.type A, .type B] = some r) (q : Q (.bl r) H) :
    rIsiT K [v, .ref p] H Q := ⟨v, p, _, _, _, r, rfl, hp, .cons (.ty _) (.cons (.ty _) .nil), tyx_dp h, hk _ rfl, q⟩
theorem isi1 {K : PySem.W.Frag} {H : Hp} {Q : VK} {v : V} {d : PyData} {A : String} {r : Bool} (h : Dp K H v d) (hk : ∀ t, t = tyD d → PySem.W.kitOne K (.type t) (.type A) = some r) (q : Q (.bl r) H) :
    rIsi K [v, .ty A] H Q := ⟨v, _, _, _, r, rfl, .ty _, tyx_dp h, hk _ rfl, q⟩
end
end Jl

set_option Elab.async false
set_option linter.all false
set_option maxRecDepth 100000
set_option maxHeartbeats 4000000
set_option pp.maxSteps 900
namespace Jl
open PySem PySem.Spec PyProof.Rows L2
open Evl (sz_of sz_lt)
local macro_rules | `(tactic| walk_at "at") => `(tactic| first | exact box0 | exact box1 | exact box2)
local macro_rules | `(tactic| walk_at "side") => `(tactic| first
  | (show (0 : Int) < _; decide)
  | (show (0 : Int) < _; omega)
  | exact ⟨by decide, by decide, by decide⟩
  | exact sz_of (Nat.le_of_ble_eq_true rfl)
  | exact rfl
  | exact Or.inl (by decide)
  | exact Or.inr (by decide)
  | exact Or.inr ⟨by omega, by omega⟩
  | exact Or.inl ⟨by omega, by omega⟩
  | exact ⟨by decide, by decide +kernel⟩)
local macro_rules | `(tactic| walk_at "ev1") => `(tactic| first
  | refine ⟨_, rfl, ?_⟩
  | refine ⟨_, _, rfl, rfl, ?_⟩
  | refine ⟨_, _, _, _, rfl, rfl, (by assumption), (by walk_at "at"), ?_⟩
  | refine Or.inl ⟨_, rfl, ?_⟩
  | refine Or.inr ⟨_, rfl, ?_⟩
  | refine ⟨(by walk_at "side"), ?_⟩)
local macro_rules | `(tactic| walk_at "ev") => `(tactic| repeat (walk_at "ev1"))

theorem szL {n : Nat} (h : n < 4000001) : n < sizeLine := Nat.lt_of_lt_of_le h (by decide)
/-! ### data of bounded depth and width -/
def okD : Nat → PyData → Prop
  | 0, _ => False
  | n + 1, .list ds => ds.length ≤ 4000000 ∧ ∀ d ∈ ds, okD n d
  | n + 1, .tuple ds => ds.length ≤ 4000000 ∧ ∀ d ∈ ds, okD n d
  | _ + 1, .dict _ => False
  | _ + 1, _ => True
theorem okD_seq {n : Nat} {f : Bool} {ds : List PyData} : okD (n + 1) (seqD f ds) ↔ ds.length ≤ 4000000 ∧ ∀ d ∈ ds, okD n d := by
  cases f <;> exact Iff.rfl
mutual
def listsD : PyData → PyData
  | .list ds => .list (listsA ds)
  | .tuple ds => .list (listsA ds)
  | .none => .none
  | .bool b => .bool b
  | .int i => .int i
  | .str x => .str x
  | .dict k => .dict k
def listsA : List PyData → List PyData
  | [] => []
  | d :: ds => listsD d :: listsA ds
end
theorem listsA_map : ∀ ds : List PyData, listsA ds = ds.map listsD
  | [] => rfl
  | d :: ds => by
    show listsD d :: listsA ds = listsD d :: ds.map listsD
    rw [listsA_map ds]
theorem listsD_seq {f : Bool} {ds : List PyData} : listsD (seqD f ds) = .list (ds.map listsD) := by
  cases f
  · show PyData.list (listsA ds) = _
    rw [listsA_map]
  · show PyData.list (listsA ds) = _
    rw [listsA_map]
theorem fnok_no {P : Program} {w : World} {K : PySem.W.Frag} {mg : Str → Option Value} {base : Heap} {CX : CXT} {k : Nat} {f : Addr} {fd : FuncData} {ps : List Str} : FnOk P w K mg base CX k f fd ps (fun _ _ _ _ => False) := ⟨fun _ _ _ _ h => h.elim, fun _ _ _ _ _ _ _ _ _ _ _ _ _ h => h.elim⟩
/-- an atom, or a row -/
theorem dp_cases {K : PySem.W.Frag} {H : Hp} {v : V} {d : PyData} (h : Dp K H v d) : (∃ f ds, d = seqD f ds) ∨ (PySem.W.kitAny K (.type (tyD d)) [.type "list", .type "tuple"] = some false ∧ listsD d = d) := by
  have no : ∀ s : String, kitB s "list" = some false → kitB s "tuple" = some false → PySem.W.kitAny K (.type s) [.type "list", .type "tuple"] = some false := fun s h1 h2 =>
    kitAny_cons (kit_ty h1) (fun _ => kitAny_cons (kit_ty h2) (fun _ => kitAny_nil) (fun z => nomatch z)) (fun z => nomatch z)
  cases h with
  | non => exact .inr ⟨no "NoneType" (by decide +kernel) (by decide +kernel), rfl⟩
  | bl b => exact .inr ⟨no "bool" (by decide +kernel) (by decide +kernel), rfl⟩
  | int i => exact .inr ⟨no "int" (by decide +kernel) (by decide +kernel), rfl⟩
  | str x => exact .inr ⟨no "str" (by decide +kernel) (by decide +kernel), rfl⟩
  | @lst a xs ds hs _ => exact .inl ⟨false, ds, rfl⟩
  | @tup a xs ds hs _ => exact .inl ⟨true, ds, rfl⟩
theorem kit_seq {K : PySem.W.Frag} {fb : Bool} {ds : List PyData} : PySem.W.kitAny K (.type (tyD (seqD fb ds))) [.type "list", .type "tuple"] = some true := by
  have h1 : PySem.W.kitAny K (.type "list") [.type "list", .type "tuple"] = some true := kitAny_cons (b := true) (kit_ty (by decide +kernel)) (fun z => nomatch z) (fun _ => rfl)
  have h2 : PySem.W.kitAny K (.type "tuple") [.type "list", .type "tuple"] = some true := kitAny_cons (b := false) (kit_ty (by decide +kernel)) (fun _ => kitAny_cons (b := true) (kit_ty (by decide +kernel)) (fun z => nomatch z) (fun _ => rfl)) (fun z => nomatch z)
  cases fb with
  | false => exact h1
  | true => exact h2
/-- a place that was free goes into the cut -/
theorem cutS_into {S : List Addr} {H H' : Hp} {p : Addr} (e : Same H H') (h : H p = none) : Same (cutS S H) (cutS (p :: S) H') := fun b o hb => by
  obtain ⟨h1, h2⟩ := cutS_some hb
  have nb : b ≠ p := ne_of_none h2 h
  rw [cutS_out (fun z => by
    rcases List.mem_cons.mp z with z | z
    · exact nb z
    · exact h1 z)]
  exact e b o h2
/-- a comprehension over data, its element told by a function of data -/
theorem lc_data {K : PySem.W.Frag} {tl te : TE} {j : Nat} {vs : List Nat} {σ : L2.St} {H H0 : Hp} {Q : VK} {a : Addr} {fb : Bool} {xs : List V} {ds : List PyData} {S : List Addr} (g : PyData → PyData)
    (ht : ∀ R' : VK, R' (.ref a) H0 → tl σ H R') (hs : SqF fb K H0 a xs) (ha : DpAll K (cutS S H0) xs ds) (hT : Trk S H0) (hl : ds.length ≤ 4000000)
    (hw : ∀ x, wipe ((wipe σ vs).set j (some x)) vs = wipe σ vs)
    (he : ∀ (x : V) (d : PyData) (H1 : Hp) (T : List Addr), d ∈ ds → Trk T H1 → Dp K (cutS T H1) x d → ∀ Q' : VK, (∀ H2 y, Same H1 H2 → Dp K (cutS T H2) y (g d) → Q' y H2) → te ((wipe σ vs).set j (some x)) H1 Q')
    (q : ∀ D ys H', Same H0 H' → H0 D = none → H' D = some (.lst ys) → DpAll K (cutS S H') ys (ds.map g) → Q (.ref D) H') : tLcX (iSeq K tl) (gName j) tYes te vs σ H Q := by
  have ll := dpa_len ha
  refine lc_of ?_
  refine iSeq_at ht hs fun J w D hD => ?_
  refine lc_it w (fun i H1 => ∃ ys, Same H0 H1 ∧ H1 D = some (.lst ys) ∧ DpAll K (cutS (D :: S) H1) ys ((ds.take i).map g)) ⟨[], .upd hD, upd_same, .nil⟩ (fun i H1 _ p => ?_) (fun i x H1 H1' hi p y => ?_) (fun H1 p => ?_)
  · obtain ⟨ys, e1, _⟩ := p
    exact e1.sqF hs
  · obtain ⟨ys, e1, e2, e3⟩ := p
    obtain ⟨rfl, hx⟩ := y
    obtain ⟨d, hd, hxd⟩ := dpa_get ha hx
    refine ⟨hw x, ?_⟩
    dsimp only [tYes]
    rw [if_pos rfl]
    have s3 : Same (cutS S H0) (cutS (D :: S) H1') := cutS_into e1 hD
    have hxd1 : Dp K (cutS (D :: S) H1') x d := s3.dp hxd
    refine he x d H1' (D :: S) (List.mem_of_getElem? hd) ((hT.mono e1).cons e2) hxd1 _ fun H2 y s2 hy => ?_
    refine ⟨ys, s2 _ _ e2, ?_, ys ++ [y], ?_, upd_same, ?_⟩
    · have := dpa_len e3
      rw [this, List.length_map, List.length_take]
      exact szL (by omega)
    · exact (e1.trans s2).mut hD
    · rw [cutS_upd List.mem_cons_self, List.take_add_one, hd, List.map_append]
      exact dpa_app ((cutS_mono s2).dpa e3) (dpa_one hy)
  · obtain ⟨ys, e1, e2, e3⟩ := p
    refine q D ys H1 e1 hD e2 ?_
    have e4 : (ds.take xs.length).map g = ds.map g := by rw [List.take_of_length_le (by omega)]
    rw [e4] at e3
    exact cutS_tail.dpa e3
end Jl

set_option Elab.async false
set_option linter.all false
set_option maxRecDepth 100000
set_option maxHeartbeats 4000000
set_option pp.maxSteps 900
namespace Jl
open PySem PySem.Spec PyProof.Rows L2
open Evl (sz_of sz_lt)
local macro_rules | `(tactic| walk_at "at") => `(tactic| first | exact box0 | exact box1 | exact box2)
local macro_rules | `(tactic| walk_at "side") => `(tactic| first
  | (show (0 : Int) < _; decide)
  | (show (0 : Int) < _; omega)
  | exact ⟨by decide, by decide, by decide⟩
  | exact sz_of (Nat.le_of_ble_eq_true rfl)
  | exact rfl
  | exact Or.inl (by decide)
  | exact Or.inr (by decide)
  | exact Or.inr ⟨by omega, by omega⟩
  | exact Or.inl ⟨by omega, by omega⟩
  | exact ⟨by decide, by decide +kernel⟩)
local macro_rules | `(tactic| walk_at "ev1") => `(tactic| first
  | refine ⟨_, rfl, ?_⟩
  | refine ⟨_, _, rfl, rfl, ?_⟩
  | refine ⟨_, _, _, _, rfl, rfl, (by assumption), (by walk_at "at"), ?_⟩
  | refine Or.inl ⟨_, rfl, ?_⟩
  | refine Or.inr ⟨_, rfl, ?_⟩
  | refine ⟨(by walk_at "side"), ?_⟩)
local macro_rules | `(tactic| walk_at "nrm") => `(tactic| dsimp only [tNil, tCons, tC, tCB])
local macro_rules | `(tactic| walk_at "ev") => `(tactic| repeat (walk_at "ev1"))

abbrev sc_w_same_N : List Str := ["_law_got", "_law_due", "_law_mine", "_law_its"]
abbrev s_w_same : Stmt := topS 34
theorem sc_w_same : FnScope ["_law_got", "_law_due", "_law_mine", "_law_its"] ["_law_got", "_law_due"] (defScope s_w_same) := ⟨rfl, rfl, rfl, by decide +kernel, rfl, by decide +kernel, by decide +kernel⟩
theorem kit_list {K : PySem.W.Frag} {fb : Bool} {ds : List PyData} : PySem.W.kitOne K (.type (tyD (seqD fb ds))) (.type "list") = some (!fb) := by
  have h1 : PySem.W.kitOne K (.type "list") (.type "list") = some true := kit_ty (by decide +kernel)
  have h2 : PySem.W.kitOne K (.type "tuple") (.type "list") = some false := kit_ty (by decide +kernel)
  cases fb with
  | false => exact h1
  | true => exact h2
theorem kit_tup {K : PySem.W.Frag} {fb : Bool} {ds : List PyData} : PySem.W.kitOne K (.type (tyD (seqD fb ds))) (.type "tuple") = some fb := by
  have h1 : PySem.W.kitOne K (.type "list") (.type "tuple") = some false := kit_ty (by decide +kernel)
  have h2 : PySem.W.kitOne K (.type "tuple") (.type "tuple") = some true := kit_ty (by decide +kernel)
  cases fb with
  | false => exact h1
  | true => exact h2
section
variable {P : Program} {w : World} {K : PySem.W.Frag} {mg : Str → Option Value} {base : Heap}
/-- _law_same(got, due) of equal data -/
def spSame (K : PySem.W.Frag) : Nat → Sp
  | 0 => fun _ _ _ _ => False
  | n + 1 => fun vs H Q _ => ∃ (x y : V) (d : PyData), vs = [x, y] ∧ Dp K H x d ∧ Dp K H y d ∧ okD (n + 1) d ∧ ∀ H', Same H H' → Q (.bl true) H'
theorem ok_same {f : Addr} {fd : FuncData} (F_w_same : Fun K "_law_same" "_law_same" s_w_same f fd) (g_w_same : mg "_law_same" = some (.ref f)) (b_w_same : Binds K fd ["_law_got", "_law_due"] []) (m_isinstance : mg "isinstance" = none) (m_list : mg "list" = none) (m_tuple : mg "tuple" = none)
    (m_bool : mg "bool" = none) (m_str : mg "str" = none) (m_int : mg "int" = none) (m_len : mg "len" = none) (m_all : mg "all" = none) (m_zip : mg "zip" = none) :
    ∀ n : Nat, FnOk P w K mg base CX0 n f fd ["_law_got", "_law_due"] (spSame K n)
  | 0 => fnok_no
  | n + 1 => by
    have G_w_same := ok_same F_w_same g_w_same b_w_same m_isinstance m_list m_tuple m_bool m_str m_int m_len m_all m_zip n
    refine F_w_same.ok sc_w_same (fun vs H Q E h => ?_) (fun cdv A outer s H vs Q E hr h => ?_)
    · obtain ⟨x, y, d, rfl, _⟩ := h
      rfl
    · obtain ⟨x, y, d, rfl, hx, hy, hk, q⟩ := h
      refine ⟨_, (pss_cons (ps_if (pt_val (pe_callB call_isiT (by rfl) m_isinstance (by decide +kernel) (pa_cons (pv 1) (pa_cons (pe_tup (pa_cons (pe_bltn (v := .ty "list") (u := .type "list") (by rfl) m_list (by decide +kernel) rfl) (pa_cons (pe_bltn (v := .ty "tuple") (u := .type "tuple") (by rfl) m_tuple (by decide +kernel) rfl) pa_nil))) pa_nil)))) 
      (pss_cons (ps_if (PW.pt (pw_or (pt_cmpR op_ne (pe_callB call_isi (by rfl) m_isinstance (by decide +kernel) (pa_cons (pv 0) (pa_cons (pe_bltn (v := .ty "list") (u := .type "list") (by rfl) m_list (by decide +kernel) rfl) pa_nil))) (pe_callB call_isi (by rfl) m_isinstance (by decide +kernel) (pa_cons (pv 1) (pa_cons (pe_bltn (v := .ty "list") (u := .type "list") (by rfl) m_list (by decide +kernel) rfl) pa_nil))) (nomark _)) (pw_or1 (pt_cmpR op_ne (pe_callB call_isi (by rfl) m_isinstance (by decide +kernel) (pa_cons (pv 0) (pa_cons (pe_bltn (v := .ty "tuple") (u := .type "tuple") (by rfl) m_tuple (by decide +kernel) rfl) pa_nil))) (pe_callB call_isi (by rfl) m_isinstance (by decide +kernel) (pa_cons (pv 1) (pa_cons (pe_bltn (v := .ty "tuple") (u := .type "tuple") (by rfl) m_tuple (by decide +kernel) rfl) pa_nil))) (nomark _))))) (pss_one (ps_ret pe_bl)) pss_nil) 
      (pss_one (ps_ret (pe_and (pe_cmpR op_eq (pe_callB call_len_seq (by rfl) m_len PySem.boot_len (pa_cons (pv 0) pa_nil)) (pe_callB call_len_seq (by rfl) m_len PySem.boot_len (pa_cons (pv 1) pa_nil)) (nomark _)) (pe_one (pe_callB (cr_all rfl) (by rfl) m_all (by decide +kernel) (pa_cons (pe_lcX (pe_lc (own := [("_law_mine", 2), ("_law_its", 3)]) (g := gTup K 2 (gCons (gName 2) (gCons (gName 3) gNil))) (tt := tYes) (by rfl) sc_w_same.nd (RZ.pi_zipA (by rfl) m_zip (pa_cons (pv 0) (pa_cons (pv 1) pa_nil))) (blkOk_by (own := [("_law_mine", 2), ("_law_its", 3)]) (N := sc_w_same_N) (sc := defScope s_w_same) (by decide +kernel)) (fun _ _ _ _ _ => pg_tup rfl (pgs_cons (pg_name (i := 2) sc_w_same.nd rfl (Or.inl rfl)) (pgs_cons (pg_name (i := 3) sc_w_same.nd rfl (Or.inl rfl)) pgs_nil))) (fun _ _ _ _ _ => pts_nil) (fun _ _ _ _ _ => (pe_call G_w_same hr (by rfl) g_w_same F_w_same.kp b_w_same .nil pass0 (pa_cons (pv 2) (pa_cons (pv 3) pa_nil)))))) pa_nil))))))) pss_nil) 
    (pss_cons (ps_if (PW.pt (pw_or (pt_cmpR op_isN (pv 1) pe_non (nomark _)) (pw_or1 (pt_val (pe_callB call_isiT (by rfl) m_isinstance (by decide +kernel) (pa_cons (pv 1) (pa_cons (pe_tup (pa_cons (pe_bltn (v := .ty "bool") (u := .type "bool") (by rfl) m_bool (by decide +kernel) rfl) (pa_cons (pe_bltn (v := .ty "str") (u := .type "str") (by rfl) m_str (by decide +kernel) rfl) pa_nil))) pa_nil))))))) (pss_one (ps_ret (pe_and (pe_cmpR op_eq (pv 0) (pv 1) (nomark _)) (pe_and (pe_cmpR op_eq (pe_callB call_isi (by rfl) m_isinstance (by decide +kernel) (pa_cons (pv 0) (pa_cons (pe_bltn (v := .ty "bool") (u := .type "bool") (by rfl) m_bool (by decide +kernel) rfl) pa_nil))) (pe_callB call_isi (by rfl) m_isinstance (by decide +kernel) (pa_cons (pv 1) (pa_cons (pe_bltn (v := .ty "bool") (u := .type "bool") (by rfl) m_bool (by decide +kernel) rfl) pa_nil))) (nomark _)) (pe_one (pe_cmpR op_eq (pe_cmpR op_isN (pv 0) pe_non (nomark _)) (pe_cmpR op_isN (pv 1) pe_non (nomark _)) (nomark _))))))) pss_nil) 
    (pss_one (ps_ret (pe_and (pe_callB call_isi (by rfl) m_isinstance (by decide +kernel) (pa_cons (pv 0) (pa_cons (pe_bltn (v := .ty "int") (u := .type "int") (by rfl) m_int (by decide +kernel) rfl) pa_nil))) (pe_and (pe_not (pe_callB call_isi (by rfl) m_isinstance (by decide +kernel) (pa_cons (pv 0) (pa_cons (pe_bltn (v := .ty "bool") (u := .type "bool") (by rfl) m_bool (by decide +kernel) rfl) pa_nil)))) (pe_one (pe_cmpR op_eq (pv 0) (pv 1) (nomark _))))))))), ?_⟩
      walk_at "ev"
      intro p hp
      have e1 : Same H (upd H p (.tup [.ty "list", .ty "tuple"])) := .upd hp
      have hp1 : (upd H p (.tup [.ty "list", .ty "tuple"])) p = some (.tup [.ty "list", .ty "tuple"]) := upd_same
      walk_at "nrm"
      generalize upd H p (.tup [.ty "list", .ty "tuple"]) = H1 at e1 hp1
      have hx1 := e1.dp hx
      have hy1 := e1.dp hy
      rcases dp_cases hy with ⟨fb, ds, rfl⟩ | ⟨hk0, hl⟩
      · refine isi2 hy1 hp1 (fun t e => by rw [e]; exact kit_seq) ?_
        refine ⟨_, rfl, iteT ?_⟩
        walk_at "ev"
        walk_at "nrm"
        refine isi1 hx1 (fun t e => by rw [e]; exact kit_list) ?_
        walk_at "ev"
        walk_at "nrm"
        refine isi1 hy1 (fun t e => by rw [e]; exact kit_list) ?_
        walk_at "ev"
        refine iteNS rfl ?_
        walk_at "ev"
        walk_at "nrm"
        refine isi1 hx1 (fun t e => by rw [e]; exact kit_tup) ?_
        walk_at "ev"
        walk_at "nrm"
        refine isi1 hy1 (fun t e => by rw [e]; exact kit_tup) ?_
        walk_at "ev"
        refine iteNS rfl ?_
        obtain ⟨a, xs, rfl, ha, hax⟩ := Dp.seq_of hx1
        obtain ⟨b, ys, rfl, hb, hby⟩ := Dp.seq_of hy1
        have lx := dpa_len hax
        have ly := dpa_len hby
        refine ⟨_, rfl, a, xs, rfl, ha.or, _, rfl, b, ys, rfl, hb.or, rfl, _, rfl, ?_⟩
        have el : V.int (xs.length : Nat) = V.int (ys.length : Nat) := by rw [lx, ly]
        rw [decide_eq_true el]
        refine iteT ?_
        obtain ⟨hk1, hk2⟩ := okD_seq.mp hk
        walk_at "nrm"
        refine lc_of ?_
        refine iZip_at (fun R' r => ⟨_, rfl, _, rfl, r⟩) ha hb (by omega) fun J w D hD => ?_
        refine lc_it w (fun i H2 => Same H1 H2 ∧ H2 D = some (.lst (List.replicate i (.bl true)))) ⟨.upd hD, upd_same⟩ (fun i H2 _ p => ⟨p.1.sqF ha, p.1.sqF hb⟩) (fun i v H2 H2' hi p yy => ?_) (fun H2 p => ?_)
        · obtain ⟨s1, hl⟩ := p
          obtain ⟨T, x1, x2, rfl, hTn, rfl, g1, g2⟩ := yy
          obtain ⟨d, hd, hd1⟩ := dpa_get hax g1
          obtain ⟨d', hd', hd2⟩ := dpa_get hby g2
          cases Option.some.inj (hd.symm.trans hd')
          have s2 : Same H1 (upd H2 T (.tup [x1, x2])) := s1.trans (.upd hTn)
          have hkd := hk2 d (List.mem_of_getElem? hd)
          refine ⟨T, [x1, x2], rfl, .inl (.inl upd_same), rfl, x1, [x2], rfl, x2, [], rfl, rfl, rfl, ?_⟩
          dsimp only [tYes]
          rw [if_pos rfl]
          refine ⟨_, rfl, _, rfl, ?_⟩
          cases n with
          | zero => exact hkd.elim
          | succ n =>
            refine ⟨x1, x2, d, rfl, s2.dp hd1, s2.dp hd2, hkd, fun H3 s3 => ⟨_, s3 _ _ ((Same.upd hTn) _ _ hl), ?_, s2.trans s3 |>.mut hD, ?_⟩⟩
            · rw [List.length_replicate]
              exact szL (by omega)
            · rw [upd_same, List.replicate_succ']
        · obtain ⟨s1, hl⟩ := p
          refine ⟨D, List.replicate xs.length true, rfl, sql_of (by rw [List.map_replicate]; exact hl), ?_⟩
          have e : (List.replicate xs.length true).all id = true := by
            rw [List.all_eq_true]
            intro z hz
            rw [List.eq_of_mem_replicate hz]
            rfl
          rw [e]
          exact q _ (e1.trans s1)
      · refine isi2 hy1 hp1 (fun t e => by rw [e]; exact hk0) ?_
        refine ⟨_, rfl, iteF ?_⟩
        cases hx with
        | non => 
          cases hy
          walk_at "ev"
          walk_at "nrm"
          refine isi1 (r := false) hx1 (fun t e => by rw [e]; exact kit_ty (a := "NoneType") (b := "bool") (by decide +kernel)) ?_
          walk_at "ev"
          walk_at "nrm"
          refine isi1 (r := false) hy1 (fun t e => by rw [e]; exact kit_ty (a := "NoneType") (b := "bool") (by decide +kernel)) ?_
          walk_at "ev"
          exact q _ e1
        | bl c => 
          cases hy
          walk_at "ev"
          intro p2 hp2
          have e2 : Same H1 (upd H1 p2 (.tup [.ty "bool", .ty "str"])) := .upd hp2
          have hp3 : (upd H1 p2 (.tup [.ty "bool", .ty "str"])) p2 = some (.tup [.ty "bool", .ty "str"]) := upd_same
          walk_at "nrm"
          refine isi2 (r := true) (e2.dp hy1) hp3 (fun t e => by rw [e]; exact kitAny_cons (kit_ty (a := "bool") (b := "bool") (r := true) (by decide +kernel)) (fun z => nomatch z) (fun _ => rfl)) ?_
          walk_at "ev"
          rw [if_pos (decide_eq_true rfl)]
          walk_at "ev"
          walk_at "nrm"
          refine isi1 (r := true) (e2.dp hx1) (fun t e => by rw [e]; exact kit_ty (a := "bool") (b := "bool") (by decide +kernel)) ?_
          walk_at "ev"
          walk_at "nrm"
          refine isi1 (r := true) (e2.dp hy1) (fun t e => by rw [e]; exact kit_ty (a := "bool") (b := "bool") (by decide +kernel)) ?_
          walk_at "ev"
          exact q _ (e1.trans e2)
        | str c => 
          cases hy
          walk_at "ev"
          intro p2 hp2
          have e2 : Same H1 (upd H1 p2 (.tup [.ty "bool", .ty "str"])) := .upd hp2
          have hp3 : (upd H1 p2 (.tup [.ty "bool", .ty "str"])) p2 = some (.tup [.ty "bool", .ty "str"]) := upd_same
          walk_at "nrm"
          refine isi2 (r := true) (e2.dp hy1) hp3 (fun t e => by rw [e]; exact kitAny_cons (kit_ty (a := "str") (b := "bool") (r := false) (by decide +kernel)) (fun _ => kitAny_cons (kit_ty (a := "str") (b := "str") (r := true) (by decide +kernel)) (fun z => nomatch z) (fun _ => rfl)) (fun z => nomatch z)) ?_
          walk_at "ev"
          rw [if_pos (decide_eq_true rfl)]
          walk_at "ev"
          walk_at "nrm"
          refine isi1 (r := false) (e2.dp hx1) (fun t e => by rw [e]; exact kit_ty (a := "str") (b := "bool") (by decide +kernel)) ?_
          walk_at "ev"
          walk_at "nrm"
          refine isi1 (r := false) (e2.dp hy1) (fun t e => by rw [e]; exact kit_ty (a := "str") (b := "bool") (by decide +kernel)) ?_
          walk_at "ev"
          exact q _ (e1.trans e2)
        | int c => 
          cases hy
          walk_at "ev"
          intro p2 hp2
          have e2 : Same H1 (upd H1 p2 (.tup [.ty "bool", .ty "str"])) := .upd hp2
          have hp3 : (upd H1 p2 (.tup [.ty "bool", .ty "str"])) p2 = some (.tup [.ty "bool", .ty "str"]) := upd_same
          walk_at "nrm"
          refine isi2 (r := false) (e2.dp hy1) hp3 (fun t e => by rw [e]; exact kitAny_cons (kit_ty (a := "int") (b := "bool") (r := false) (by decide +kernel)) (fun _ => kitAny_cons (kit_ty (a := "int") (b := "str") (r := false) (by decide +kernel)) (fun _ => kitAny_nil) (fun z => nomatch z)) (fun z => nomatch z)) ?_
          walk_at "ev"
          walk_at "nrm"
          refine isi1 (r := true) (e2.dp hx1) (fun t e => by rw [e]; exact kit_ty (a := "int") (b := "int") (by decide +kernel)) ?_
          walk_at "ev"
          walk_at "nrm"
          refine isi1 (r := false) (e2.dp hx1) (fun t e => by rw [e]; exact kit_ty (a := "int") (b := "bool") (by decide +kernel)) ?_
          walk_at "ev"
          rw [decide_eq_true rfl]
          exact q _ (e1.trans e2)
        | @lst a xs ds hs _ => cases (hk0.symm.trans (kit_seq (fb := false) (ds := ds)))
        | @tup a xs ds hs _ => cases (hk0.symm.trans (kit_seq (fb := true) (ds := ds)))
end
end Jl

set_option Elab.async false
set_option linter.all false
set_option maxRecDepth 100000
set_option maxHeartbeats 4000000
set_option pp.maxSteps 900
namespace Jl
open PySem PySem.Spec PyProof.Rows L2
open Evl (sz_of sz_lt)
local macro_rules | `(tactic| walk_at "at") => `(tactic| first | exact box0 | exact box1 | exact box2)
local macro_rules | `(tactic| walk_at "side") => `(tactic| first
  | (show (0 : Int) < _; decide)
  | (show (0 : Int) < _; omega)
  | exact ⟨by decide, by decide, by decide⟩
  | exact sz_of (Nat.le_of_ble_eq_true rfl)
  | exact rfl
  | exact Or.inl (by decide)
  | exact Or.inr (by decide)
  | exact Or.inr ⟨by omega, by omega⟩
  | exact Or.inl ⟨by omega, by omega⟩
  | exact ⟨by decide, by decide +kernel⟩)
local macro_rules | `(tactic| walk_at "ev1") => `(tactic| first
  | refine ⟨_, rfl, ?_⟩
  | refine ⟨_, _, rfl, rfl, ?_⟩
  | refine ⟨_, _, _, _, rfl, rfl, (by assumption), (by walk_at "at"), ?_⟩
  | refine ⟨_, _, rfl, (by assumption), ?_⟩
  | refine ⟨_, _, rfl, Or.inl (by assumption), ?_⟩
  | refine ⟨_, _, rfl, Or.inr (by assumption), ?_⟩
  | refine Or.inl ⟨_, rfl, ?_⟩
  | refine Or.inr ⟨_, rfl, ?_⟩
  | refine ⟨(by walk_at "side"), ?_⟩)
local macro_rules | `(tactic| walk_at "nrm") => `(tactic| dsimp only [tNil, tCons, tC, tCB])
local macro_rules | `(tactic| walk_at "ev") => `(tactic| repeat (walk_at "ev1"))

abbrev sc_w_cells_N : List Str := ["_law_script", "_law_most", "_law_cells_here", "_law_k", "_law_cell", "_law_at_so"]
abbrev s_w_cells : Stmt := topS 31
theorem sc_w_cells : FnScope ["_law_script", "_law_most", "_law_cells_here", "_law_k", "_law_cell", "_law_at_so"] ["_law_script", "_law_most"] (defScope s_w_cells) := ⟨rfl, rfl, rfl, by decide +kernel, rfl, by decide +kernel, by decide +kernel⟩
theorem ixN_nat {n j : Nat} (h : j < n) : ixN n (j : Int) = some j := by
  unfold ixN
  rw [if_pos (by omega), if_pos (by omega)]
  simp
theorem cutV_int {ns : List Int} {lo hi : Option Int} : cutV (ns.map V.int) lo hi = ((ns.drop (HT.sIx ns.length 0 lo)).take (HT.sIx ns.length ns.length hi - HT.sIx ns.length 0 lo)).map V.int := by
  unfold cutV
  rw [List.length_map, List.map_take, List.map_drop]
section
variable {P : Program} {w : World} {K : PySem.W.Frag} {mg : Str → Option Value} {base : Heap}
/-- _law_cells(script, most): a new list of at most so many numbers -/
def spCells (K : PySem.W.Frag) : Sp := fun vs H Q _ => ∃ (a : Addr) (ns : List Int) (m : Nat), vs = [.ref a, .int (m : Int)] ∧ SqL K H a (ns.map V.int) ∧ ns.length ≤ 63 ∧ 1 ≤ m ∧ m ≤ 60 ∧
  ∀ (H' : Hp) (p : Addr) (cs : List Int), Same H H' → H p = none → H' p = some (.lst (cs.map V.int)) → cs.length ≤ m → Q (.ref p) H'
theorem ok_cells {f : Addr} {fd : FuncData} {k : Nat} (F : Fun K "_law_cells" "_law_cells" s_w_cells f fd) (m_int : mg "int" = none) (m_list : mg "list" = none) (m_enumerate : mg "enumerate" = none) : FnOk P w K mg base CX0 (k + 1) f fd ["_law_script", "_law_most"] (spCells K) := by
  refine F.ok sc_w_cells (fun vs H Q E h => ?_) (fun cdv A outer s H vs Q E hr h => ?_)
  · obtain ⟨a, ns, m, rfl, _⟩ := h
    rfl
  · obtain ⟨a, ns, m, rfl, hS, hn, m1, m2, q⟩ := h
    refine ⟨_, (Evl.pss_cut (ps_set (i := 2) sc_w_cells.nd rfl (Or.inl rfl) (pe_orT (pe_callTy call_list_of (by rfl) m_list (by decide +kernel) (pa_cons (pe_slice sl_list (pv 0) po_none (po_some (pv 1))) pa_nil)) (pe_one (pe_lst (pa_cons pe_int pa_nil))))) 
    (pss_cons (ps_forX (ps_for PassesOwn.never rfl (pi_enum (by rfl) m_enumerate (pa_cons (pe_slice sl_list (pv 0) (po_some (pv 1)) (po_some pe_int)) pa_nil)) (pg_tup rfl (pgs_cons (pg_name (i := 3) sc_w_cells.nd rfl (Or.inl rfl)) (pgs_cons (pg_name (i := 4) sc_w_cells.nd rfl (Or.inl rfl)) pgs_nil))) 
      (pss_cons (ps_set (i := 5) sc_w_cells.nd rfl (Or.inl rfl) (pe_op op_mod (pe_callTy call_int1 (by rfl) m_int (by decide +kernel) (pa_cons (pv 3) pa_nil)) (pv 1))) 
      (pss_one (ps_asg (pe_op op_add (pe_ix ix_list (pv 2) (pv 5) (fun _ _ => rfl)) (pe_op op_mul (pv 4) (pe_op op_add (pv 3) pe_int))) (pg_sub (pv 2) (pv 5) set_list)))))) 
    (pss_one (ps_ret (pv 2))))), ?_⟩
    refine ⟨fun σ1 H1 => ∃ (p : Addr) (c0 : List Int), σ1 = [some (.ref a), some (.int (m : Int)), some (.ref p), none, none, none] ∧ Same H H1 ∧ H p = none ∧ H1 p = some (.lst (c0.map V.int)) ∧ c0.length ≤ m ∧ (m < ns.length → c0.length = m), ?_, ?_⟩
    · walk_at "ev"
      intro p hp
      rw [cutV_int, show HT.sIx ns.length 0 none = 0 from HT.sIx_none _ _, show HT.sIx ns.length ns.length (some (m : Int)) = min m ns.length from HT.sIx_nat _ _ _, Nat.sub_zero, List.drop_zero]
      walk_at "nrm"
      have s1 : Same H (upd H p (.lst ((ns.take (min m ns.length)).map V.int))) := .upd hp
      refine ⟨p, _, rfl, .inl (sql_of upd_same), fun l hl => ?_⟩
      have s2 := s1.trans (Same.upd (o := .lst ((ns.take (min m ns.length)).map V.int)) hl)
      refine ⟨_, .inl ⟨_, sql_of upd_same, rfl⟩, ite2 (fun e => ?_) (fun e => ?_)⟩
      · refine ⟨l, _, rfl, s2, s1.free hl, upd_same, ?_, fun h => ?_⟩
        · rw [List.length_take]
          omega
        · rw [List.length_take]
          omega
      · walk_at "ev"
        intro r hr
        refine ⟨r, [0], rfl, s2.trans (.upd hr), s2.free hr, upd_same, by simp; omega, fun h => (e ?_).elim⟩
        have : (ns.take (min m ns.length)).length ≠ 0 := by
          rw [List.length_take]
          omega
        cases hq : ns.take (min m ns.length) with
        | nil => rw [hq] at this; exact (this rfl).elim
        | cons => rfl
    · rintro σ1 H1 ⟨p, c0, rfl, s1, hp, hp1, hc0, hc1⟩
      have hS1 : SqL K H1 a (ns.map V.int) := s1.sqL hS
      refine for_of ?_
      walk_at "ev"
      intro p3 hp3
      rw [cutV_int]
      generalize hms : List.take _ (List.drop _ ns) = ms
      have hlen : ms.length ≤ ns.length - m := by
        rw [← hms, List.length_take, List.length_drop, show HT.sIx ns.length 0 (some (m : Int)) = min m ns.length from HT.sIx_nat _ _ _]
        omega
      have s3 : Same H1 (upd H1 p3 (.lst (ms.map V.int))) := .upd hp3
      refine ⟨p3, _, rfl, sql_of upd_same, ?_⟩
      refine forR_it (walk_enum (K := K) (a := p3) (xs := ms.map V.int)) (fun i σ H2 => ∃ x3 x4 x5 cs, σ = [some (.ref a), some (.int (m : Int)), some (.ref p), x3, x4, x5] ∧ Same H H2 ∧ H2 p = some (.lst (cs.map V.int)) ∧ cs.length = c0.length ∧ H2 p3 = some (.lst (ms.map V.int)))
        ⟨_, _, _, c0, rfl, s1.trans s3, s3 _ _ hp1, rfl, upd_same⟩ (fun i σ H2 _ h => ?_) (fun i v σ H2 H2' hi h y => ?_) (fun σ H2 h => ?_)
      · obtain ⟨_, _, _, _, _, _, _, _, h3⟩ := h
        exact sql_of h3
      · obtain ⟨x3, x4, x5, cs, rfl, s4, h4, hl4, h3⟩ := h
        obtain ⟨T, u1, u2, rfl, hT, rfl, g1, g2⟩ := y
        cases g1
        rw [List.length_map] at hi
        have g2 : (ms.map V.int)[i]? = some u2 := g2
        rw [List.getElem?_map, List.getElem?_eq_getElem hi] at g2
        cases g2
        have s5 : Same H2 (upd H2 T (.tup [.int (i : Int), .int ms[i]])) := .upd hT
        have hcm : cs.length = m := by rw [hl4]; exact hc1 (by omega)
        refine ⟨T, _, rfl, sqt_of upd_same, rfl, _, _, rfl, _, _, rfl, rfl, ?_⟩
        have hat : ((i : Int) % (m : Int)) = ((i % m : Nat) : Int) := rfl
        have hlt : i % m < cs.length := by rw [hcm]; exact Nat.mod_lt _ (by omega)
        have h6 := s5 _ _ h4
        have hS6 : SqL K (upd H2 T (.tup [.int (i : Int), .int ms[i]])) p (cs.map V.int) := sql_of h6
        have hi63 : (i : Int) < 63 := by omega
        have hix : ixN (cs.map V.int).length ((i : Int) % (m : Int)) = some (i % m) := by
          rw [hat, List.length_map]
          exact ixN_nat hlt
        walk_at "ev"
        refine ⟨p, _, _, _, rfl, rfl, hS6, at_of (v := .int cs[i % m]) hat (by rw [List.getElem?_map, List.getElem?_eq_getElem hlt]; rfl), ?_⟩
        walk_at "ev"
        refine ⟨p, _, _, i % m, rfl, rfl, h6, hix, ?_⟩
        have np : p3 ≠ p := fun z => by
          rw [z, hp1] at hp3
          cases hp3
        refine ⟨_, _, _, cs.set (i % m) (cs[i % m] + ms[i] * ((i : Int) + 2)), rfl, (s4.trans s5).mut hp, ?_, by rw [List.length_set]; exact hl4, ?_⟩
        · rw [upd_same, List.map_set]
        · rw [upd_ne np]
          exact s5 _ _ h3
      · obtain ⟨x3, x4, x5, cs, rfl, s4, h4, hl4, h3⟩ := h
        exact ⟨_, rfl, q _ _ cs s4 hp h4 (by omega)⟩
end
end Jl

set_option Elab.async false
set_option linter.all false
set_option maxRecDepth 100000
set_option maxHeartbeats 4000000
set_option pp.maxSteps 900
namespace Jl
open PySem PySem.Spec PyProof.Rows L2
open Evl (sz_of sz_lt)
local macro_rules | `(tactic| walk_at "at") => `(tactic| first | exact box0 | exact box1 | exact box2)
local macro_rules | `(tactic| walk_at "sq") => `(tactic| first | (show SqL _ _ _ _; assumption) | (show SqT _ _ _ _; assumption) | (show _ = some _; assumption))
local macro_rules | `(tactic| walk_at "side") => `(tactic| first
  | (show (0 : Int) < _; decide)
  | (show (0 : Int) < _; omega)
  | exact ⟨by decide, by decide, by decide⟩
  | exact sz_of (Nat.le_of_ble_eq_true rfl)
  | exact rfl
  | exact Or.inl (by decide)
  | exact Or.inr (by decide)
  | exact Or.inr ⟨by omega, by omega⟩
  | exact Or.inl ⟨by omega, by omega⟩
  | exact ⟨by decide, by decide +kernel⟩)
local macro_rules | `(tactic| walk_at "ev1") => `(tactic| first
  | refine ⟨_, rfl, ?_⟩
  | refine ⟨_, _, rfl, rfl, ?_⟩
  | refine ⟨_, _, _, _, rfl, rfl, (by walk_at "sq"), (by walk_at "at"), ?_⟩
  | refine ⟨_, _, rfl, (by walk_at "sq"), ?_⟩
  | refine ⟨_, _, rfl, Or.inl (by walk_at "sq"), ?_⟩
  | refine ⟨_, _, rfl, Or.inr (by walk_at "sq"), ?_⟩
  | refine Or.inl ⟨_, rfl, ?_⟩
  | refine Or.inr ⟨_, rfl, ?_⟩
  | refine ⟨(by walk_at "side"), ?_⟩
  | refine ⟨.inl ⟨rfl, _, (by walk_at "sq")⟩, ?_⟩
  | refine ⟨_, _, rfl, ?_⟩)
local macro_rules | `(tactic| walk_at "nrm") => `(tactic| dsimp only [tNil, tCons, tC, tCB])
local macro_rules | `(tactic| walk_at "ev") => `(tactic| repeat (walk_at "ev1"))

abbrev sc_w_pick_N : List Str := ["_law_box_here", "_law_pool", "_law_size_so", "_law_rest", "_law_some", "_law_turn"]
abbrev s_w_pick : Stmt := topS 33
theorem sc_w_pick : FnScope ["_law_box_here", "_law_pool", "_law_size_so", "_law_rest", "_law_some", "_law_turn"] ["_law_box_here", "_law_pool", "_law_size_so"] (defScope s_w_pick) := ⟨rfl, rfl, rfl, by decide +kernel, rfl, by decide +kernel, by decide +kernel⟩
theorem cutS_more {S T : List Addr} {H H' : Hp} (e : Same (cutS T H) (cutS T H')) (h : ∀ a ∈ T, a ∈ S) : Same (cutS S H) (cutS S H') := fun b o q => by
  obtain ⟨h1, h2⟩ := cutS_some q
  have h3 : b ∉ T := fun z => h1 (h b z)
  have := e b o (by rw [cutS_out h3]; exact h2)
  rw [cutS_out h3] at this
  rw [cutS_out h1]
  exact this
theorem era_map {α β : Type} (f : α → β) : ∀ (l : List α) (k : Nat), (l.map f).eraseIdx k = (l.eraseIdx k).map f
  | [], _ => rfl
  | _ :: _, 0 => rfl
  | a :: l, k + 1 => congrArg (f a :: ·) (era_map f l k)
theorem era_perm {α : Type} : ∀ (l : List α) (k : Nat) (h : k < l.length), (l[k] :: l.eraseIdx k).Perm l
  | a :: l, 0, _ => List.Perm.refl _
  | a :: l, k + 1, h => (List.Perm.swap a (l[k]'(by simpa using h)) (l.eraseIdx k)).trans (List.Perm.cons a (era_perm l k (by simpa using h)))
theorem small8000 {i : Int} (h : 0 ≤ i ∧ i ≤ 10 ^ 60) : i.natAbs < 2 ^ 8000 := by
  have h2 : i.natAbs < 2 ^ 250 := by omega
  exact Nat.lt_of_lt_of_le h2 (Nat.pow_le_pow_right (by decide) (by decide))
/-! ### the box as it goes on -/
def BoxL (bx : List V) (N : Nat) : Prop := ∃ c0 c1 c2 : Int, bx = boxV c0 c1 c2 ∧ 0 ≤ c0 ∧ 0 ≤ c1 ∧ c1 < 2 ^ 62 ∧ 0 ≤ c2 ∧ c2 ≤ N
theorem BoxL.mono {bx : List V} {N M : Nat} (h : BoxL bx N) (e : N ≤ M) : BoxL bx M := by
  obtain ⟨c0, c1, c2, rfl, h1, h2, h3, h4, h5⟩ := h
  exact ⟨c0, c1, c2, rfl, h1, h2, h3, h4, by omega⟩
def spTake2 : Sp := fun vs H Q _ => ∃ (b : Addr) (n : Int) (bx : List V) (N : Nat), vs = [.ref b, .int n] ∧ H b = some (.lst bx) ∧ BoxL bx N ∧ N < 2 ^ 60 ∧ 1 ≤ n ∧ n.natAbs < 2 ^ 8000 ∧
  ∀ r bx', 0 ≤ r → r < n → BoxL bx' (N + 1) → Q (.int r) (upd H b (.lst bx'))
section
variable {P : Program} {w : World} {K : PySem.W.Frag} {mg : Str → Option Value} {base : Heap}
theorem ok_take2 {f : Addr} {fd : FuncData} {k : Nat} (G : FnOk P w K mg base CX0 k f fd ["_law_box_here", "_law_below"] (spTake K)) : FnOk P w K mg base CX0 k f fd ["_law_box_here", "_law_below"] spTake2 :=
  G.imp fun vs H Q E h => by
    obtain ⟨b, n, bx, N, rfl, hb, ⟨c0, c1, c2, rfl, h1, h2, h3, h4, h5⟩, hN, n1, n2, q⟩ := h
    exact ⟨b, c0, c1, c2, n, rfl, hb, h1, h2, h3, h4, by omega, n1, n2, fun r d0 d2 r0 r1 d00 d20 d21 => q r _ r0 r1 ⟨d0, c1, d2, rfl, d00, h2, h3, d20, by omega⟩⟩
/-- _law_pick(box, pool, size): some of the pool, each once -/
def spPick (K : PySem.W.Frag) : Sp := fun vs H Q _ => ∃ (b a : Addr) (n : Int) (bx : List V) (N : Nat) (xs : List Str), vs = [.ref b, .ref a, .int n] ∧ H b = some (.lst bx) ∧ BoxL bx N ∧ N + xs.length < 2 ^ 60 ∧ SqL K H a (xs.map V.str) ∧ xs.length ≤ 1000 ∧ 0 ≤ n ∧ n < 2 ^ 60 ∧
  ∀ (H' : Hp) (q : Addr) (ys rs : List Str) (bx' : List V), (ys ++ rs).Perm xs → ys.length = min n.toNat xs.length → H q = none → H' q = some (.lst (ys.map V.str)) → H' b = some (.lst bx') → BoxL bx' (N + ys.length) → Same (cutS [b] H) (cutS [b] H') → Q (.ref q) H'
theorem ok_pick {f fT : Addr} {fd fdT : FuncData} {k : Nat} (F : Fun K "_law_pick" "_law_pick" s_w_pick f fd) (G_w_take : FnOk P w K mg base CX0 k fT fdT ["_law_box_here", "_law_below"] spTake2) (g_w_take : mg "_law_take" = some (.ref fT)) (F_w_take : Fun K "_law_take" "_law_take" s_w_take fT fdT) (b_w_take : Binds K fdT ["_law_box_here", "_law_below"] [])
    (m_list : mg "list" = none) (m_range : mg "range" = none) (m_min : mg "min" = none) (m_len : mg "len" = none) : FnOk P w K mg base CX0 (k + 1) f fd ["_law_box_here", "_law_pool", "_law_size_so"] (spPick K) := by
  refine F.ok sc_w_pick (fun vs H Q E h => ?_) (fun cdv A outer s H vs Q E hr h => ?_)
  · obtain ⟨b, a, n, bx, N, xs, rfl, _⟩ := h
    rfl
  · obtain ⟨b, a, n, bx, N, xs, rfl, hb, hB, hN, hA, hx, n0, n1, q⟩ := h
    refine ⟨_, (pss_cons (ps_par (i := 3) (j := 4) (by rfl) sc_w_pick.nd rfl rfl (by decide) rfl rfl (pa_cons (pe_callTy call_list_of (by rfl) m_list (by decide +kernel) (pa_cons (pv 1) pa_nil)) (pa_cons (pe_lst pa_nil) pa_nil)) (by rfl)) 
    (pss_cons (ps_forX (ps_for PassesOwn.never rfl (pi_range1 (by rfl) m_range (pa_cons (pe_callB (call_min2 rfl) (by rfl) m_min (by decide +kernel) (pa_cons (pv 2) (pa_cons (pe_callB call_len_seq (by rfl) m_len PySem.boot_len (pa_cons (pv 3) pa_nil)) pa_nil))) pa_nil)) (pg_name (i := 5) sc_w_pick.nd rfl (Or.inl rfl)) (pss_one (ps_expr (pe_bm PySem.F.plainAttrs_list PySem.F.slot_list_append PySem.F.type_list_append mt_append (pv 4) (pa_cons (pe_bm PySem.F.plainAttrs_list PySem.F.slot_list_pop PySem.F.type_list_pop mt_popAt (pv 3) (pa_cons (pe_call G_w_take hr (by rfl) g_w_take F_w_take.kp b_w_take .nil pass0 (pa_cons (pv 0) (pa_cons (pe_callB call_len_seq (by rfl) m_len PySem.boot_len (pa_cons (pv 3) pa_nil)) pa_nil))) pa_nil)) pa_nil)))))) 
    (pss_one (ps_ret (pv 4))))), ?_⟩
    walk_at "ev"
    intro l hl
    walk_at "ev"
    intro p hp
    walk_at "ev"
    refine for_of ?_
    have nbl : l ≠ b := fun z => by
      rw [z, hb] at hl
      cases hl
    have s1 : Same H (upd H l (.lst (xs.map V.str))) := .upd hl
    have s2 : Same (upd H l (.lst (xs.map V.str))) (upd (upd H l (.lst (xs.map V.str))) p (.lst [])) := .upd hp
    have hl2 := s2 _ _ (upd_same (H := H) (a := l) (o := .lst (xs.map V.str)))
    have hp2 : (upd (upd H l (.lst (xs.map V.str))) p (.lst [])) p = some (.lst []) := upd_same
    have s12 := s1.trans s2
    have hpl : p ≠ l := fun z => by
      rw [z, upd_same] at hp
      cases hp
    have hpb : p ≠ b := fun z => by
      rw [z, upd_ne nbl.symm, hb] at hp
      cases hp
    have hp0 : H p = none := s1.free hp
    have hL2 : SqL K (upd (upd H l (.lst (xs.map V.str))) p (.lst [])) l (xs.map V.str) := sql_of hl2
    show iRng1 _ _ (upd (upd H l (.lst (xs.map V.str))) p (.lst [])) _
    generalize upd (upd H l (.lst (xs.map V.str))) p (.lst []) = H2 at s12 hl2 hp2 hL2
    walk_at "ev"
    rw [List.length_map]
    have hj : (if (xs.length : Int) < n then (xs.length : Int) else n) = ((min n.toNat xs.length : Nat) : Int) := by
      split <;> omega
    rw [hj]
    refine ⟨by omega, by omega, ?_⟩
    rw [Int.toNat_natCast]
    refine forR_it (walk_range (lo := 0) (n := min n.toNat xs.length)) (fun i σ H3 => ∃ x5 ys rs bx', σ = [some (.ref b), some (.ref a), some (.int n), some (.ref l), some (.ref p), x5] ∧ H3 l = some (.lst (rs.map V.str)) ∧ H3 p = some (.lst (ys.map V.str)) ∧ H3 b = some (.lst bx') ∧ BoxL bx' (N + i) ∧ (ys ++ rs).Perm xs ∧ ys.length = i ∧ Same (cutS [b] H) H3)
      ⟨_, [], xs, bx, rfl, hl2, hp2, s12 _ _ hb, hB, List.Perm.refl _, rfl, cutS_le.trans s12⟩ (fun _ _ _ _ _ => trivial) (fun i v σ H3 H3' hi h y => ?_) (fun σ H3 h => ?_)
    · obtain ⟨x5, ys, rs, bx', rfl, h1, h2, h3, h4, h5, h6, h7⟩ := h
      obtain ⟨rfl, rfl⟩ := y
      have hlen := h5.length_eq
      rw [List.length_append] at hlen
      have hL : SqL K H3' l (rs.map V.str) := sql_of h1
      have hPl : SqL K H3' p (ys.map V.str) := sql_of h2
      walk_at "ev"
      have hrl : ((rs.map V.str).length : Int) = rs.length := by rw [List.length_map]
      have hr1 : 1 ≤ rs.length := by omega
      refine ⟨b, _, bx', N + i, rfl, h3, h4, by omega, by omega, small8000 (by rw [hrl]; omega), fun r bx2 r0 r1 hB2 => ?_⟩
      rw [hrl] at r1
      obtain ⟨k, rfl⟩ : ∃ k : Nat, r = (k : Int) := ⟨r.toNat, by omega⟩
      have hk : k < rs.length := by omega
      have hsi : seqIndex? (k : Int) (rs.map V.str).length = some k := (ixN_seq (ixN_nat (by rw [List.length_map]; exact hk))).1
      have h1' : (upd H3' b (.lst bx2)) l = some (.lst (rs.map V.str)) := by
        rw [upd_ne nbl]
        exact h1
      refine ⟨l, _, (k : Int), k, .str rs[k], rfl, rfl, h1', by omega, by omega, hsi, by rw [List.getElem?_map, List.getElem?_eq_getElem hk]; rfl, ?_⟩
      have h2' : (upd (upd H3' b (.lst bx2)) l (.lst ((rs.map V.str).eraseIdx k))) p = some (.lst (ys.map V.str)) := by
        rw [upd_ne hpl, upd_ne hpb]
        exact h2
      refine ⟨p, _, _, rfl, rfl, h2', ?_, ?_⟩
      · rw [List.length_map]
        exact sz_lt (by omega)
      · refine ⟨_, ys ++ [rs[k]], rs.eraseIdx k, bx2, rfl, ?_, ?_, ?_, hB2, ?_, ?_, ?_⟩
        · rw [upd_ne hpl.symm, upd_same, era_map]
        · rw [upd_same, List.map_append]
          rfl
        · rw [upd_ne hpb.symm, upd_ne nbl.symm, upd_same]
        · refine List.Perm.trans ?_ h5
          rw [List.append_assoc]
          exact List.Perm.append_left ys (era_perm rs k hk)
        · rw [List.length_append, h6]
          rfl
        · intro x o hx
          obtain ⟨g1, g2⟩ := cutS_some hx
          have gb : x ≠ b := fun z => g1 (by rw [z]; exact List.mem_cons_self)
          have gl : x ≠ l := ne_of_none g2 hl
          have gp : x ≠ p := ne_of_none g2 hp0
          rw [upd_ne gp, upd_ne gl, upd_ne gb]
          exact h7 x o hx
    · obtain ⟨x5, ys, rs, bx', rfl, h1, h2, h3, h4, h5, h6, h7⟩ := h
      refine ⟨_, rfl, ?_⟩
      refine q H3 p ys rs bx' h5 h6 hp0 h2 h3 (by rw [h6]; exact h4) fun x o hx => ?_
      obtain ⟨g1, g2⟩ := cutS_some hx
      rw [cutS_out g1]
      exact h7 x o hx
end
end Jl

set_option Elab.async false
set_option linter.all false
set_option maxRecDepth 100000
set_option maxHeartbeats 4000000
set_option pp.maxSteps 900
namespace Jl
open PySem PySem.Spec PyProof.Rows L2
open Evl (sz_of sz_lt)
local macro_rules | `(tactic| walk_at "at") => `(tactic| first | exact box0 | exact box1 | exact box2)
local macro_rules | `(tactic| walk_at "sq") => `(tactic| first | (show SqL _ _ _ _; assumption) | (show SqT _ _ _ _; assumption) | (show _ = some _; assumption))
local macro_rules | `(tactic| walk_at "side") => `(tactic| first
  | (show (0 : Int) < _; decide)
  | (show (0 : Int) < _; omega)
  | exact ⟨by decide, by decide, by decide⟩
  | exact sz_of (Nat.le_of_ble_eq_true rfl)
  | exact rfl
  | exact Or.inl (by decide)
  | exact Or.inr (by decide)
  | exact Or.inr ⟨by omega, by omega⟩
  | exact Or.inl ⟨by omega, by omega⟩
  | exact ⟨by decide, by decide +kernel⟩)
local macro_rules | `(tactic| walk_at "ev1") => `(tactic| first
  | refine ⟨_, rfl, ?_⟩
  | refine ⟨_, _, rfl, rfl, ?_⟩
  | refine ⟨_, _, _, _, rfl, rfl, (by walk_at "sq"), (by walk_at "at"), ?_⟩
  | refine ⟨_, _, rfl, (by walk_at "sq"), ?_⟩
  | refine ⟨_, _, rfl, Or.inl (by walk_at "sq"), ?_⟩
  | refine ⟨_, _, rfl, Or.inr (by walk_at "sq"), ?_⟩
  | refine Or.inl ⟨_, rfl, ?_⟩
  | refine Or.inr ⟨_, rfl, ?_⟩
  | refine ⟨(by walk_at "side"), ?_⟩
  | refine ⟨.inl ⟨rfl, _, (by walk_at "sq")⟩, ?_⟩
  | refine ⟨_, _, rfl, ?_⟩)
local macro_rules | `(tactic| walk_at "nrm") => `(tactic| dsimp only [tNil, tCons, tC, tCB])
local macro_rules | `(tactic| walk_at "ev") => `(tactic| repeat (walk_at "ev1"))
/-! ### range(n) as a value, list of it -/
section
variable {X : Cx}
theorem cr_range1 : CallR X (.type "range") (fun vs H Q => ∃ j, vs = [V.int j] ∧ ∀ p, H p = none → Q (.ref p) (upd H p (.rng 0 j))) := fun pins s σ H vs us Q I r h => by
  obtain ⟨j, rfl, q⟩ := h
  obtain ⟨u, rfl, ru⟩ := vals1 r
  obtain ⟨t, rfl⟩ := ru
  exact call_range_1 ⟨.ref _, _, I.laid (o := .rng 0 j) (t' := s.toks + 1 + 1) (fun _ _ e => Heap.get?_push_of_some _ e) (Nat.le_refl _) ⟨_, _, _, Heap.get?_push_size _ rfl⟩, rfl, q _ (I.hok.fresh (Nat.le_refl _))⟩
theorem vals_from {f : Nat → V} : ∀ {us : List Value} (k : Nat), (∀ i v, us[i]? = some v → RelV (f (k + i)) v) → Vals ((List.range us.length).map fun i => f (k + i)) us
  | [], _, _ => .nil
  | u :: us, k, h => by
    rw [List.length_cons, List.range_succ_eq_map, List.map_cons, List.map_map]
    refine .cons (h 0 u rfl) ?_
    have := vals_from (f := f) (us := us) (k + 1) fun i v hv => by
      have q := h (i + 1) v (by simpa using hv)
      have e : k + (i + 1) = k + 1 + i := by omega
      rw [e] at q
      exact q
    have e : ((fun i => f (k + i)) ∘ Nat.succ) = fun i => f (k + 1 + i) := by
      funext i
      show f (k + (i + 1)) = f (k + 1 + i)
      congr 1
      omega
    rw [e]
    exact this
theorem call_list_rng (hc : X.calm = true) : CallR X (.type "list") (fun xs H Q => ∃ (r : Addr) (n : Nat), xs = [.ref r] ∧ H r = some (.rng 0 (n : Int)) ∧ n ≤ 1000 ∧ ∀ p, H p = none → Q (.ref p) (upd H p (.lst ((List.range n).map fun i => V.int ((i : Nat) : Int))))) := fun pins s σ H xs us Q I r h => by
  obtain ⟨a, n, rfl, ha, hn, q⟩ := h
  obtain ⟨u, rfl, ru⟩ := vals1 r
  cases ru
  obtain ⟨t, u, v, ho⟩ := I.hok _ _ ha
  refine call_list_range (n := n) (I.ok.hd hc) (show IsRange s.heap a 0 (n : Int) 1 t u v from ho) (small_one (by omega) (by omega) (by omega) (by omega)) ?_ (by omega) fun h' tk acc c hk hS hi => ?_
  · rw [rangeSize_one]
    by_cases h0 : (0 : Int) < n
    · rw [if_pos h0]
      omega
    · rw [if_neg h0]
      omega
  · obtain ⟨h1, h2⟩ := hi
    have hl : acc.toList.length = n := by rw [Array.length_toList]; exact h1
    have hv : Vals ((List.range n).map fun i => V.int ((i : Nat) : Int)) acc.toList := by
      rw [← hl]
      have g := vals_from (f := fun i => V.int ((i : Nat) : Int)) (us := acc.toList) 0 fun i v hv => by
        have hi : i < n := by
          rw [← hl]
          exact (List.getElem?_eq_some_iff.mp hv).1
        obtain ⟨t, e2⟩ := h2 i v (by simpa using hv)
        refine ⟨t, ?_⟩
        rw [e2]
        congr 1
        omega
      have e : (fun i => V.int (((0 + i : Nat)) : Int)) = fun i => V.int ((i : Nat) : Int) := by
        funext i
        rw [Nat.zero_add]
      rw [e] at g
      exact g
    exact ⟨.ref _, _, I.laid (o := .lst ((List.range n).map fun i => V.int ((i : Nat) : Int))) (t' := tk) hk (Nat.le_refl _) ⟨by rw [List.length_map, List.length_range]; exact sz_of (by omega), acc.toList, c, hv, by simpa using hS⟩, rfl, q _ (I.hok.fresh (Nat.le_refl _))⟩
/-! ### a method of a tuple whose object is known -/
/-- the place of a tuple whose object is known -/
def TupO (H : Hp) (x : V) : Prop := ∃ (p : Addr) (ob : Obj) (xs : List V), x = .ref p ∧ H p = some (.frz ob (.tup xs)) ∧ ob.cls = .type "tuple" ∧ ob.dict = none
def tBMT (r : V → List V → Hp → VK → Prop) (to : TE) (t : TA) : TE := fun σ H Q => to σ H fun x H1 => TupO H1 x ∧ t σ H1 fun xs H2 => r x xs H2 Q
theorem pe_tm {o e : Expr} {es : List Expr} {to : TE} {t : TA} {name : Str} {apos cpos : Pos} {id : String} {r : V → List V → Hp → VK → Prop} (slot : Slot "tuple" name id) (hty : typeOf (.builtin id) = pure (.type "method_descriptor")) (hm : MtR X id r) (ho : PE X o to) (ha : PA X (e :: es) t)
    (h1 : attributeBase o name X.env (eval o X.env) = eval o X.env := by rfl)
    (h2 : ((backTo cpos (starEach (e :: es) X.env)).all (fun x => !x.1) && (backToKw cpos (keywordEach [] X.env)).all (fun x => x.1.isSome)
      && decide ((e :: es).length + ([] : List Keyword).length + (if ([] : List Keyword).isEmpty then 0 else 1) < 30)) = true := by rfl)
    (h3 : (apos.endLine == cpos.line) = true := by rfl) (h4 : starEach (e :: es) X.env = (false, eval e X.env) :: starEach es X.env := by rfl) (h5 : (backTo cpos (starEach es X.env)).any (·.1) = false := by rfl) :
    PE X (.Call (.Attribute o name apos) (e :: es) [] cpos) (tBMT r to t) := ⟨fun pins s σ H Q I h => wpAny_Call_method_late h1 h2 h3 rfl (thn (ho.run pins s σ H _ I h) fun v s1 ⟨x, H1, I1, r1, ⟨p, ob, xs, ex, hp, hc, hd⟩, q1⟩ => by
  subst ex
  obtain rfl : v = Value.ref p := r1
  have hob : s1.heap.get? p = some ob := (I1.hok p _ hp).1
  refine ⟨"tuple", id, PySem.F.plainAttrs_tuple, slot, hty, ⟨ob, hob, hc⟩, fun a ea => ?_, ?_⟩
  · cases ea
    exact ⟨ob, hob, hd⟩
  · have g := ha.run cpos pins s1 σ H1 _ I1 q1
    rw [h4] at g ⊢
    have h6 : ((false, eval e X.env) :: backTo cpos (starEach es X.env)).any (·.1) = false := by
      rw [List.any_cons, h5]
      rfl
    exact Calls.callWith_builtin h6 (Calls.evalArgs_plain (thn g fun us s2 ⟨vs, H2, I2, r2, q2⟩ => hm pins s2 σ H2 (.ref p) vs _ us Q I2 rfl r2 q2)))⟩
/-- tuple(a list): a tuple whose object is known -/
def rTupF (K : PySem.W.Frag) : List V → Hp → VK → Prop := fun xs H Q => ∃ (p : Addr) (ys : List V), xs = [.ref p] ∧ SqL K H p ys ∧ ∀ (l : Addr) (ob : Obj), H l = none → ob.cls = .type "tuple" → ob.dict = none → Q (.ref l) (upd H l (.frz ob (.tup ys)))
theorem call_tupF : CallR X (.type "tuple") (rTupF X.K) := fun pins s σ H xs us Q I r h => by
  obtain ⟨p, ys, rfl, hq, q⟩ := h
  obtain ⟨u, rfl, rx⟩ := vals1 r
  cases rx
  obtain ⟨its, rv, pl, hz⟩ := I.list hq
  have hlen := rv.length
  refine call_tuple_list pl.isList (fun h' kp => ?_) (by rw [List.size_toArray]; omega)
  have I1 : Inv X pins σ H { s with heap := h' } := I.kept (t' := s.toks) kp
  have hget : (h'.push { cls := .type "tuple", data := .seq its.toArray }).get? h'.objs.size = some { cls := .type "tuple", data := .seq its.toArray } := Heap.get?_push_size _ rfl
  exact ⟨.ref h'.objs.size, _, I1.laid (o := .frz { cls := .type "tuple", data := .seq its.toArray } (.tup ys)) (t' := s.toks) (fun b o e => Heap.get?_push_of_some _ e) (Nat.le_refl _) ⟨hget, hz, its, rv, ⟨_, hget, rfl, _, rfl⟩⟩, rfl, q _ _ (I1.hok.fresh (Nat.le_refl _)) rfl rfl⟩
end
end Jl

set_option Elab.async false
set_option linter.all false
set_option maxRecDepth 100000
set_option maxHeartbeats 4000000
set_option pp.maxSteps 900
namespace Jl
open PySem PySem.Spec PyProof.Rows L2
open Evl (sz_of sz_lt)
local macro_rules | `(tactic| walk_at "at") => `(tactic| first | exact box0 | exact box1 | exact box2)
local macro_rules | `(tactic| walk_at "sq") => `(tactic| first | (show SqL _ _ _ _; assumption) | (show SqT _ _ _ _; assumption) | (show _ = some _; assumption))
local macro_rules | `(tactic| walk_at "side") => `(tactic| first
  | (show (0 : Int) < _; decide)
  | (show (0 : Int) < _; omega)
  | exact ⟨by decide, by decide, by decide⟩
  | exact sz_of (Nat.le_of_ble_eq_true rfl)
  | exact rfl
  | exact Or.inl (by decide)
  | exact Or.inr (by decide)
  | exact Or.inr ⟨by omega, by omega⟩
  | exact Or.inl ⟨by omega, by omega⟩
  | exact ⟨by decide, by decide +kernel⟩)
local macro_rules | `(tactic| walk_at "ev1") => `(tactic| first
  | refine ⟨_, rfl, ?_⟩
  | refine ⟨_, _, rfl, rfl, ?_⟩
  | refine ⟨_, _, _, _, rfl, rfl, (by walk_at "sq"), (by walk_at "at"), ?_⟩
  | refine ⟨_, _, rfl, (by walk_at "sq"), ?_⟩
  | refine ⟨_, _, rfl, Or.inl (by walk_at "sq"), ?_⟩
  | refine ⟨_, _, rfl, Or.inr (by walk_at "sq"), ?_⟩
  | refine Or.inl ⟨_, rfl, ?_⟩
  | refine Or.inr ⟨_, rfl, ?_⟩
  | refine ⟨(by walk_at "side"), ?_⟩
  | refine ⟨.inl ⟨rfl, _, (by walk_at "sq")⟩, ?_⟩
  | refine ⟨_, _, rfl, ?_⟩)
local macro_rules | `(tactic| walk_at "nrm") => `(tactic| dsimp only [tNil, tCons, tC, tCB])
local macro_rules | `(tactic| walk_at "ev") => `(tactic| repeat (walk_at "ev1"))

abbrev sc_w_web_N : List Str := ["_law_box_here", "_law_size_so", "_law_most", "_law_high", "_law_tags", "_law_marks", "_law_found", "_law_mark", "_law_one", "_law_two", "_law_space"]
abbrev s_w_web : Stmt := topS 35
theorem sc_w_web : FnScope ["_law_box_here", "_law_size_so", "_law_most", "_law_high", "_law_tags", "_law_marks", "_law_found", "_law_mark", "_law_one", "_law_two", "_law_space"] ["_law_box_here", "_law_size_so", "_law_most", "_law_high"] (defScope s_w_web) := ⟨rfl, rfl, rfl, by decide +kernel, rfl, by decide +kernel, by decide +kernel⟩
/-- the first row of a pair stands as a tuple whose object is known -/
def TupW (H : Hp) (v : V) (xs : List V) : Prop := ∃ (a0 a1 a2 : Addr) (ob : Obj), v = .ref a0 ∧ H a0 = some (.tup [.ref a1, .ref a2]) ∧ H a1 = some (.frz ob (.tup xs)) ∧ ob.cls = .type "tuple" ∧ ob.dict = none
/-! ### nets as data -/
structure QD where
  nm : Str
  st : Str
  en : Str
  room : Int
  gap : Int
def QD.d (f : Bool) (q : QD) : PyData := seqD f [.str q.nm, .str q.st, .str q.en, .int q.room, .int q.gap]
def netD (f : Bool) (ws : List Str) (qs : List QD) : PyData := seqD f [seqD f (ws.map PyData.str), seqD f (qs.map (QD.d f))]
def poolW : List Str := [Str.ofString "a", Str.ofString "b", Str.ofString "c.x", Str.ofString "d2", Str.ofString "k", Str.ofString "node", Str.ofString "s", Str.ofString "t", Str.ofString "w.1", Str.ofString "z"]
def poolQ : List Str := [Str.ofString "a", Str.ofString "d2", Str.ofString "e", Str.ofString "f1", Str.ofString "in.a", Str.ofString "k", Str.ofString "m", Str.ofString "out", Str.ofString "p", Str.ofString "q", Str.ofString "s", Str.ofString "v", Str.ofString "x", Str.ofString "z"]
structure GoodNet (s m : Nat) (h : Int) (ws : List Str) (qs : List QD) : Prop where
  wn : ws.Nodup
  wo : sortedS ws = true
  w2 : 2 ≤ ws.length
  wl : ws.length ≤ s
  wp : ∀ x ∈ ws, x ∈ poolW
  qn : ∃ l : List Str, l.Nodup ∧ sortedS l = true ∧ (∀ x ∈ l, x ∈ poolQ) ∧ ∃ k, qs.map QD.nm = l.take k
  q1 : 1 ≤ qs.length
  ql : qs.length ≤ m
  qq : ∀ q ∈ qs, q.st ∈ ws ∧ q.en ∈ ws ∧ q.st ≠ q.en ∧ 1 ≤ q.gap ∧ q.gap ≤ q.room ∧ q.room ≤ h
theorem cutS_at {S : List Addr} {H : Hp} {a : Addr} {o : HO} (h : H a = some o) (n : a ∉ S) : cutS S H a = some o := by
  rw [cutS_out n]
  exact h
theorem not1 {a b : Addr} (h : a ≠ b) : a ∉ [b] := fun z => h (List.mem_singleton.mp z)
theorem not2 {a b c : Addr} (h : a ≠ b) (h2 : a ≠ c) : a ∉ [b, c] := fun z => by
  rcases List.mem_cons.mp z with e | e
  · exact h e
  · exact h2 (List.mem_singleton.mp e)
theorem cutV_map {α : Type} {f : α → V} {xs : List α} {k : Nat} : cutV (xs.map f) none (some (k : Int)) = (xs.take k).map f := by
  unfold cutV
  rw [List.length_map, show HT.sIx xs.length 0 none = 0 from HT.sIx_none _ _, show HT.sIx xs.length xs.length (some (k : Int)) = min k xs.length from HT.sIx_nat _ _ _, Nat.sub_zero, List.drop_zero, ← List.map_take]
  congr 1
  by_cases h : k ≤ xs.length
  · rw [Nat.min_eq_left h]
  · rw [Nat.min_eq_right (by omega), List.take_of_length_le (by omega), List.take_of_length_le (by omega)]
/-- where the loop of _law_web stands -/
structure WSt (K : PySem.W.Frag) (b p7 p9 : Addr) (H3 : Hp) (ls fs : List V) (ds : List PyData) (Hc : Hp) (bx : List V) (n : Nat) : Prop where
  hb : Hc b = some (.lst bx)
  hB : BoxL bx n
  hf : Hc p7 = some (.lst fs)
  hd : DpAll K (cutS [p7, b] Hc) fs ds
  hS : Same (cutS [b] H3) (cutS [p7, b] Hc)
  h9 : cutS [p7, b] Hc p9 = some (.lst ls)
theorem WSt.take {K : PySem.W.Frag} {b p7 p9 : Addr} {H3 : Hp} {ls fs : List V} {ds : List PyData} {Hc : Hp} {bx bx' : List V} {n : Nat} (w : WSt K b p7 p9 H3 ls fs ds Hc bx n) (n7 : p7 ≠ b) (h : BoxL bx' (n + 1)) : WSt K b p7 p9 H3 ls fs ds (upd Hc b (.lst bx')) bx' (n + 1) := by
  have e : cutS [p7, b] (upd Hc b (.lst bx')) = cutS [p7, b] Hc := cutS_upd (List.mem_cons_of_mem _ List.mem_cons_self)
  exact ⟨upd_same, h, by rw [upd_ne n7]; exact w.hf, by rw [e]; exact w.hd, by rw [e]; exact w.hS, by rw [e]; exact w.h9⟩
theorem WSt.same {K : PySem.W.Frag} {b p7 p9 : Addr} {H3 : Hp} {ls fs : List V} {ds : List PyData} {Hc Hd : Hp} {bx : List V} {n : Nat} (w : WSt K b p7 p9 H3 ls fs ds Hc bx n) (e : Same Hc Hd) : WSt K b p7 p9 H3 ls fs ds Hd bx n :=
  ⟨e _ _ w.hb, w.hB, e _ _ w.hf, (cutS_mono e).dpa w.hd, w.hS.trans (cutS_mono e), cutS_mono e _ _ w.h9⟩
theorem WSt.push {K : PySem.W.Frag} {b p7 p9 : Addr} {H3 : Hp} {ls fs : List V} {ds : List PyData} {Hc : Hp} {bx : List V} {n : Nat} {v : V} {d : PyData} (w : WSt K b p7 p9 H3 ls fs ds Hc bx n) (n7 : p7 ≠ b) (h : Dp K (cutS [p7, b] Hc) v d) :
    WSt K b p7 p9 H3 ls (fs ++ [v]) (ds ++ [d]) (upd Hc p7 (.lst (fs ++ [v]))) bx n := by
  have e : cutS [p7, b] (upd Hc p7 (.lst (fs ++ [v]))) = cutS [p7, b] Hc := cutS_upd List.mem_cons_self
  exact ⟨by rw [upd_ne n7.symm]; exact w.hb, w.hB, upd_same, by rw [e]; exact dpa_app w.hd (dpa_one h), by rw [e]; exact w.hS, by rw [e]; exact w.h9⟩
theorem WSt.mono {K : PySem.W.Frag} {b p7 p9 : Addr} {H3 : Hp} {ls fs : List V} {ds : List PyData} {Hc : Hp} {bx : List V} {n n' : Nat} (w : WSt K b p7 p9 H3 ls fs ds Hc bx n) (h : n ≤ n') : WSt K b p7 p9 H3 ls fs ds Hc bx n' := ⟨w.hb, w.hB.mono h, w.hf, w.hd, w.hS, w.h9⟩
theorem apart (L r1 r2 : Int) (h1 : 0 ≤ r1) (h2 : r1 < L) (h3 : 0 ≤ r2) (h4 : r2 < L - 1) : 0 ≤ (r1 + 1 + r2) % L ∧ (r1 + 1 + r2) % L < L ∧ (r1 + 1 + r2) % L ≠ r1 := by
  refine ⟨Int.emod_nonneg _ (by omega), Int.emod_lt_of_pos _ (by omega), ?_⟩
  by_cases h : r1 + 1 + r2 < L
  · rw [Int.emod_eq_of_lt (by omega) h]
    omega
  · rw [← Int.sub_emod_right (r1 + 1 + r2) L, Int.emod_eq_of_lt (by omega) (by omega)]
    omega
section
variable {P : Program} {w : World} {K : PySem.W.Frag} {mg : Str → Option Value} {base : Heap}
/-- _law_web(box, size, most, high): a drawn net -/
def spWeb (K : PySem.W.Frag) : Sp := fun vs H Q _ => ∃ (b : Addr) (s m : Nat) (h : Int) (bx : List V) (N : Nat), vs = [.ref b, .int (s : Int), .int (m : Int), .int h] ∧ H b = some (.lst bx) ∧ BoxL bx N ∧ N < 2 ^ 50 ∧ 2 ≤ s ∧ s ≤ 10 ∧ 1 ≤ m ∧ m ≤ 14 ∧ 1 ≤ h ∧ h ≤ 10 ^ 50 ∧
  ∀ (H' : Hp) (v : V) (ws : List Str) (qs : List QD) (bx' : List V), GoodNet s m h ws qs → Dp K (cutS [b] H') v (netD true ws qs) → TupW (cutS [b] H') v (ws.map V.str) → H' b = some (.lst bx') → BoxL bx' (N + 200) → Same (cutS [b] H) (cutS [b] H') → Q v H'
theorem ok_web {f fT fP : Addr} {fd fdT fdP : FuncData} {k : Nat} (F : Fun K "_law_web" "_law_web" s_w_web f fd) (G_w_take : FnOk P w K mg base CX0 k fT fdT ["_law_box_here", "_law_below"] spTake2) (g_w_take : mg "_law_take" = some (.ref fT)) (F_w_take : Fun K "_law_take" "_law_take" s_w_take fT fdT) (b_w_take : Binds K fdT ["_law_box_here", "_law_below"] [])
    (G_w_pick : FnOk P w K mg base CX0 k fP fdP ["_law_box_here", "_law_pool", "_law_size_so"] (spPick K)) (g_w_pick : mg "_law_pick" = some (.ref fP)) (F_w_pick : Fun K "_law_pick" "_law_pick" s_w_pick fP fdP) (b_w_pick : Binds K fdP ["_law_box_here", "_law_pool", "_law_size_so"] [])
    (m_sorted : mg "sorted" = none) (m_len : mg "len" = none) (m_int : mg "int" = none) (m_tuple : mg "tuple" = none) : FnOk P w K mg base CX0 (k + 1) f fd ["_law_box_here", "_law_size_so", "_law_most", "_law_high"] (spWeb K) := by
  refine F.ok sc_w_web (fun vs H Q E h => ?_) (fun cdv A outer s0 H vs Q E hr h => ?_)
  · obtain ⟨b, s, m, h, bx, N, rfl, _⟩ := h
    rfl
  · obtain ⟨b, s, m, h, bx, N, rfl, hb, hB, hN, s1, s2, m1, m2, h1, h2, q⟩ := h
    refine ⟨_, (pss_cons (ps_set (i := 4) sc_w_web.nd rfl (Or.inl rfl) (pe_call G_w_pick hr (by rfl) g_w_pick F_w_pick.kp b_w_pick .nil pass0 (pa_cons (pv 0) (pa_cons (pe_lst (pa_cons pe_str (pa_cons pe_str (pa_cons pe_str (pa_cons pe_str (pa_cons pe_str (pa_cons pe_str (pa_cons pe_str (pa_cons pe_str (pa_cons pe_str (pa_cons pe_str pa_nil))))))))))) (pa_cons (pe_op op_add pe_int (pe_call G_w_take hr (by rfl) g_w_take F_w_take.kp b_w_take .nil pass0 (pa_cons (pv 0) (pa_cons (pe_op op_sub (pv 1) pe_int) pa_nil)))) pa_nil))))) 
    (pss_cons (ps_set (i := 5) sc_w_web.nd rfl (Or.inl rfl) (pe_callB cr_sortedS (by rfl) m_sorted (by decide +kernel) (pa_cons (pe_call G_w_pick hr (by rfl) g_w_pick F_w_pick.kp b_w_pick .nil pass0 (pa_cons (pv 0) (pa_cons (pe_lst (pa_cons pe_str (pa_cons pe_str (pa_cons pe_str (pa_cons pe_str (pa_cons pe_str (pa_cons pe_str (pa_cons pe_str (pa_cons pe_str (pa_cons pe_str (pa_cons pe_str (pa_cons pe_str (pa_cons pe_str (pa_cons pe_str (pa_cons pe_str pa_nil))))))))))))))) (pa_cons (pv 2) pa_nil)))) pa_nil))) 
    (pss_cons (ps_set (i := 6) sc_w_web.nd rfl (Or.inl rfl) (pe_lst pa_nil)) 
    (pss_cons (ps_forX (ps_for PassesOwn.never rfl (pi_list (pe_slice sl_list (pv 5) po_none (po_some (pe_op op_add pe_int (pe_call G_w_take hr (by rfl) g_w_take F_w_take.kp b_w_take .nil pass0 (pa_cons (pv 0) (pa_cons (pv 2) pa_nil))))))) (pg_name (i := 7) sc_w_web.nd rfl (Or.inl rfl)) 
      (pss_cons (ps_set (i := 8) sc_w_web.nd rfl (Or.inl rfl) (pe_call G_w_take hr (by rfl) g_w_take F_w_take.kp b_w_take .nil pass0 (pa_cons (pv 0) (pa_cons (pe_callB call_len_seq (by rfl) m_len PySem.boot_len (pa_cons (pv 4) pa_nil)) pa_nil)))) 
      (pss_cons (ps_set (i := 9) sc_w_web.nd rfl (Or.inl rfl) (pe_op op_mod (pe_callTy call_int1 (by rfl) m_int (by decide +kernel) (pa_cons (pe_op op_add (pe_op op_add (pv 8) pe_int) (pe_call G_w_take hr (by rfl) g_w_take F_w_take.kp b_w_take .nil pass0 (pa_cons (pv 0) (pa_cons (pe_op op_sub (pe_callB call_len_seq (by rfl) m_len PySem.boot_len (pa_cons (pv 4) pa_nil)) pe_int) pa_nil)))) pa_nil)) (pe_callB call_len_seq (by rfl) m_len PySem.boot_len (pa_cons (pv 4) pa_nil)))) 
      (Evl.pss_cut (ps_if (PW.pt (pw_and (pt_cmpR op_gt (pv 8) (pv 9) (nomark _)) (pw_and1 (pt_cmpR op_gt (pe_call G_w_take hr (by rfl) g_w_take F_w_take.kp b_w_take .nil pass0 (pa_cons (pv 0) (pa_cons pe_int pa_nil))) pe_int (nomark _))))) (pss_one (ps_par (i := 8) (j := 9) (by rfl) sc_w_web.nd rfl rfl (by decide) rfl rfl (pa_cons (pv 9) (pa_cons (pv 8) pa_nil)) (by rfl))) pss_nil) 
      (pss_cons (ps_set (i := 10) sc_w_web.nd rfl (Or.inl rfl) (pe_op op_add pe_int (pe_call G_w_take hr (by rfl) g_w_take F_w_take.kp b_w_take .nil pass0 (pa_cons (pv 0) (pa_cons (pv 3) pa_nil))))) 
      (pss_one (ps_expr (pe_bm PySem.F.plainAttrs_list PySem.F.slot_list_append PySem.F.type_list_append mt_append (pv 6) (pa_cons (pe_tup (pa_cons (pv 7) (pa_cons (pe_ix ix_list (pv 4) (pv 8) (fun _ _ => rfl)) (pa_cons (pe_ix ix_list (pv 4) (pv 9) (fun _ _ => rfl)) (pa_cons (pv 10) (pa_cons (pe_op op_add pe_int (pe_call G_w_take hr (by rfl) g_w_take F_w_take.kp b_w_take .nil pass0 (pa_cons (pv 0) (pa_cons (pv 10) pa_nil)))) pa_nil)))))) pa_nil)))))))))) 
    (pss_one (ps_ret (pe_tup (pa_cons (pe_callTy call_tupF (by rfl) m_tuple (by decide +kernel) (pa_cons (pe_callB cr_sortedS (by rfl) m_sorted (by decide +kernel) (pa_cons (pv 4) pa_nil)) pa_nil)) (pa_cons (pe_callTy call_tuple_of (by rfl) m_tuple (by decide +kernel) (pa_cons (pv 6) pa_nil)) pa_nil))))))))), ?_⟩
    have t0 : Trk [b] H := Trk.cons Trk.nil hb
    walk_at "ev"
    intro p1 hp1
    have n1 : p1 ≠ b := fun z => by
      rw [z, hb] at hp1
      cases hp1
    have hb1 : (upd H p1 (.lst (poolW.map V.str))) b = some (.lst bx) := (Same.upd hp1) _ _ hb
    have hS1 : Same (cutS [b] H) (cutS [b] (upd H p1 (.lst (poolW.map V.str)))) := cutS_mono (.upd hp1)
    have hq1 : (upd H p1 (.lst (poolW.map V.str))) p1 = some (.lst (poolW.map V.str)) := upd_same
    show tCons _ _ _ (upd H p1 (.lst (poolW.map V.str))) _
    generalize upd H p1 (.lst (poolW.map V.str)) = H1 at hb1 hS1 hq1 ⊢
    walk_at "ev"
    refine ⟨b, (s : Int) - 1, bx, N, rfl, hb1, hB, by omega, by omega, small8000 (by omega), fun r bx1 r0 r1 hB1 => ?_⟩
    walk_at "ev"
    have hb2 : (upd H1 b (.lst bx1)) b = some (.lst bx1) := upd_same
    have hq2 : (upd H1 b (.lst bx1)) p1 = some (.lst (poolW.map V.str)) := by
      rw [upd_ne n1]
      exact hq1
    have hS2 : Same (cutS [b] H) (cutS [b] (upd H1 b (.lst bx1))) := by
      rw [cutS_upd List.mem_cons_self]
      exact hS1
    refine ⟨b, p1, 2 + r, bx1, N + 1, poolW, rfl, hb2, hB1, by show N + 1 + 10 < 2 ^ 60; omega, sql_of hq2, by decide, by omega, by omega, fun H3 p3 ts rs bx3 hperm hlen hp3 hq3 hb3 hB3 hS3 => ?_⟩
    have tl : ts.length = (2 + r).toNat := by
      rw [hlen]
      show min _ 10 = _
      omega
    have hS3' := hS2.trans hS3
    have n3 : p3 ≠ b := fun z => by
      rw [z, hb2] at hp3
      cases hp3
    have htn : ts.Nodup ∧ ∀ x ∈ ts, x ∈ poolW := by
      have hn : (ts ++ rs).Nodup := hperm.nodup_iff.mpr (by decide +kernel)
      exact ⟨(List.nodup_append.mp hn).1, fun x hx => hperm.mem_iff.mp (List.mem_append_left _ hx)⟩
    have hB3' : BoxL bx3 (N + 20) := hB3.mono (by omega)
    clear hlen hperm hB3 hS3 hB1 hB hq2 hq1 hb1 hS1 hS2 hp3 hb2
    show gName 4 (.ref p3) _ H3 _
    clear hp1 n1
    have hT3 : cutS [b] H3 p3 = some (.lst (ts.map V.str)) := cutS_at hq3 (not1 n3)
    have t3 : Trk [b] H3 := Trk.cons Trk.nil hb3
    walk_at "ev"
    intro p4 hp4
    have n4 : p4 ≠ b := fun z => by
      rw [z, hb3] at hp4
      cases hp4
    have hb4 : (upd H3 p4 (.lst (poolQ.map V.str))) b = some (.lst bx3) := (Same.upd hp4) _ _ hb3
    have hS4 : Same (cutS [b] H3) (cutS [b] (upd H3 p4 (.lst (poolQ.map V.str)))) := cutS_mono (.upd hp4)
    have hq4 : (upd H3 p4 (.lst (poolQ.map V.str))) p4 = some (.lst (poolQ.map V.str)) := upd_same
    show tCons _ _ _ (upd H3 p4 (.lst (poolQ.map V.str))) _
    generalize upd H3 p4 (.lst (poolQ.map V.str)) = H4 at hb4 hS4 hq4 ⊢
    walk_at "ev"
    refine ⟨b, p4, (m : Int), bx3, N + 20, poolQ, rfl, hb4, hB3', by show N + 20 + 14 < 2 ^ 60; omega, sql_of hq4, by decide, by omega, by omega, fun H5 p5 ms rs2 bx5 hperm2 hlen2 hp5 hq5 hb5 hB5 hS5 => ?_⟩
    have ml : ms.length = m := by
      rw [hlen2]
      show min _ 14 = _
      omega
    have hS5' := hS4.trans hS5
    have hmn : ms.Nodup ∧ ∀ x ∈ ms, x ∈ poolQ := by
      have hn : (ms ++ rs2).Nodup := hperm2.nodup_iff.mpr (by decide +kernel)
      exact ⟨(List.nodup_append.mp hn).1, fun x hx => hperm2.mem_iff.mp (List.mem_append_left _ hx)⟩
    have hB5' : BoxL bx5 (N + 40) := hB5.mono (by omega)
    clear hlen2 hperm2 hB5 hS5 hq4 hb4 hS4 hp5
    walk_at "ev"
    refine ⟨p5, ms, rfl, sql_of hq5, by omega, fun zs p6 hz1 hz2 hp6 => ?_⟩
    have zl : zs.length = m := by rw [hz1.length_eq, ml]
    have hzn : zs.Nodup ∧ ∀ x ∈ zs, x ∈ poolQ := ⟨hz1.nodup_iff.mpr hmn.1, fun x hx => hmn.2 x (hz1.mem_iff.mp hx)⟩
    have hb6 : (upd H5 p6 (.lst (zs.map V.str))) b = some (.lst bx5) := (Same.upd hp6) _ _ hb5
    have hS6 : Same (cutS [b] H3) (cutS [b] (upd H5 p6 (.lst (zs.map V.str)))) := hS5'.trans (cutS_mono (.upd hp6))
    have hq6 : (upd H5 p6 (.lst (zs.map V.str))) p6 = some (.lst (zs.map V.str)) := upd_same
    have n6 : p6 ≠ b := fun z => by
      rw [z, hb5] at hp6
      cases hp6
    clear hmn hz1 hq5 hp6 hS5' ml
    show gName 5 (.ref p6) _ (upd H5 p6 (.lst (zs.map V.str))) _
    generalize upd H5 p6 (.lst (zs.map V.str)) = H6 at hb6 hS6 hq6 ⊢
    clear hb5 hp4 n4
    walk_at "ev"
    intro p7 hp7
    have n7 : p7 ≠ b := fun z => by
      rw [z, hb6] at hp7
      cases hp7
    have hb7 : (upd H6 p7 (.lst [])) b = some (.lst bx5) := (Same.upd hp7) _ _ hb6
    have hq7 : (upd H6 p7 (.lst [])) p7 = some (.lst []) := upd_same
    have hS7 : Same (cutS [b] H3) (cutS [p7, b] (upd H6 p7 (.lst []))) := hS6.trans (cutS_cons hp7)
    have hM7 : cutS [p7, b] (upd H6 p7 (.lst [])) p6 = some (.lst (zs.map V.str)) := (cutS_cons (S := [b]) (o := .lst []) hp7) _ _ (cutS_at hq6 (not1 n6))
    show gName 6 (.ref p7) _ (upd H6 p7 (.lst [])) _
    generalize upd H6 p7 (.lst []) = H7 at hb7 hS7 hq7 hM7 ⊢
    clear hb6 hS6 hq6 hp7
    refine for_of ?_
    walk_at "ev"
    refine ⟨b, (m : Int), bx5, N + 40, rfl, hb7, hB5', by omega, by omega, small8000 (by omega), fun r8 bx8 r80 r81 hB8 => ?_⟩
    have hq8 : (upd H7 b (.lst bx8)) p7 = some (.lst []) := by
      rw [upd_ne n7]
      exact hq7
    have hb8 : (upd H7 b (.lst bx8)) b = some (.lst bx8) := upd_same
    have eS8 : cutS [p7, b] (upd H7 b (.lst bx8)) = cutS [p7, b] H7 := cutS_upd (List.mem_cons_of_mem _ List.mem_cons_self)
    rw [← eS8] at hS7 hM7
    generalize upd H7 b (.lst bx8) = H8 at hb8 hS7 hq8 hM7 ⊢
    clear hb7 hq7 eS8 hB5'
    have hSl8 : SqL K H8 p6 (zs.map V.str) := sql_of (cutS_le _ _ hM7)
    walk_at "ev"
    intro p9 hp9
    obtain ⟨k, hk⟩ : ∃ k : Nat, 1 + r8 = (k : Int) := ⟨(1 + r8).toNat, by omega⟩
    rw [hk, cutV_map]
    have kl : k ≤ zs.length := by omega
    have w0 : WSt K b p7 p9 H3 ((zs.take k).map V.str) [] [] (upd H8 p9 (.lst ((zs.take k).map V.str))) bx8 (N + 41) :=
      ⟨(Same.upd hp9) _ _ hb8, hB8, (Same.upd hp9) _ _ hq8, .nil, hS7.trans (cutS_mono (.upd hp9)), cutS_new (Trk.cons (Trk.cons Trk.nil hb8) hq8) hp9⟩
    generalize upd H8 p9 (.lst ((zs.take k).map V.str)) = H9 at w0 ⊢
    clear hp9 hb8 hS7 hq8 hM7 hSl8 hB8
    refine ⟨p9, rfl, ⟨_, sql_of (cutS_le _ _ w0.h9)⟩, ?_⟩
    refine forR_it (walk_list (K := K) (a := p9) (xs := (zs.take k).map V.str)) (fun i σ Hc => ∃ (x7 x8 x9 x10 : Option V) (fs : List V) (qs : List QD) (bxc : List V), σ = [some (.ref b), some (.int (s : Int)), some (.int (m : Int)), some (.int h), some (.ref p3), some (.ref p6), some (.ref p7), x7, x8, x9, x10] ∧
        WSt K b p7 p9 H3 ((zs.take k).map V.str) fs (qs.map (QD.d true)) Hc bxc (N + 41 + 6 * i) ∧ qs.map QD.nm = zs.take i ∧ qs.length = i ∧ ∀ q ∈ qs, q.st ∈ ts ∧ q.en ∈ ts ∧ q.st ≠ q.en ∧ 1 ≤ q.gap ∧ q.gap ≤ q.room ∧ q.room ≤ h)
      ⟨_, _, _, _, [], [], bx8, rfl, w0, rfl, rfl, fun _ hx => absurd hx List.not_mem_nil⟩ (fun i σ Hc _ hh => ?_) (fun i v σ Hc Hc' hi hh y => ?_) (fun σ Hc hh => ?_)
    · obtain ⟨_, _, _, _, _, _, _, _, hw, _⟩ := hh
      exact sql_of (cutS_le _ _ hw.h9)
    · obtain ⟨x7, x8, x9, x10, fs, qs, bxc, rfl, hw, hqn, hql, hqq⟩ := hh
      obtain ⟨rfl, hv⟩ := y
      rw [List.length_map, List.length_take, Nat.min_eq_left kl] at hi
      have hzi : i < zs.length := by omega
      have ev : v = .str zs[i] := by
        rw [List.getElem?_map, List.getElem?_take_of_lt hi, List.getElem?_eq_getElem hzi] at hv
        exact (Option.some.inj hv).symm
      subst ev
      have hTc : SqL K Hc' p3 (ts.map V.str) := sql_of (cutS_le _ _ (hw.hS _ _ hT3))
      have hTl : (ts.map V.str).length = ts.length := List.length_map ..
      walk_at "ev"
      refine ⟨b, _, bxc, _, rfl, hw.hb, hw.hB, by omega, by omega, small8000 (by omega), fun r1 bx1 r10 r11 hB1 => ?_⟩
      have w1 := hw.take n7 hB1
      have hT1 : SqL K _ p3 (ts.map V.str) := sql_of (cutS_le _ _ (w1.hS _ _ hT3))
      generalize upd Hc' b (.lst bx1) = Ha at w1 hT1 ⊢
      walk_at "ev"
      refine ⟨b, _, bx1, _, rfl, w1.hb, w1.hB, by omega, by omega, small8000 (by omega), fun r2 bx2 r20 r21 hB2 => ?_⟩
      have w2 := w1.take n7 hB2
      have hT2 : SqL K _ p3 (ts.map V.str) := sql_of (cutS_le _ _ (w2.hS _ _ hT3))
      generalize upd Ha b (.lst bx2) = Hb at w2 hT2 ⊢
      clear hw w1 hTc hT1 hB1 hB2
      walk_at "ev"
      obtain ⟨ap1, ap2, ap3⟩ := apart (ts.map V.str).length r1 r2 r10 r11 r20 r21
      refine ⟨fun σ Hd => ∃ (o t : Nat) (x10' : Option V) (bxd : List V), σ = [some (.ref b), some (.int (s : Int)), some (.int (m : Int)), some (.int h), some (.ref p3), some (.ref p6), some (.ref p7), some (.str zs[i]), some (.int (o : Int)), some (.int (t : Int)), x10'] ∧
        o < ts.length ∧ t < ts.length ∧ o ≠ t ∧ WSt K b p7 p9 H3 ((zs.take k).map V.str) fs (qs.map (QD.d true)) Hd bxd (N + 41 + 6 * i + 1 + 1 + 1), ?_, ?_⟩
      · walk_at "ev"
        obtain ⟨o, rfl⟩ : ∃ o : Nat, r1 = (o : Int) := ⟨r1.toNat, by omega⟩
        obtain ⟨t, ht⟩ : ∃ t : Nat, ((o : Int) + 1 + r2) % ((ts.map V.str).length : Int) = (t : Int) := ⟨(((o : Int) + 1 + r2) % ((ts.map V.str).length : Int)).toNat, by omega⟩
        rw [ht] at ap1 ap2 ap3
        refine ite2 (fun e => ?_) (fun e => ?_)
        · walk_at "ev"
          refine ⟨b, _, bx2, _, rfl, w2.hb, w2.hB, by omega, by omega, small8000 (by omega), fun r3 bx3' r30 r31 hB3 => ?_⟩
          have w3 := w2.take n7 hB3
          walk_at "ev"
          refine ite2 (fun e2 => ?_) (fun e2 => ?_)
          · walk_at "ev"
            exact ⟨t, o, _, bx3', by rw [← ht]; rfl, by omega, by omega, by omega, w3⟩
          · exact ⟨o, t, _, bx3', by rw [← ht]; rfl, by omega, by omega, by omega, w3⟩
        · refine iteF ?_
          exact ⟨o, t, _, bx2, by rw [← ht]; rfl, by omega, by omega, by omega, ⟨w2.hb, w2.hB.mono (by omega), w2.hf, w2.hd, w2.hS, w2.h9⟩⟩
      · rintro σ Hd ⟨o, t, x10', bxd, rfl, ho, ht, hot, w3⟩
        walk_at "ev"
        refine ⟨b, h, bxd, _, rfl, w3.hb, w3.hB, by omega, by omega, small8000 (by omega), fun r5 bx5' r50 r51 hB5 => ?_⟩
        have w5 := w3.take n7 hB5
        have hT5 : SqL K _ p3 (ts.map V.str) := sql_of (cutS_le _ _ (w5.hS _ _ hT3))
        have hF5 : SqL K _ p7 fs := sql_of w5.hf
        generalize upd Hd b (.lst bx5') = He at w5 hT5 hF5 ⊢
        walk_at "ev"
        have a1 : atI (ts.map V.str) (o : Int) = some (.str ts[o]) := at_of rfl (by rw [List.getElem?_map, List.getElem?_eq_getElem ho]; rfl)
        have a2 : atI (ts.map V.str) (t : Int) = some (.str ts[t]) := at_of rfl (by rw [List.getElem?_map, List.getElem?_eq_getElem ht]; rfl)
        refine ⟨_, _, _, _, rfl, rfl, hT5, a1, ?_⟩
        walk_at "ev"
        refine ⟨_, _, _, _, rfl, rfl, hT5, a2, ?_⟩
        walk_at "ev"
        refine ⟨b, 1 + r5, bx5', _, rfl, w5.hb, w5.hB, by omega, by omega, small8000 (by omega), fun r6 bx6' r60 r61 hB6 => ?_⟩
        have w6 := w5.take n7 hB6
        generalize upd He b (.lst bx6') = Hf at w6 ⊢
        walk_at "ev"
        intro pt hpt
        have w7 := w6.same (.upd (o := .tup [V.str zs[i], V.str ts[o], V.str ts[t], V.int (1 + r5), V.int (1 + r6)]) hpt)
        have hpt2 : cutS [p7, b] (upd Hf pt (.tup [V.str zs[i], V.str ts[o], V.str ts[t], V.int (1 + r5), V.int (1 + r6)])) pt = some (.tup [V.str zs[i], V.str ts[o], V.str ts[t], V.int (1 + r5), V.int (1 + r6)]) :=
          cutS_new (Trk.cons (Trk.cons Trk.nil w6.hb) w6.hf) hpt
        have fl : fs.length = qs.length := by rw [dpa_len w7.hd, List.length_map]
        have w8 := w7.push n7 (v := .ref pt) (d := QD.d true ⟨zs[i], ts[o], ts[t], 1 + r5, 1 + r6⟩) (.tup (sqt_of hpt2) (.cons (.str _) (.cons (.str _) (.cons (.str _) (.cons (.int _) (.cons (.int _) .nil))))))
        refine ⟨p7, fs, .ref pt, rfl, rfl, w7.hf, sz_lt (by omega), ?_⟩
        refine ⟨_, _, _, _, fs ++ [.ref pt], qs ++ [⟨zs[i], ts[o], ts[t], 1 + r5, 1 + r6⟩], bx6', rfl, ?_, ?_, ?_, ?_⟩
        · rw [List.map_append]
          exact w8.mono (by omega)
        · rw [List.map_append, hqn, List.take_add_one, List.getElem?_eq_getElem hzi]
          rfl
        · rw [List.length_append, hql]
          rfl
        · intro x hx
          rcases List.mem_append.mp hx with hx | hx
          · exact hqq x hx
          · rw [List.mem_singleton.mp hx]
            refine ⟨List.getElem_mem ho, List.getElem_mem ht, fun e => hot (nd_ix htn.1 (List.getElem?_eq_getElem ho) (by rw [List.getElem?_eq_getElem ht]; exact congrArg some e.symm)), by show 1 ≤ 1 + r6; omega, by show 1 + r6 ≤ 1 + r5; omega, by show 1 + r5 ≤ h; omega⟩
    · obtain ⟨x7, x8, x9, x10, fs, qs, bxc, rfl, hw, hqn, hql, hqq⟩ := hh
      rw [List.length_map, List.length_take, Nat.min_eq_left kl] at hw hqn hql
      have hTc : SqL K Hc p3 (ts.map V.str) := sql_of (cutS_le _ _ (hw.hS _ _ hT3))
      walk_at "ev"
      refine ⟨by omega, fun us p10 hu1 hu2 hp10 => ?_⟩
      have w10 := hw.same (.upd (o := .lst (us.map V.str)) hp10)
      refine ⟨p10, _, rfl, sql_of upd_same, fun p11 ob hp11 hoc hod => ?_⟩
      have w11 := w10.same (.upd (o := .frz ob (.tup (us.map V.str))) hp11)
      have n11 : p11 ≠ b := fun z => by
        rw [z, w10.hb] at hp11
        cases hp11
      have g11 : cutS [b] _ p11 = some (.frz ob (.tup (us.map V.str))) := cutS_at (upd_same (H := upd Hc p10 (.lst (us.map V.str))) (a := p11) (o := .frz ob (.tup (us.map V.str)))) (not1 n11)
      generalize upd (upd Hc p10 (.lst (us.map V.str))) p11 (.frz ob (.tup (us.map V.str))) = H11 at w11 g11 ⊢
      walk_at "ev"
      refine ⟨p7, fs, rfl, .inl ⟨sql_of w11.hf, fun p12 hp12 => ?_⟩⟩
      have w12 := w11.same (.upd (o := .tup fs) hp12)
      have n12 : p12 ≠ b := fun z => by
        rw [z, w11.hb] at hp12
        cases hp12
      have g12 : cutS [b] _ p12 = some (.tup fs) := cutS_at (upd_same (H := H11) (a := p12) (o := .tup fs)) (not1 n12)
      have g11' := cutS_mono (S := [b]) (.upd (o := .tup fs) hp12) _ _ g11
      generalize upd H11 p12 (.tup fs) = H12 at w12 g12 g11' ⊢
      walk_at "ev"
      intro p13 hp13
      have w13 := w12.same (.upd (o := .tup [.ref p11, .ref p12]) hp13)
      have n13 : p13 ≠ b := fun z => by
        rw [z, w12.hb] at hp13
        cases hp13
      have e13 : Same (cutS [b] H12) (cutS [b] (upd H12 p13 (.tup [.ref p11, .ref p12]))) := cutS_mono (.upd hp13)
      have htl : ts.length = us.length := hu1.length_eq.symm
      have hus : us.Nodup ∧ ∀ x, x ∈ us ↔ x ∈ ts := ⟨hu1.nodup_iff.mpr htn.1, fun x => hu1.mem_iff⟩
      refine q _ (.ref p13) us qs bxc ⟨hus.1, hu2, by omega, by omega, fun x hx => htn.2 x ((hus.2 x).mp hx), ⟨zs, hzn.1, hz2, hzn.2, k, hqn⟩, by omega, by omega, fun x hx => ?_⟩ ?_ ⟨p13, p11, p12, ob, rfl, cutS_at upd_same (not1 n13), e13 _ _ g11', hoc, hod⟩ w13.hb (w13.hB.mono (by omega)) ?_
      · obtain ⟨q1, q2, q3⟩ := hqq x hx
        exact ⟨(hus.2 _).mpr q1, (hus.2 _).mpr q2, q3⟩
      · exact .tup (sqt_of (cutS_at upd_same (not1 n13))) (.cons (.tup (.inl (.inr ⟨ob, e13 _ _ g11'⟩)) dpa_strs) (.cons (.tup (sqt_of (e13 _ _ g12)) (cutS_tail.dpa w13.hd)) .nil))
      · exact hS3'.trans (w13.hS.trans cutS_tail)
end
end Jl

set_option Elab.async false
set_option linter.all false
set_option maxRecDepth 100000
set_option maxHeartbeats 4000000
set_option pp.maxSteps 900
namespace Jl
open PySem PySem.Spec PyProof.Rows L2
open Evl (sz_of sz_lt)
local macro_rules | `(tactic| walk_at "at") => `(tactic| first | exact box0 | exact box1 | exact box2)
local macro_rules | `(tactic| walk_at "sq") => `(tactic| first | (show SqL _ _ _ _; assumption) | (show SqT _ _ _ _; assumption) | (show _ = some _; assumption))
local macro_rules | `(tactic| walk_at "side") => `(tactic| first
  | (show (0 : Int) < _; decide)
  | (show (0 : Int) < _; omega)
  | exact ⟨by decide, by decide, by decide⟩
  | exact sz_of (Nat.le_of_ble_eq_true rfl)
  | exact rfl
  | exact Or.inl (by decide)
  | exact Or.inr (by decide)
  | exact Or.inr ⟨by omega, by omega⟩
  | exact Or.inl ⟨by omega, by omega⟩
  | exact ⟨by decide, by decide +kernel⟩)
local macro_rules | `(tactic| walk_at "ev1") => `(tactic| first
  | refine ⟨_, rfl, ?_⟩
  | refine ⟨_, _, rfl, rfl, ?_⟩
  | refine ⟨_, _, _, _, rfl, rfl, (by walk_at "sq"), (by walk_at "at"), ?_⟩
  | refine ⟨_, _, rfl, (by walk_at "sq"), ?_⟩
  | refine ⟨_, _, rfl, Or.inl (by walk_at "sq"), ?_⟩
  | refine ⟨_, _, rfl, Or.inr (by walk_at "sq"), ?_⟩
  | refine Or.inl ⟨_, rfl, ?_⟩
  | refine Or.inr ⟨_, rfl, ?_⟩
  | refine ⟨(by walk_at "side"), ?_⟩
  | refine ⟨.inl ⟨rfl, _, (by walk_at "sq")⟩, ?_⟩
  | refine ⟨_, _, rfl, ?_⟩)
local macro_rules | `(tactic| walk_at "nrm") => `(tactic| dsimp only [tNil, tCons, tC, tCB])
local macro_rules | `(tactic| walk_at "ev") => `(tactic| repeat (walk_at "ev1"))

/-! ### dict comprehensions by a walk -/
section
variable {X : Cx}
inductive DcP (wi : TI) (g : TG) (tt : TT) (tk tv : TE) (vs : List Nat) (σ : L2.St) (H : Hp) (Q : VK) : Prop
  | yes (h : tDc wi g tt tk tv vs σ H Q)
  | no (h : False)
def tDcX (wi : TI) (g : TG) (tt : TT) (tk tv : TE) (vs : List Nat) : TE := fun σ H Q => DcP wi g tt tk tv vs σ H Q
theorem pe_dcX {e : Expr} {wi : TI} {g : TG} {tt : TT} {tk tv : TE} {vs : List Nat} (h : PE X e (tDc wi g tt tk tv vs)) : PE X e (tDcX wi g tt tk tv vs) := ⟨fun pins s σ H Q I q => by
  cases q with
  | yes q => exact h.run pins s σ H Q I q
  | no q => exact q.elim⟩
theorem swd_true {kx vx : Expr} {gs : List Comprehension} {scope : Scope} {pos py : Pos} {y : Str} {l : Nat} {env : Env} (h1 : env.scope.kind = .function) (h2 : env.scope.names.lookup y = some .local) (h3 : (py.line == pos.line) = true)
    (h4 : (scope.names.any fun (n, k) => n == y && (k == .local || k == .cell)) = false) : swapsWith (.DictComp kx vx gs scope pos) (some (.Name y py)) l env = pure true := by
  have g1 : env.blockKind = .function := by
    unfold Env.blockKind
    rw [h1]
    rfl
  have g2 : env.kindOf y = some .local := h2
  unfold swapsWith
  simp only [g1, g2, h4, Expr.pos, h3]
  rfl
/-- y = {k: v for ..}: the name is stored within the comprehension's block -/
theorem ps_setDc {i : Nat} {y : Str} {py : Pos} {kx vx tg iter : Expr} {ifs : List Expr} {scope : Scope} {own : List (Str × Nat)} {pos spos : Pos} {wi : TI} {g : TG} {tt : TT} {tk tv : TE} (hc : X.calm = true) (hN : X.N.Nodup) (hy : X.N[i]? = some y) (hyl : X.env.scope.names.lookup y = some .local)
    (hsw : swapsWith (.DictComp kx vx [⟨tg, iter, ifs, 0⟩] scope pos) (some (.Name y py)) spos.line X.env = pure true) (hi : PI X tg iter wi) (ok : BlkOk X.N X.env.scope scope own)
    (hg : ∀ (s : Shared) (H : Hp) (C : Addr) (cl : List (Str × Addr)) (fp : List Addr), PG (X.blk s H scope (compEnvC scope cl C X.env) fp) tg g) (ht : ∀ (s : Shared) (H : Hp) (C : Addr) (cl : List (Str × Addr)) (fp : List Addr), PTs (X.blk s H scope (compEnvC scope cl C X.env) fp) ifs tt)
    (hk : ∀ (s : Shared) (H : Hp) (C : Addr) (cl : List (Str × Addr)) (fp : List Addr), PE (X.blk s H scope (compEnvC scope cl C X.env) fp) kx tk)
    (he : ∀ (s : Shared) (H : Hp) (C : Addr) (cl : List (Str × Addr)) (fp : List Addr), PE (X.blk s H scope (compEnvC scope cl C X.env) fp) vx tv) (hs : ∀ x, foldedSetIterable iter X.env x = pure x := by intro _; rfl) :
    PS X (.Assign [.Name y py] (.DictComp kx vx [⟨tg, iter, ifs, 0⟩] scope pos) spos) (tAsg (tDc wi g tt tk tv (own.map (·.2))) (gName i)) := ⟨fun pins s σ H D I h => by
  rw [exec_Assign_Name_used _ _ _ _ hsw]
  have h' : tDc wi g tt tk tv (own.map (·.2)) σ H (fun x H1 => gName i x σ H1 D.nx) := h
  have core := dc_core (pos := pos) (pos' := firstIterPos [⟨tg, iter, ifs, 0⟩] pos) (use := some (assign (.Name y py) X.env)) (Qf := fun _ s' => SP X pins D .next s') hc hN I hi ok hg ht hk he hs h' (fun L C s' m H' I' q hn f => by
    obtain ⟨f0, f1, f2, f3, f4, f5⟩ := f
    show wpAny _ _ (assign (.Name y py) X.env (.ref L)) _ _ _
    exact wpAny_assign_Name (store_ok2 (v := V.ref L) I' hN hy (.inl hyl) rfl (fun s2 I2 ⟨a, sb, ha⟩ => ⟨m, hn.sameBut sb (by
      rcases ha with z | z
      · rw [z]
        exact f1
      · exact fun e => f4 y a z e.symm), fun h3 sb3 => ⟨_, H', I2.turned (t' := s2.toks) (fun b o hb e => (sb3.2 b hb).trans e) f0 f1 f3 f4 f5, q⟩⟩) (.inr hyl)))
  exact wpAny_bind (wpAny_standAt (wpAny_bind (wpAny_bind (thn core fun _ s' hq => wpAny_pure (wpAny_pure hq)))))⟩
theorem ps_setDcX {st : Stmt} {i : Nat} {wi : TI} {g : TG} {tt : TT} {tk tv : TE} {vs : List Nat} (h : PS X st (tAsg (tDc wi g tt tk tv vs) (gName i))) : PS X st (tAsg (tDcX wi g tt tk tv vs) (gName i)) := ⟨fun pins s σ H D I q => by
  have q : DcP wi g tt tk tv vs σ H (fun x H1 => gName i x σ H1 D.nx) := q
  cases q with
  | yes q => exact h.run pins s σ H D I q
  | no q => exact q.elim⟩
theorem dc_of {wi : TI} {g : TG} {tt : TT} {tk tv : TE} {vs : List Nat} {σ : L2.St} {H : Hp} {Q : VK} (q : tDc wi g tt tk tv vs σ H Q) : tDcX wi g tt tk tv vs σ H Q := .yes q
end
/-- {x: f x for x in a row of texts} -/
theorem dc_strs {K : PySem.W.Frag} {tl tk tv : TE} {j : Nat} {vs : List Nat} {σ : L2.St} {H H0 : Hp} {Q : VK} {a : Addr} {fb : Bool} {xs : List Str} (f : Str → V) (hn : xs.Nodup)
    (ht : ∀ R' : VK, R' (.ref a) H0 → tl σ H R') (hs : SqF fb K H0 a (xs.map V.str)) (hl : xs.length ≤ 1000) (hw : ∀ x, wipe ((wipe σ vs).set j (some x)) vs = wipe σ vs)
    (hk : ∀ (x : Str) (H1 : Hp) (Q' : VK), Q' (.str x) H1 → tk ((wipe σ vs).set j (some (.str x))) H1 Q') (hv : ∀ (x : Str) (H1 : Hp) (Q' : VK), Q' (f x) H1 → tv ((wipe σ vs).set j (some (.str x))) H1 Q')
    (q : ∀ D, H0 D = none → Q (.ref D) (upd H0 D (.dK (xs.map fun x => (.inr x, f x))))) : tDcX (iSeq K tl) (gName j) tYes tk tv vs σ H Q := by
  refine dc_of ?_
  refine iSeq_at ht hs fun J w D hD => ?_
  refine ⟨fun i m H1 => m = xs.length - i ∧ i ≤ xs.length ∧ H1 = upd H0 D (.dK ((xs.take i).map fun x => (.inr x, f x))), ⟨_, rfl, Nat.zero_le _, rfl⟩, fun i m H1 hW => ?_⟩
  obtain ⟨rfl, hi, rfl⟩ := hW
  have hG : SqF fb K (upd H0 D (.dK ((xs.take i).map fun x => (.inr x, f x)))) a (xs.map V.str) := (Same.upd hD).sqF hs
  have hxl : (xs.map V.str).length = xs.length := List.length_map ..
  by_cases hlt : i < xs.length
  · refine .inr ⟨w.goes i _ (by omega) hG, fun H2 => H2 = upd H0 D (.dK ((xs.take (i + 1)).map fun x => (.inr x, f x))), fun H2 e => ⟨xs.length - (i + 1), by omega, rfl, hlt, e⟩, fun x H2 y => ?_⟩
    obtain ⟨rfl, hx⟩ := w.yields i _ x H2 (by omega) hG y
    rw [List.getElem?_map, List.getElem?_eq_getElem hlt] at hx
    cases hx
    refine ⟨hw _, ?_⟩
    dsimp only [tYes]
    rw [if_pos rfl]
    refine hk _ _ _ (hv _ _ _ ⟨_, .inr xs[i], rfl, upd_same, ?_, ?_⟩)
    · rw [List.length_map, List.length_take]
      exact sz_lt (by omega)
    · rw [upd_upd, List.take_add_one, List.getElem?_eq_getElem hlt, List.map_append, putK_new]
      · rfl
      · have hno : ∀ ys : List Str, xs[i] ∉ ys → valV (ys.map fun x => ((.inr x : Key), f x)) (.inr xs[i]) = none := by
          intro ys
          induction ys with
          | nil => exact fun _ => rfl
          | cons y ys ih =>
            intro hy
            rw [List.map_cons, valV_neg (fun e => hy (by rw [← Sum.inr.inj e]; exact List.mem_cons_self))]
            exact ih fun h => hy (List.mem_cons_of_mem _ h)
        refine hno _ fun hm => ?_
        obtain ⟨k, hk1, hk2⟩ := List.mem_take_iff_getElem.mp hm
        have := nd_ix hn (List.getElem?_eq_getElem hlt) (by rw [List.getElem?_eq_getElem (show k < xs.length by omega)]; exact congrArg some hk2)
        omega
  · have e : i = xs.length := by omega
    subst e
    refine .inl ⟨?_, ?_⟩
    · have := w.stops _ hG
      rw [hxl] at this
      exact this
    · rw [List.take_length]
      exact q D hD
/-- tuple(x) of a list or a tuple -/
def rTupOf (K : PySem.W.Frag) : List V → Hp → VK → Prop := fun xs H Q => ∃ p ys, xs = [.ref p] ∧ ((SqL K H p ys ∧ ∀ l, H l = none → Q (.ref l) (upd H l (.tup ys))) ∨ (SqT K H p ys ∧ Q (.ref p) H))
theorem call_tup_of {X : Cx} : CallR X (.type "tuple") (rTupOf X.K) := call_tuple_of
/-! ### sorted of data -/
def rSortD (K : PySem.W.Frag) : List V → Hp → VK → Prop := fun vs H Q => ∃ (a : Addr) (bs : List (V × PyData)), vs = [.ref a] ∧ SqL K H a (bs.map (·.1)) ∧ (∀ b ∈ bs, Dp K H b.1 b.2) ∧ PySem.W.AllAlike (bs.map (·.2)) ∧ PySem.W.Sortable (bs.map (·.2)) ∧ (∀ b ∈ bs, b.2.depth ≤ 30) ∧
  ∀ p, H p = none → Q (.ref p) (upd H p (.lst ((bs.mergeSort (PySem.W.dataLe false (·.2))).map (·.1))))
section
variable {X : Cx}
theorem each_vals : ∀ {us : List Value} {bs : List (V × PyData)}, Vals (bs.map (·.1)) us → PySem.W.EachIs (fun u b => RelV b.1 u) us bs
  | _, [], .nil => .nil
  | _, _ :: _, .cons r t => .cons r (each_vals t)
theorem vals_each : ∀ {us : List Value} {bs : List (V × PyData)}, PySem.W.EachIs (fun u b => RelV b.1 u) us bs → Vals (bs.map (·.1)) us
  | _, _, .nil => .nil
  | _, _, .cons r t => .cons r (vals_each t)
theorem cr_sortedD (hc : X.calm = true) (hu : X.A.units + 64 < cLine) : CallR X (.builtin "sorted") (rSortD X.K) := by
  intro pins s σ H vs us Q I r h
  obtain ⟨a, bs, rfl, hs, hd, hal, hso, hdp, q⟩ := h
  obtain ⟨its, rv, hl, hz⟩ := I.list hs
  rw [Vals.ref1 r]
  have he := each_vals rv
  have hr : ∀ (us : List Value) (bs : List (V × PyData)), (∀ b ∈ bs, Dp X.K H b.1 b.2) → PySem.W.EachIs (fun u b => RelV b.1 u) us bs → PySem.W.EachIs (fun u b => ∃ as, Reads s.heap u b.2 as) us bs := by
    intro us bs hd he
    induction he with
    | nil => exact .nil
    | @cons u b us bs h1 h2 ih => exact .cons (Dp.reads I b.2 b.1 u (hd b List.mem_cons_self) h1) (ih fun b hb => hd b (List.mem_cons_of_mem _ hb))
  have hlen : bs.length = its.length := by have := rv.length; rw [List.length_map] at this; exact this
  refine PySem.W.sorted_data (enc := (·.2)) hl.isList he (hr _ _ hd he) hal hso (by rw [List.length_map] at hz; exact hz) (fun b hb => by have := hdp b hb; omega) fun out hol ho => ?_
  obtain ⟨ep, he'⟩ := PyProof.Rows.sortedAll_at s.heap its out.toArray
  have hlen2 : ((bs.mergeSort (PySem.W.dataLe false (·.2))).map (·.1)).length ≤ sizeLine := by
    rw [List.length_map, List.length_mergeSort]
    rw [List.length_map] at hz
    exact hz
  exact ⟨.ref _, upd H (s.heap.objs.size + 1) (.lst _), I.laid (t' := s.toks) (fun _ _ => PyProof.Rows.sortedAll_old) (Nat.le_succ _) ⟨hlen2, out, ep, vals_each ho, he'⟩, rfl, q _ (I.hok.fresh (Nat.le_succ _))⟩
end
end Jl

set_option Elab.async false
set_option linter.all false
set_option maxRecDepth 100000
set_option maxHeartbeats 4000000
set_option pp.maxSteps 900
namespace Jl
open PySem PySem.Spec PyProof.Rows L2
open Evl (sz_of sz_lt)
local macro_rules | `(tactic| walk_at "at") => `(tactic| first | exact box0 | exact box1 | exact box2)
local macro_rules | `(tactic| walk_at "sq") => `(tactic| first | (show SqL _ _ _ _; assumption) | (show SqT _ _ _ _; assumption) | (show _ = some _; assumption))
local macro_rules | `(tactic| walk_at "side") => `(tactic| first
  | (show (0 : Int) < _; decide)
  | (show (0 : Int) < _; omega)
  | exact ⟨by decide, by decide, by decide⟩
  | exact sz_of (Nat.le_of_ble_eq_true rfl)
  | exact rfl
  | exact Or.inl (by decide)
  | exact Or.inr (by decide)
  | exact Or.inr ⟨by omega, by omega⟩
  | exact Or.inl ⟨by omega, by omega⟩
  | exact ⟨by decide, by decide +kernel⟩)
local macro_rules | `(tactic| walk_at "ev1") => `(tactic| first
  | refine ⟨_, rfl, ?_⟩
  | refine ⟨_, _, rfl, rfl, ?_⟩
  | refine ⟨_, _, _, _, rfl, rfl, (by walk_at "sq"), (by walk_at "at"), ?_⟩
  | refine ⟨_, _, rfl, (by walk_at "sq"), ?_⟩
  | refine ⟨_, _, rfl, Or.inl (by walk_at "sq"), ?_⟩
  | refine ⟨_, _, rfl, Or.inr (by walk_at "sq"), ?_⟩
  | refine Or.inl ⟨_, rfl, ?_⟩
  | refine Or.inr ⟨_, rfl, ?_⟩
  | refine ⟨(by walk_at "side"), ?_⟩
  | refine ⟨.inl ⟨rfl, _, (by walk_at "sq")⟩, ?_⟩
  | refine ⟨_, _, rfl, ?_⟩)
local macro_rules | `(tactic| walk_at "nrm") => `(tactic| dsimp only [tNil, tCons, tC, tCB])
local macro_rules | `(tactic| walk_at "ev") => `(tactic| repeat (walk_at "ev1"))

theorem vals_app : ∀ {vs : List V} {us : List Value} {zs : List V} {ws : List Value}, Vals vs us → Vals zs ws → Vals (vs ++ zs) (us ++ ws)
  | _, _, _, _, .nil, h => h
  | _, _, _, _, .cons r t, h => .cons r (vals_app t h)
section
variable {X : Cx} {CX : CXT} {k : Nat} {f : Addr} {fd : FuncData} {ps ks : List Str} {sp : Sp} {E : XK} {x : Str} {p pos : Pos} {kws : List Keyword} {tk : TA} {g : List Value → List Value → List Value} {gV : List V → List V → List V}
def tCallK0 (sp : Sp) (gV : List V → List V → List V) (E : XK) (tk : TA) : TE := fun σ H Q => tk σ H fun zs H2 => sp (gV [] zs) H2 Q E
/-- f(k = e, ..), nothing by position -/
theorem pe_callK0 (F : FnOk X.prog X.w X.K X.mg X.base CX k f fd ps sp) (hr : Room k X.A) (hg : Gl X x) (hm : X.mg x = some (.ref f)) (hk : PySem.W.keepIn X.K (.ref f) = true) (hb : KBinds X.K fd ps ks g gV) (hx : Passes CX X E)
    (hkw : PK X kws tk) (hall : (backToKw pos (keywordEach kws X.env)).all (·.1.isSome) = true := by rfl) (hks : (backToKw pos (keywordEach kws X.env)).filterMap (·.1) = ks := by rfl)
    (hdb : (x == ("__debug__" : Str)) = false := by decide) (hpl : ((backTo pos (starEach [] X.env)).any (·.1) || (backToKw pos (keywordEach kws X.env)).any (·.1.isNone)) = false := by rfl) :
    PE X (.Call (.Name x p) [] kws pos) (tCallK0 sp gV E tk) := by
  refine ⟨fun pins s σ H Q I h => ?_⟩
  refine wpAny_Call_Name_kw (ld_glob I hg hm ?_ hdb)
  refine PySem.W.callWith_KW0 (h₀ := X.base) I.ok.mod.kin hk hall (thn (hkw.run pos pins s σ H _ I h) fun ws s2 ⟨zs, H2, I2, rz, q2⟩ => ⟨I2.kIn, ?_⟩) hpl
  rw [hks]
  exact run_fnk (us := []) (vs := []) F hr hb hx I2 .nil rz q2
end
/-! ### data of nets: shape, depth -/
theorem canAll : ∀ {ds : List PyData}, (∀ d ∈ ds, d.canLay0 = true) → PyData.canLayAll0 ds = true
  | [], _ => by simp [PyData.canLayAll0]
  | d :: ds, h => by
    rw [PyData.canLayAll0, h d List.mem_cons_self, canAll fun e he => h e (List.mem_cons_of_mem _ he)]
    rfl
theorem depAll {n : Nat} : ∀ {ds : List PyData}, (∀ d ∈ ds, d.depth ≤ n) → PyData.depthAll ds ≤ n
  | [], _ => by simp [PyData.depthAll]
  | d :: ds, h => by
    rw [PyData.depthAll]
    exact Nat.max_le.mpr ⟨h d List.mem_cons_self, depAll fun e he => h e (List.mem_cons_of_mem _ he)⟩
theorem poolW_ok : ∀ x ∈ poolW, PyData.strOk x = true := by decide +kernel
theorem poolQ_ok : ∀ x ∈ poolQ, PyData.strOk x = true := by decide +kernel
theorem GoodNet.nm_ok {s m : Nat} {h : Int} {ws : List Str} {qs : List QD} (g : GoodNet s m h ws qs) : ∀ q ∈ qs, PyData.strOk q.nm = true := fun q hq => by
  obtain ⟨l, _, _, hl, k, e⟩ := g.qn
  have : q.nm ∈ l.take k := by
    rw [← e]
    exact List.mem_map.mpr ⟨q, hq, rfl⟩
  exact poolQ_ok _ (hl _ (List.mem_of_mem_take this))
theorem can_seq {f : Bool} {ds : List PyData} (h : ∀ d ∈ ds, d.canLay0 = true) : (seqD f ds).canLay0 = true := by
  cases f with
  | true =>
    show (PyData.tuple ds).canLay0 = true
    rw [PyData.canLay0]
    exact canAll h
  | false =>
    show (PyData.list ds).canLay0 = true
    rw [PyData.canLay0]
    exact canAll h
theorem dep_seq {f : Bool} {n : Nat} {ds : List PyData} (h : ∀ d ∈ ds, d.depth ≤ n) : (seqD f ds).depth ≤ n + 1 := by
  cases f with
  | true =>
    show (PyData.tuple ds).depth ≤ n + 1
    rw [PyData.depth]
    have := depAll h
    omega
  | false =>
    show (PyData.list ds).depth ≤ n + 1
    rw [PyData.depth]
    have := depAll h
    omega
theorem mem2 {α : Type} {a b x : α} (h : x ∈ [a, b]) : x = a ∨ x = b := by simpa using h
theorem mem5 {α : Type} {a b c d e x : α} (h : x ∈ [a, b, c, d, e]) : x = a ∨ x = b ∨ x = c ∨ x = d ∨ x = e := by simpa using h
theorem net_shaped {f : Bool} {s m : Nat} {h : Int} {ws : List Str} {qs : List QD} (g : GoodNet s m h ws qs) : SeqAt.shaped (netD f ws qs) = true := by
  have c1 : ∀ x ∈ ws, (PyData.str x).canLay0 = true := fun x hx => by
    rw [PyData.canLay0]
    exact poolW_ok x (g.wp x hx)
  have h1 : (netD f ws qs).canLay0 = true := can_seq fun d hd => by
    rcases mem2 hd with rfl | rfl
    · refine can_seq fun d hd => ?_
      obtain ⟨x, hx, rfl⟩ := List.mem_map.mp hd
      exact c1 x hx
    · refine can_seq fun d hd => ?_
      obtain ⟨q, hq, rfl⟩ := List.mem_map.mp hd
      refine can_seq fun d hd => ?_
      have hw := g.qq q hq
      rcases mem5 hd with rfl | rfl | rfl | rfl | rfl
      · rw [PyData.canLay0]
        exact g.nm_ok q hq
      · exact c1 _ hw.1
      · exact c1 _ hw.2.1
      · simp [PyData.canLay0]
      · simp [PyData.canLay0]
  have h2 : (netD f ws qs).depth ≤ 3 := dep_seq (n := 2) fun d hd => by
    rcases mem2 hd with rfl | rfl
    · refine dep_seq (n := 1) fun d hd => ?_
      obtain ⟨x, hx, rfl⟩ := List.mem_map.mp hd
      simp [PyData.depth]
    · refine dep_seq (n := 1) fun d hd => ?_
      obtain ⟨q, hq, rfl⟩ := List.mem_map.mp hd
      refine dep_seq (n := 0) fun d hd => ?_
      rcases mem5 hd with rfl | rfl | rfl | rfl | rfl <;> simp [PyData.depth]
  unfold SeqAt.shaped
  rw [h1, decide_eq_true (show (netD f ws qs).depth ≤ 64 by omega)]
  rfl
theorem okD_str {n : Nat} {x : Str} : okD (n + 1) (.str x) := trivial
theorem okD_int {n : Nat} {i : Int} : okD (n + 1) (.int i) := trivial
theorem net_okD {f : Bool} {ws : List Str} {qs : List QD} (h1 : ws.length ≤ 60) (h2 : qs.length ≤ 60) : okD 4 (netD f ws qs) :=
  okD_seq.mpr ⟨by show 2 ≤ 4000000; decide, fun d hd => by
    rcases mem2 hd with rfl | rfl
    · refine okD_seq.mpr ⟨by rw [List.length_map]; omega, fun d hd => ?_⟩
      obtain ⟨x, hx, rfl⟩ := List.mem_map.mp hd
      exact okD_str
    · refine okD_seq.mpr ⟨by rw [List.length_map]; omega, fun d hd => ?_⟩
      obtain ⟨q, hq, rfl⟩ := List.mem_map.mp hd
      refine okD_seq.mpr ⟨by show 5 ≤ 4000000; decide, fun d hd => ?_⟩
      rcases mem5 hd with rfl | rfl | rfl | rfl | rfl
      · exact okD_str
      · exact okD_str
      · exact okD_str
      · exact okD_int
      · exact okD_int⟩
theorem net_lists {f : Bool} {ws : List Str} {qs : List QD} : listsD (netD f ws qs) = netD false ws qs := by
  unfold netD
  rw [listsD_seq]
  show PyData.list [listsD _, listsD _] = PyData.list [_, _]
  rw [listsD_seq, listsD_seq, List.map_map, List.map_map]
  have e1 : ws.map (listsD ∘ PyData.str) = ws.map PyData.str := List.map_congr_left fun _ _ => rfl
  have e2 : qs.map (listsD ∘ QD.d f) = qs.map (QD.d false) := List.map_congr_left fun q _ => by
    show listsD (seqD f _) = _
    rw [listsD_seq]
    rfl
  rw [e1, e2]
  rfl
/-- a new tuple of data -/
theorem dp_tup {K : PySem.W.Frag} {S : List Addr} {H : Hp} {p : Addr} {xs : List V} {ds : List PyData} (t : Trk S H) (hp : H p = none) (h : DpAll K (cutS S H) xs ds) : Dp K (cutS S (upd H p (.tup xs))) (.ref p) (.tuple ds) :=
  .tup (sqt_of (cutS_new t hp)) ((cutS_mono (.upd hp)).dpa h)
theorem dp_lst {K : PySem.W.Frag} {S : List Addr} {H : Hp} {p : Addr} {xs : List V} {ds : List PyData} (t : Trk S H) (hp : H p = none) (h : DpAll K (cutS S H) xs ds) : Dp K (cutS S (upd H p (.lst xs))) (.ref p) (.list ds) :=
  .lst (sql_of (cutS_new t hp)) ((cutS_mono (.upd hp)).dpa h)
theorem TupW.mono {H H' : Hp} {v : V} {xs : List V} (h : TupW H v xs) (e : Same H H') : TupW H' v xs := by
  obtain ⟨a0, a1, a2, ob, rfl, h0, h1, h2, h3⟩ := h
  exact ⟨a0, a1, a2, ob, rfl, e _ _ h0, e _ _ h1, h2, h3⟩
theorem mem3 {α : Type} {a b c x : α} (h : x ∈ [a, b, c]) : x = a ∨ x = b ∨ x = c := by simpa using h
theorem dpn_tup {K : PySem.W.Frag} {H : Hp} {p : Addr} {xs : List V} {ds : List PyData} (hp : H p = none) (h : DpAll K H xs ds) : Dp K (upd H p (.tup xs)) (.ref p) (.tuple ds) := .tup (sqt_of upd_same) ((Same.upd hp).dpa h)
theorem dpn_lst {K : PySem.W.Frag} {H : Hp} {p : Addr} {xs : List V} {ds : List PyData} (hp : H p = none) (h : DpAll K H xs ds) : Dp K (upd H p (.lst xs)) (.ref p) (.list ds) := .lst (sql_of upd_same) ((Same.upd hp).dpa h)
theorem dpn_row {K : PySem.W.Frag} {H : Hp} {p : Addr} {a b c : Str} {r g : Int} (hp : H p = none) : Dp K (upd H p (.tup [.str a, .str b, .str c, .int r, .int g])) (.ref p) (QD.d true ⟨a, b, c, r, g⟩) :=
  dpn_tup hp (.cons (.str _) (.cons (.str _) (.cons (.str _) (.cons (.int _) (.cons (.int _) .nil)))))
section
variable {K : PySem.W.Frag}
/-- a net as it is read: a list or a tuple, its rows -/
structure NetAt (K : PySem.W.Frag) (H : Hp) (fb : Bool) (a0 a1 a2 : Addr) (ws : List Str) (qs : List QD) (xq : List V) : Prop where
  h0 : SqF fb K H a0 [.ref a1, .ref a2]
  h1 : SqF fb K H a1 (ws.map V.str)
  h2 : SqF fb K H a2 xq
  hq : ∀ (i : Nat) (v : V), xq[i]? = some v → ∃ (q : QD) (a : Addr), qs[i]? = some q ∧ v = .ref a ∧ SqF fb K H a [.str q.nm, .str q.st, .str q.en, .int q.room, .int q.gap]
  ll : xq.length = qs.length
theorem NetAt.same {H H' : Hp} {fb : Bool} {a0 a1 a2 : Addr} {ws : List Str} {qs : List QD} {xq : List V} (n : NetAt K H fb a0 a1 a2 ws qs xq) (e : Same H H') : NetAt K H' fb a0 a1 a2 ws qs xq :=
  ⟨e.sqF n.h0, e.sqF n.h1, e.sqF n.h2, fun i v h => by
    obtain ⟨q, a, g1, g2, g3⟩ := n.hq i v h
    exact ⟨q, a, g1, g2, e.sqF g3⟩, n.ll⟩
theorem netAt {H : Hp} {fb : Bool} {v : V} {ws : List Str} {qs : List QD} (h : Dp K H v (netD fb ws qs)) : ∃ a0 a1 a2 xq, v = .ref a0 ∧ NetAt K H fb a0 a1 a2 ws qs xq := by
  obtain ⟨a0, x0, rfl, h0, hx⟩ := Dp.seq_of h
  cases hx with
  | cons d1 hx =>
    cases hx with
    | cons d2 hx =>
      cases hx
      obtain ⟨a1, x1, rfl, h1, hx1⟩ := Dp.seq_of d1
      obtain ⟨a2, x2, rfl, h2, hx2⟩ := Dp.seq_of d2
      rw [dpa_strs_of hx1] at h1
      refine ⟨a0, a1, a2, x2, rfl, h0, h1, h2, fun i v hv => ?_, by rw [dpa_len hx2, List.length_map]⟩
      obtain ⟨d, hd, hvd⟩ := dpa_get hx2 hv
      rw [List.getElem?_map] at hd
      cases e : qs[i]? with
      | none =>
        rw [e] at hd
        cases hd
      | some q =>
        rw [e] at hd
        cases hd
        obtain ⟨a, x, rfl, g1, g2⟩ := Dp.seq_of hvd
        cases g2 with
        | cons c1 g2 =>
          cases g2 with
          | cons c2 g2 =>
            cases g2 with
            | cons c3 g2 =>
              cases g2 with
              | cons c4 g2 =>
                cases g2 with
                | cons c5 g2 =>
                  cases g2
                  cases c1
                  cases c2
                  cases c3
                  cases c4
                  cases c5
                  exact ⟨q, a, rfl, rfl, g1⟩
end
end Jl

set_option Elab.async false
set_option linter.all false
set_option maxRecDepth 100000
set_option maxHeartbeats 1000000
namespace Jl
open PySem PySem.Spec PyProof.Rows L2
open Evl (sz_of sz_lt)
/-! ### rows that are grown, queue by queue -/
abbrev Mk := Nat × Bool
structure Gs where
  row : List Mk
  met : List Str
def tch (qs : List QD) (w : Str) (i : Nat) : Option Mk := match qs[i]? with
  | none => none
  | some q => if q.st = w then some (i, true) else if q.en = w then some (i, false) else none
def touchN (qs : List QD) (w : Str) (k : Nat) : List Mk := (List.range k).filterMap (tch qs w)
def far (qs : List QD) (m : Mk) : Str := match qs[m.1]? with
  | none => default
  | some q => if m.2 = true then q.en else q.st
def gtS (a b : Str) : Bool := decide (b.cps.toList < a.cps.toList)
def hdG (a : Gs) : Str := a.met.headD default
def lsG (a : Gs) : Str := a.met.getLastD default
abbrev Ps := List (List Mk) × List Gs
def one (qs : List QD) (a : Gs) (p : Ps) (m : Mk) : Ps :=
  if far qs m = hdG a then (if a.row ≠ [] ∧ m.1 ∉ a.row.map (·.1) then (p.1 ++ [a.row ++ [m]], p.2) else p)
  else if gtS (far qs m) (hdG a) = true ∧ far qs m ∉ a.met then (p.1, p.2 ++ [⟨a.row ++ [m], a.met ++ [far qs m]⟩]) else p
def stp (qs : List QD) (f : List (List Mk)) (o : List Gs) (a : Gs) : Ps := (touchN qs (lsG a) qs.length).foldl (one qs a) (f, o)
inductive Rn (qs : List QD) : Ps → List (List Mk) → Prop
  | done (f : List (List Mk)) : Rn qs (f, []) f
  | next (f : List (List Mk)) (o : List Gs) (a : Gs) (g : List (List Mk)) (h : Rn qs (stp qs f o a) g) : Rn qs (f, o ++ [a]) g
theorem Rn.inv0 {qs : List QD} {p : Ps} {g : List (List Mk)} (h : Rn qs p g) (e : p.2 = []) : g = p.1 := by
  cases h with
  | done f => rfl
  | next f o a g h =>
    have e : o ++ [a] = [] := e
    simp at e
theorem Rn.inv1 {qs : List QD} {p : Ps} {g : List (List Mk)} (h : Rn qs p g) {f : List (List Mk)} {o : List Gs} {a : Gs} (e : p = (f, o ++ [a])) : Rn qs (stp qs f o a) g := by
  cases h with
  | done f' =>
    have e2 : ([] : List Gs) = o ++ [a] := congrArg (·.2) e
    simp at e2
  | next f' o' a' g h =>
    have e1 : f' = f := congrArg (·.1) e
    have e2 : o' ++ [a'] = o ++ [a] := congrArg (·.2) e
    obtain ⟨e3, e4⟩ := List.append_inj' e2 rfl
    cases e4
    subst e1 e3
    exact h
theorem Rn.det {qs : List QD} {p : Ps} {g : List (List Mk)} (h : Rn qs p g) : ∀ {g' : List (List Mk)}, Rn qs p g' → g = g' := by
  induction h with
  | done f => exact fun h' => (h'.inv0 rfl).symm
  | next f o a g _ ih => exact fun h' => ih (h'.inv1 rfl)
/-- how a step lies -/
def link (qs : List QD) (m : Mk) (x y : Str) : Prop := ∃ q, qs[m.1]? = some q ∧ ((m.2 = true ∧ q.st = x ∧ q.en = y) ∨ (m.2 = false ∧ q.en = x ∧ q.st = y))
structure NetG (ws : List Str) (qs : List QD) : Prop where
  q1 : ∀ q ∈ qs, q.st ∈ ws ∧ q.en ∈ ws ∧ q.st ≠ q.en
  nn : (qs.map QD.nm).Nodup
theorem touch_link {qs : List QD} {w : Str} {k : Nat} {m : Mk} (h : m ∈ touchN qs w k) : link qs m w (far qs m) := by
  obtain ⟨i, _, hi⟩ := List.mem_filterMap.mp h
  unfold tch at hi
  cases hq : qs[i]? with
  | none =>
    rw [hq] at hi
    cases hi
  | some q =>
    rw [hq] at hi
    dsimp only at hi
    by_cases h1 : q.st = w
    · rw [if_pos h1] at hi
      cases hi
      refine ⟨q, hq, .inl ⟨rfl, h1, ?_⟩⟩
      unfold far
      rw [hq]
      rfl
    · rw [if_neg h1] at hi
      by_cases h2 : q.en = w
      · rw [if_pos h2] at hi
        cases hi
        refine ⟨q, hq, .inr ⟨rfl, h2, ?_⟩⟩
        unfold far
        rw [hq]
        rfl
      · rw [if_neg h2] at hi
        cases hi
theorem touch_len {qs : List QD} {w : Str} {k : Nat} : (touchN qs w k).length ≤ k := Nat.le_trans (List.length_filterMap_le _ _) (by rw [List.length_range]; exact Nat.le_refl _)
structure Inv (ws : List Str) (qs : List QD) (a : Gs) : Prop where
  ll : a.met.length = a.row.length + 1
  nd : a.met.Nodup
  sub : ∀ x ∈ a.met, x ∈ ws
  lk : ∀ (k : Nat) (m : Mk) (x y : Str), a.row[k]? = some m → a.met[k]? = some x → a.met[k + 1]? = some y → link qs m x y
theorem link_lt {qs : List QD} {m : Mk} {x y : Str} (h : link qs m x y) : m.1 < qs.length := by
  obtain ⟨q, hq, _⟩ := h
  exact (List.getElem?_eq_some_iff.mp hq).1
theorem far_mem {ws : List Str} {qs : List QD} {m : Mk} {x y : Str} (g : NetG ws qs) (h : link qs m x y) : y ∈ ws ∧ x ≠ y := by
  obtain ⟨q, hq, h⟩ := h
  obtain ⟨g1, g2, g3⟩ := g.q1 q (List.mem_of_getElem? hq)
  rcases h with ⟨_, h1, h2⟩ | ⟨_, h1, h2⟩
  · exact ⟨by rw [← h2]; exact g2, by rw [← h1, ← h2]; exact g3⟩
  · exact ⟨by rw [← h2]; exact g1, by rw [← h1, ← h2]; exact g3.symm⟩
theorem met_hd {a : Gs} (h : a.met.length = a.row.length + 1) : a.met[0]? = some (hdG a) := by
  unfold hdG
  cases hm : a.met with
  | nil =>
    rw [hm] at h
    cases h
  | cons x l => rfl
theorem met_ls {a : Gs} (h : a.met.length = a.row.length + 1) : a.met[a.row.length]? = some (lsG a) := by
  unfold lsG
  have hne : a.met ≠ [] := fun z => by
    rw [z] at h
    cases h
  rw [List.getLastD_eq_getLast?, List.getLast?_eq_getElem?]
  have : a.met.length - 1 = a.row.length := by omega
  rw [this]
  have h2 : a.row.length < a.met.length := by omega
  rw [List.getElem?_eq_getElem h2]
  rfl
theorem nodup_ix {l : List Str} (h : l.Nodup) {i j : Nat} {x : Str} (h1 : l[i]? = some x) (h2 : l[j]? = some x) : i = j := nd_ix h h1 h2
theorem row_ne {ws : List Str} {qs : List QD} {a : Gs} {m : Mk} {k : Nat} (g : NetG ws qs) (I : Inv ws qs a) (hm : m ∈ touchN qs (lsG a) k) (e : far qs m = hdG a) : a.row ≠ [] := fun z => by
  have hl := touch_link hm
  have h0 := met_hd I.ll
  have h1 := met_ls I.ll
  rw [z] at h1
  have : hdG a = lsG a := Option.some.inj (h0.symm.trans h1)
  rw [e, this] at hl
  exact (far_mem g hl).2 rfl
/-- back over a queue of the row: only the first one can be -/
theorem row_first {ws : List Str} {qs : List QD} {a : Gs} {m m0 : Mk} {k : Nat} (g : NetG ws qs) (I : Inv ws qs a) (hm : m ∈ touchN qs (lsG a) k) (e : far qs m = hdG a) (h0 : a.row[0]? = some m0) : m.1 ∉ a.row.map (·.1) ↔ m.1 ≠ m0.1 := by
  constructor
  · intro h z
    exact h (List.mem_map.mpr ⟨m0, List.mem_of_getElem? h0, z.symm⟩)
  · intro h z
    obtain ⟨mk, hk, ek⟩ := List.mem_map.mp z
    obtain ⟨j, hj, rfl⟩ := List.getElem_of_mem hk
    have hj1 : j + 1 < a.met.length := by have := I.ll; omega
    have hl := touch_link hm
    rw [e] at hl
    have hlk := I.lk j a.row[j] a.met[j] a.met[j + 1] (List.getElem?_eq_getElem hj) (List.getElem?_eq_getElem (by omega)) (List.getElem?_eq_getElem hj1)
    have m0' := met_hd I.ll
    have m1' := met_ls I.ll
    obtain ⟨q, hq, hq2⟩ := hl
    obtain ⟨q', hq', hq2'⟩ := hlk
    have ek : a.row[j].1 = m.1 := ek
    rw [ek, hq] at hq'
    cases hq'
    have both : (a.met[j] = lsG a ∧ a.met[j + 1] = hdG a) ∨ (a.met[j] = hdG a ∧ a.met[j + 1] = lsG a) := by
      rcases hq2 with ⟨_, h1, h2⟩ | ⟨_, h1, h2⟩ <;> rcases hq2' with ⟨_, h3, h4⟩ | ⟨_, h3, h4⟩
      · exact .inl ⟨h3.symm.trans h1, h4.symm.trans h2⟩
      · exact .inr ⟨h3.symm.trans h2, h4.symm.trans h1⟩
      · exact .inr ⟨h3.symm.trans h2, h4.symm.trans h1⟩
      · exact .inl ⟨h3.symm.trans h1, h4.symm.trans h2⟩
    rcases both with ⟨_, h2⟩ | ⟨h1, _⟩
    · have := nodup_ix I.nd (i := j + 1) (j := 0) (by rw [List.getElem?_eq_getElem hj1, h2]) m0'
      omega
    · have hj0 := nodup_ix I.nd (i := j) (j := 0) (by rw [List.getElem?_eq_getElem (by omega), h1]) m0'
      subst hj0
      rw [List.getElem?_eq_getElem hj] at h0
      cases h0
      exact h ek.symm
theorem inv_push {ws : List Str} {qs : List QD} {a : Gs} {m : Mk} {k : Nat} (g : NetG ws qs) (I : Inv ws qs a) (hm : m ∈ touchN qs (lsG a) k) (hn : far qs m ∉ a.met) : Inv ws qs ⟨a.row ++ [m], a.met ++ [far qs m]⟩ := by
  have hl := touch_link hm
  refine ⟨?_, ?_, ?_, ?_⟩
  · have := I.ll
    simp only [List.length_append, List.length_cons, List.length_nil]
    omega
  · refine List.nodup_append.mpr ⟨I.nd, by simp, fun x hx y hy => ?_⟩
    rw [List.mem_singleton.mp hy]
    exact fun z => hn (by rw [← z]; exact hx)
  · intro x hx
    rcases List.mem_append.mp hx with hx | hx
    · exact I.sub x hx
    · rw [List.mem_singleton.mp hx]
      exact (far_mem g hl).1
  · intro j m' x y h1 h2 h3
    have ll := I.ll
    dsimp only at h1 h2 h3
    by_cases hj : j < a.row.length
    · rw [List.getElem?_append_left hj] at h1
      rw [List.getElem?_append_left (by omega)] at h2 h3
      exact I.lk j m' x y h1 h2 h3
    · have hj1 := (List.getElem?_eq_some_iff.mp h1).1
      rw [List.length_append, List.length_singleton] at hj1
      have e : j = a.row.length := by omega
      subst e
      rw [List.getElem?_append_right (Nat.le_refl _), Nat.sub_self] at h1
      cases h1
      rw [List.getElem?_append_left (by omega), met_ls ll] at h2
      cases h2
      rw [List.getElem?_append_right (by omega)] at h3
      have e2 : a.row.length + 1 - a.met.length = 0 := by omega
      rw [e2] at h3
      cases h3
      exact hl
theorem inv_len {ws : List Str} {qs : List QD} {a : Gs} (I : Inv ws qs a) : a.met.length ≤ ws.length := List.Nodup.length_le_of_subset I.nd (fun x hx => I.sub x hx)
/-! ### what all that is open can come to -/
/-- one more than the most queues at an end of a queue -/
def dgr (qs : List QD) : Nat := qs.foldl (fun m q => max m (max (touchN qs q.st qs.length).length (touchN qs q.en qs.length).length)) 0 + 1
theorem fold_max {α : Type} {f : α → Nat} : ∀ {l : List α} {m : Nat}, m ≤ l.foldl (fun m q => max m (f q)) m ∧ ∀ q ∈ l, f q ≤ l.foldl (fun m q => max m (f q)) m
  | [], m => ⟨Nat.le_refl _, fun _ h => absurd h List.not_mem_nil⟩
  | x :: l, m => by
    obtain ⟨h1, h2⟩ := fold_max (f := f) (l := l) (m := max m (f x))
    rw [List.foldl_cons]
    refine ⟨by omega, fun q hq => ?_⟩
    rcases List.mem_cons.mp hq with rfl | hq
    · omega
    · exact h2 q hq
theorem fold_le {α : Type} {f : α → Nat} {k : Nat} : ∀ {l : List α} {m : Nat}, m ≤ k → (∀ q ∈ l, f q ≤ k) → l.foldl (fun m q => max m (f q)) m ≤ k
  | [], _, h, _ => h
  | x :: l, m, h, g => by
    rw [List.foldl_cons]
    exact fold_le (Nat.max_le.mpr ⟨h, g x List.mem_cons_self⟩) fun q hq => g q (List.mem_cons_of_mem _ hq)
theorem touch_dgr {qs : List QD} {w : Str} : (touchN qs w qs.length).length + 1 ≤ dgr qs := by
  unfold dgr
  obtain ⟨_, h⟩ := fold_max (f := fun q : QD => max (touchN qs q.st qs.length).length (touchN qs q.en qs.length).length) (l := qs) (m := 0)
  cases ht : touchN qs w qs.length with
  | nil => simp
  | cons m ms =>
    have hm : m ∈ touchN qs w qs.length := by rw [ht]; exact List.mem_cons_self
    obtain ⟨q, hq, hl⟩ := touch_link hm
    have hq2 := h q (List.mem_of_getElem? hq)
    try dsimp only at hq2
    have : (touchN qs w qs.length).length ≤ max (touchN qs q.st qs.length).length (touchN qs q.en qs.length).length := by
      rcases hl with ⟨_, e, _⟩ | ⟨_, e, _⟩ <;> rw [e] <;> omega
    rw [ht] at this
    omega
theorem dgr_le {qs : List QD} : dgr qs ≤ qs.length + 1 := by
  unfold dgr
  exact Nat.succ_le_succ (fold_le (Nat.zero_le _) fun q _ => Nat.max_le.mpr ⟨touch_len, touch_len⟩)
theorem dgr_pos {qs : List QD} : 1 ≤ dgr qs := Nat.succ_le_succ (Nat.zero_le _)
def wtG (c n : Nat) (a : Gs) : Nat := c ^ (n + 1 - a.met.length)
def Phi (c n : Nat) (p : Ps) : Nat := p.1.length + (p.2.map (wtG c n)).sum
structure InvP (ws : List Str) (qs : List QD) (p : Ps) : Prop where
  op : ∀ a ∈ p.2, Inv ws qs a
  fd : ∀ r ∈ p.1, r ≠ [] ∧ r.length ≤ ws.length ∧ ∀ m ∈ r, m.1 < qs.length
theorem row_lt {ws : List Str} {qs : List QD} {a : Gs} (I : Inv ws qs a) : ∀ m ∈ a.row, m.1 < qs.length := fun m hm => by
  obtain ⟨j, hj, rfl⟩ := List.getElem_of_mem hm
  have := I.ll
  exact link_lt (I.lk j a.row[j] _ _ (List.getElem?_eq_getElem hj) (List.getElem?_eq_getElem (by omega)) (List.getElem?_eq_getElem (by omega)))
theorem one_ok {ws : List Str} {qs : List QD} {a : Gs} {m : Mk} {k : Nat} {p : Ps} (g : NetG ws qs) (I : Inv ws qs a) (hm : m ∈ touchN qs (lsG a) k) (hp : InvP ws qs p) : InvP ws qs (one qs a p m) ∧ Phi (dgr qs) ws.length (one qs a p m) ≤ Phi (dgr qs) ws.length p + dgr qs ^ (ws.length - a.met.length) := by
  have pos : 1 ≤ dgr qs ^ (ws.length - a.met.length) := Nat.one_le_pow _ _ dgr_pos
  unfold one
  by_cases h1 : far qs m = hdG a
  · rw [if_pos h1]
    by_cases h2 : a.row ≠ [] ∧ m.1 ∉ a.row.map (·.1)
    · rw [if_pos h2]
      refine ⟨⟨hp.op, fun r hr => ?_⟩, ?_⟩
      · rcases List.mem_append.mp hr with hr | hr
        · exact hp.fd r hr
        · rw [List.mem_singleton.mp hr]
          have := inv_len I
          have := I.ll
          refine ⟨by simp, by rw [List.length_append, List.length_singleton]; omega, fun x hx => ?_⟩
          rcases List.mem_append.mp hx with hx | hx
          · exact row_lt I x hx
          · rw [List.mem_singleton.mp hx]
            exact link_lt (touch_link hm)
      · unfold Phi
        simp only [List.length_append, List.length_singleton]
        omega
    · rw [if_neg h2]
      exact ⟨hp, Nat.le_add_right _ _⟩
  · rw [if_neg h1]
    by_cases h2 : gtS (far qs m) (hdG a) = true ∧ far qs m ∉ a.met
    · rw [if_pos h2]
      have I2 := inv_push g I hm h2.2
      refine ⟨⟨fun b hb => ?_, hp.fd⟩, ?_⟩
      · rcases List.mem_append.mp hb with hb | hb
        · exact hp.op b hb
        · rw [List.mem_singleton.mp hb]
          exact I2
      · unfold Phi
        have hl2 := inv_len I2
        rw [List.length_append, List.length_singleton] at hl2
        have e : wtG (dgr qs) ws.length ⟨a.row ++ [m], a.met ++ [far qs m]⟩ = dgr qs ^ (ws.length - a.met.length) := by
          unfold wtG
          rw [List.length_append, List.length_singleton]
          congr 1
          omega
        simp only [List.map_append, List.sum_append, List.map_cons, List.map_nil, List.sum_cons, List.sum_nil, e]
        omega
    · rw [if_neg h2]
      exact ⟨hp, Nat.le_add_right _ _⟩
theorem fold_ok {ws : List Str} {qs : List QD} {a : Gs} {k : Nat} (g : NetG ws qs) (I : Inv ws qs a) : ∀ (ms : List Mk) (p : Ps), (∀ m ∈ ms, m ∈ touchN qs (lsG a) k) → InvP ws qs p → InvP ws qs (ms.foldl (one qs a) p) ∧ Phi (dgr qs) ws.length (ms.foldl (one qs a) p) ≤ Phi (dgr qs) ws.length p + ms.length * dgr qs ^ (ws.length - a.met.length)
  | [], p, _, hp => ⟨hp, Nat.le_add_right _ _⟩
  | m :: ms, p, hm, hp => by
    obtain ⟨h1, h2⟩ := one_ok g I (hm m List.mem_cons_self) hp
    obtain ⟨h3, h4⟩ := fold_ok g I ms (one qs a p m) (fun x hx => hm x (List.mem_cons_of_mem _ hx)) h1
    refine ⟨h3, ?_⟩
    rw [List.foldl_cons, List.length_cons, Nat.add_mul, Nat.one_mul]
    omega
theorem stp_ok {ws : List Str} {qs : List QD} {f : List (List Mk)} {o : List Gs} {a : Gs} (g : NetG ws qs) (hp : InvP ws qs (f, o ++ [a])) : InvP ws qs (stp qs f o a) ∧ Phi (dgr qs) ws.length (stp qs f o a) < Phi (dgr qs) ws.length (f, o ++ [a]) := by
  have I := hp.op a (List.mem_append_right _ List.mem_cons_self)
  have hp2 : InvP ws qs (f, o) := ⟨fun b hb => hp.op b (List.mem_append_left _ hb), hp.fd⟩
  obtain ⟨h1, h2⟩ := fold_ok (k := qs.length) g I (touchN qs (lsG a) qs.length) (f, o) (fun m hm => hm) hp2
  refine ⟨h1, ?_⟩
  have hl := inv_len I
  have e : wtG (dgr qs) ws.length a = dgr qs * dgr qs ^ (ws.length - a.met.length) := by
    unfold wtG
    have : ws.length + 1 - a.met.length = (ws.length - a.met.length) + 1 := by omega
    rw [this, Nat.pow_succ, Nat.mul_comm]
  have e2 : Phi (dgr qs) ws.length (f, o ++ [a]) = Phi (dgr qs) ws.length (f, o) + dgr qs * dgr qs ^ (ws.length - a.met.length) := by
    unfold Phi
    simp only [List.map_append, List.sum_append, List.map_cons, List.map_nil, List.sum_cons, List.sum_nil, e]
    omega
  have pos : 1 ≤ dgr qs ^ (ws.length - a.met.length) := Nat.one_le_pow _ _ dgr_pos
  have l9 : (touchN qs (lsG a) qs.length).length * dgr qs ^ (ws.length - a.met.length) + dgr qs ^ (ws.length - a.met.length) ≤ dgr qs * dgr qs ^ (ws.length - a.met.length) := by
    rw [← Nat.succ_mul]
    exact Nat.mul_le_mul_right _ touch_dgr
  rw [e2]
  have h2 : Phi (dgr qs) ws.length (stp qs f o a) ≤ Phi (dgr qs) ws.length (f, o) + (touchN qs (lsG a) qs.length).length * dgr qs ^ (ws.length - a.met.length) := h2
  omega
theorem take_phi {ws : List Str} {qs : List QD} {f : List (List Mk)} {o : List Gs} {a : Gs} (k : Nat) (g : NetG ws qs) (hp : InvP ws qs (f, o ++ [a])) : Phi (dgr qs) ws.length (((touchN qs (lsG a) qs.length).take k).foldl (one qs a) (f, o)) ≤ Phi (dgr qs) ws.length (f, o ++ [a]) := by
  have I := hp.op a (List.mem_append_right _ List.mem_cons_self)
  have hp2 : InvP ws qs (f, o) := ⟨fun b hb => hp.op b (List.mem_append_left _ hb), hp.fd⟩
  obtain ⟨h1, h2⟩ := fold_ok (k := qs.length) g I ((touchN qs (lsG a) qs.length).take k) (f, o) (fun m hm => List.mem_of_mem_take hm) hp2
  have hl := inv_len I
  have e : wtG (dgr qs) ws.length a = dgr qs * dgr qs ^ (ws.length - a.met.length) := by
    unfold wtG
    have : ws.length + 1 - a.met.length = (ws.length - a.met.length) + 1 := by omega
    rw [this, Nat.pow_succ, Nat.mul_comm]
  have e2 : Phi (dgr qs) ws.length (f, o ++ [a]) = Phi (dgr qs) ws.length (f, o) + dgr qs * dgr qs ^ (ws.length - a.met.length) := by
    unfold Phi
    simp only [List.map_append, List.sum_append, List.map_cons, List.map_nil, List.sum_cons, List.sum_nil, e]
    omega
  have l9 : ((touchN qs (lsG a) qs.length).take k).length * dgr qs ^ (ws.length - a.met.length) ≤ dgr qs * dgr qs ^ (ws.length - a.met.length) := Nat.mul_le_mul_right _ (by
    have := touch_dgr (qs := qs) (w := lsG a)
    rw [List.length_take]
    omega)
  rw [e2]
  omega
theorem len_phi {c : Nat} (hc : 1 ≤ c) (n : Nat) (p : Ps) : p.1.length ≤ Phi c n p ∧ p.2.length ≤ Phi c n p := by
  have h : ∀ l : List Gs, l.length ≤ (l.map (wtG c n)).sum := fun l => by
    induction l with
    | nil => exact Nat.zero_le _
    | cons a l ih =>
      rw [List.length_cons, List.map_cons, List.sum_cons]
      have : 1 ≤ wtG c n a := Nat.one_le_pow _ _ hc
      omega
  have := h p.2
  unfold Phi
  omega
def startP (ws : List Str) : Ps := ([], ws.map fun w => ⟨[], [w]⟩)
theorem start_ok {ws : List Str} {qs : List QD} : InvP ws qs (startP ws) := by
  refine ⟨fun a ha => ?_, fun r hr => absurd hr List.not_mem_nil⟩
  obtain ⟨w, hw, rfl⟩ := List.mem_map.mp ha
  refine ⟨rfl, by simp, fun x hx => ?_, fun k m x y h => ?_⟩
  · rw [List.mem_singleton.mp hx]
    exact hw
  · cases h
/-- few enough workers and queues at a worker -/
def Small (ws : List Str) (qs : List QD) : Prop := ws.length * dgr qs ^ ws.length ≤ 3200000
theorem start_phi {ws : List Str} {qs : List QD} (h : Small ws qs) : Phi (dgr qs) ws.length (startP ws) ≤ 3200000 := by
  have e : Phi (dgr qs) ws.length (startP ws) = ws.length * dgr qs ^ ws.length := by
    unfold Phi startP
    rw [List.length_nil, Nat.zero_add, List.map_map]
    have : ((wtG (dgr qs) ws.length) ∘ fun w : Str => (⟨[], [w]⟩ : Gs)) = fun _ => dgr qs ^ ws.length := by
      funext w
      show dgr qs ^ (ws.length + 1 - 1) = _
      rw [Nat.add_sub_cancel]
    rw [this]
    generalize dgr qs ^ ws.length = c
    clear h this
    induction ws with
    | nil => simp
    | cons w ws ih =>
      rw [List.map_cons, List.sum_cons, List.length_cons, Nat.add_mul, Nat.one_mul, ih]
      omega
  rw [e]
  exact h
theorem small_68 {ws : List Str} {qs : List QD} (h6 : ws.length ≤ 6) (h8 : qs.length ≤ 8) : Small ws qs := by
  have h1 : dgr qs ≤ 9 := Nat.le_trans dgr_le (by omega)
  have h2 : dgr qs ^ ws.length ≤ 9 ^ ws.length := Nat.pow_le_pow_left h1 _
  have h3 : 9 ^ ws.length ≤ 9 ^ 6 := Nat.pow_le_pow_right (by decide) h6
  unfold Small
  calc ws.length * dgr qs ^ ws.length ≤ 6 * 9 ^ 6 := Nat.mul_le_mul h6 (Nat.le_trans h2 h3)
    _ ≤ 3200000 := by decide
theorem Rn.total {ws : List Str} {qs : List QD} (g : NetG ws qs) : ∀ (N : Nat) (p : Ps), Phi (dgr qs) ws.length p < N → InvP ws qs p → ∃ r, Rn qs p r
  | 0, _, h, _ => absurd h (Nat.not_lt_zero _)
  | N + 1, (f, o), h, hp => by
    rcases List.eq_nil_or_concat o with e | ⟨o', a, e⟩
    · rw [e]
      exact ⟨f, .done f⟩
    · rw [List.concat_eq_append] at e
      rw [e] at h hp ⊢
      obtain ⟨h1, h2⟩ := stp_ok g hp
      obtain ⟨r, hr⟩ := Rn.total g N (stp qs f o' a) (by omega) h1
      exact ⟨r, .next f o' a r hr⟩
theorem Rn.rows {ws : List Str} {qs : List QD} (g : NetG ws qs) {p : Ps} {r : List (List Mk)} (h : Rn qs p r) : InvP ws qs p → InvP ws qs (r, []) ∧ r.length ≤ Phi (dgr qs) ws.length p := by
  induction h with
  | done f => exact fun hp => ⟨hp, by unfold Phi; simp⟩
  | next f o a r _ ih =>
    intro hp
    obtain ⟨h1, h2⟩ := stp_ok g hp
    obtain ⟨h3, h4⟩ := ih h1
    exact ⟨h3, by omega⟩
end Jl

set_option Elab.async false
set_option linter.all false
set_option maxRecDepth 100000
set_option maxHeartbeats 1000000
namespace Jl
open PySem PySem.Spec PyProof.Rows L2
open Evl (sz_of sz_lt)
section
variable {X : Cx}
/-! ### a, b = a list or a tuple -/
theorem pg_or {tg : Expr} {w1 w2 : TG} (h1 : PG X tg w1) (h2 : PG X tg w2) : PG X tg (fun v σ H Q => w1 v σ H Q ∨ w2 v σ H Q) := ⟨fun pins s σ H v u Q I r h => by
  rcases h with h | h
  · exact h1.run pins s σ H v u Q I r h
  · exact h2.run pins s σ H v u Q I r h⟩
def gSeq (K : PySem.W.Frag) (n : Nat) (t : TGs) : TG := fun v σ H Q => gTup K n t v σ H Q ∨ gLst K n t v σ H Q
theorem gSeq_at {K : PySem.W.Frag} {n : Nat} {t : TGs} {σ : L2.St} {H : Hp} {Q : L2.St → Hp → Prop} {a : Addr} {f : Bool} {xs : List V} (h : SqF f K H a xs) (hl : xs.length = n) (q : t xs σ H Q) : gSeq K n t (.ref a) σ H Q := by
  cases f with
  | true => exact .inl ⟨a, xs, rfl, h, hl, q⟩
  | false => exact .inr ⟨a, xs, rfl, h, hl, q⟩
theorem pg_seq {es : List Expr} {k n : Nat} {t : TGs} {pos : Pos} (h1 : PG X (.Tuple es k pos) (gTup X.K n t)) (h2 : PG X (.Tuple es k pos) (gLst X.K n t)) : PG X (.Tuple es k pos) (gSeq X.K n t) := pg_or h1 h2
/-! ### min(xs, default=None) of whole numbers -/
def rMinN (K : PySem.W.Frag) : List V → List V → Hp → VK → Prop := fun vs zs H Q => ∃ (a : Addr) (ns : List Int), vs = [V.ref a] ∧ zs = [V.non] ∧ SqL K H a (ns.map V.int) ∧ (ns = [] → Q .non H) ∧ ∀ n ms, ns = n :: ms → Q (.int (ms.foldl min n)) H
theorem reads_ints {h : Heap} : ∀ {ns : List Int} {us : List Value}, Vals (ns.map V.int) us → ∃ as, ReadsAll h us (ns.map PyData.int) as
  | [], _, .nil => ⟨[], .nil⟩
  | n :: ns, _, .cons r t => by
    obtain ⟨k, rfl⟩ := r
    obtain ⟨as, ha⟩ := reads_ints (ns := ns) t
    exact ⟨_, .cons (.int n k) ha⟩
theorem ck_minN (hc : X.calm = true) (hu : X.A.units + 64 < cLine) : CallRK X (.builtin "min") [Str.ofString "default"] (rMinN X.K) := by
  intro pins s σ H vs zs us ws Q I r rz h
  obtain ⟨a, ns, rfl, rfl, hs, q0, q⟩ := h
  obtain rfl := Vals.ref1 r
  obtain ⟨w1, rfl, e1⟩ := vals1 rz
  obtain rfl : w1 = Value.none := e1
  obtain ⟨its, rv, hl, hz⟩ := I.list hs
  obtain ⟨as, hr⟩ := reads_ints (h := s.heap) rv
  have hd0 : ∀ l : List Int, PyData.depthAll (l.map PyData.int) = 0 := fun l => by
    induction l with
    | nil => simp [PyData.depthAll]
    | cons x l ih => simp [PyData.depthAll, PyData.depth, ih]
  show wpAny _ _ (call (.builtin "min") [.ref a] [(Str.ofString "default", Value.none)]) _ _ _
  refine PySem.W.min_list_default (vs := its.toArray) (I.ok.hd hc) hl.isList (by simpa using hr) ⟨fun x hx y hy => ?_, fun x hx => ?_⟩ (by rw [hd0]; omega) (fun e h' tk hk => ?_) (fun y ys i v h' tk bs e hv hrd hk => ?_)
  · obtain ⟨i, _, rfl⟩ := List.mem_map.mp hx
    obtain ⟨j, _, rfl⟩ := List.mem_map.mp hy
    simp [PySem.W.alike]
  · obtain ⟨i, _, rfl⟩ := List.mem_map.mp hx
    simp
  · have e0 : ns = [] := List.map_eq_nil_iff.mp e
    exact ⟨.non, H, I.kept (t' := tk) hk, rfl, q0 e0⟩
  · cases ns with
    | nil => cases e
    | cons n ms =>
      cases e
      rw [PySem.W.minD_ints] at hrd
      cases hrd with
      | int i t => exact ⟨.int _, H, I.kept (t' := tk) hk, ⟨t, rfl⟩, q n ms rfl⟩
end
end Jl

set_option Elab.async false
set_option linter.all false
set_option maxRecDepth 100000
set_option maxHeartbeats 1000000
set_option pp.maxSteps 300
namespace Jl
open PySem PySem.Spec PyProof.Rows L2
open Evl (sz_of sz_lt)
local macro_rules | `(tactic| walk_at "at") => `(tactic| first | exact box0 | exact box1 | exact box2)
local macro_rules | `(tactic| walk_at "sq") => `(tactic| first | (show SqL _ _ _ _; assumption) | (show SqT _ _ _ _; assumption) | (show _ = some _; assumption))
local macro_rules | `(tactic| walk_at "side") => `(tactic| first
  | (show (0 : Int) < _; decide)
  | (show (0 : Int) < _; omega)
  | exact ⟨by decide, by decide, by decide⟩
  | exact sz_of (Nat.le_of_ble_eq_true rfl)
  | exact rfl
  | exact Or.inl (by decide)
  | exact Or.inr (by decide)
  | exact Or.inr ⟨by omega, by omega⟩
  | exact Or.inl ⟨by omega, by omega⟩
  | exact ⟨by decide, by decide +kernel⟩)
local macro_rules | `(tactic| walk_at "ev1") => `(tactic| first
  | refine ⟨_, rfl, ?_⟩
  | refine ⟨_, _, rfl, rfl, ?_⟩
  | refine ⟨_, _, _, _, rfl, rfl, (by walk_at "sq"), (by walk_at "at"), ?_⟩
  | refine ⟨_, _, rfl, (by walk_at "sq"), ?_⟩
  | refine ⟨_, _, rfl, Or.inl (by walk_at "sq"), ?_⟩
  | refine ⟨_, _, rfl, Or.inr (by walk_at "sq"), ?_⟩
  | refine Or.inl ⟨_, rfl, ?_⟩
  | refine Or.inr ⟨_, rfl, ?_⟩
  | refine ⟨(by walk_at "side"), ?_⟩
  | refine ⟨.inl ⟨rfl, _, (by walk_at "sq")⟩, ?_⟩
  | refine ⟨_, _, rfl, ?_⟩)
local macro_rules | `(tactic| walk_at "nrm") => `(tactic| dsimp only [tNil, tCons, tC, tCB])
local macro_rules | `(tactic| walk_at "ev") => `(tactic| repeat (walk_at "ev1"))

abbrev sc_step_over_N : List Str := ["queue", "place", "name", "start", "end", "room", "notice"]
abbrev s_step_over : Stmt := topS 9
theorem sc_step_over : FnScope ["queue", "place", "name", "start", "end", "room", "notice"] ["queue", "place"] (defScope s_step_over) := ⟨rfl, rfl, rfl, by decide +kernel, rfl, by decide +kernel, by decide +kernel⟩
/-! ### steps as data -/
def alS : Str := Str.ofString "along"
def agS : Str := Str.ofString "against"
def mvd (nm : Str) (al : Bool) (to : Str) (pr : Int) : PyData := .tuple [.tuple [.str nm, .str (if al = true then alS else agS)], .str to, .int pr]
section
variable {P : Program} {w : World} {K : PySem.W.Frag} {mg : Str → Option Value} {base : Heap}
def spStep (K : PySem.W.Frag) : Sp := fun vs H Q _ => ∃ (a : Addr) (fb : Bool) (nm st en : Str) (room gap : Int) (w : Str) (S : List Addr), vs = [.ref a, .str w] ∧ SqF fb K H a [.str nm, .str st, .str en, .int room, .int gap] ∧ Trk S H ∧ st ≠ en ∧ (w = st ∨ w = en) ∧
  ∀ H' v, Same H H' → Dp K (cutS S H') v (if w = st then mvd nm true en room else mvd nm false st (1 - gap)) → Q v H'
theorem ok_step_over {f : Addr} {fd : FuncData} {k : Nat} (F : Fun K "step_over" "step_over" s_step_over f fd) : FnOk P w K mg base CX0 (k + 1) f fd ["queue", "place"] (spStep K) := by
  refine F.ok sc_step_over (fun vs H Q E h => ?_) (fun cdv A outer s0 H vs Q E hr h => ?_)
  · obtain ⟨a, fb, nm, st, en, room, gap, w, S, rfl, _⟩ := h
    rfl
  · obtain ⟨a, fb, nm, st, en, room, gap, w, S, rfl, hs, hT, hne, hw, q⟩ := h
    refine ⟨_, (pss_cons (ps_asg (pv 0) (pg_seq (pg_tup rfl (pgs_cons (pg_name (i := 2) sc_step_over.nd rfl (Or.inl rfl)) (pgs_cons (pg_name (i := 3) sc_step_over.nd rfl (Or.inl rfl)) (pgs_cons (pg_name (i := 4) sc_step_over.nd rfl (Or.inl rfl)) (pgs_cons (pg_name (i := 5) sc_step_over.nd rfl (Or.inl rfl)) (pgs_cons (pg_name (i := 6) sc_step_over.nd rfl (Or.inl rfl)) pgs_nil)))))) (pg_lst rfl (pgs_cons (pg_name (i := 2) sc_step_over.nd rfl (Or.inl rfl)) (pgs_cons (pg_name (i := 3) sc_step_over.nd rfl (Or.inl rfl)) (pgs_cons (pg_name (i := 4) sc_step_over.nd rfl (Or.inl rfl)) (pgs_cons (pg_name (i := 5) sc_step_over.nd rfl (Or.inl rfl)) (pgs_cons (pg_name (i := 6) sc_step_over.nd rfl (Or.inl rfl)) pgs_nil)))))))) 
    (pss_cons (ps_if (pt_cmpR op_eq (pv 1) (pv 3) (nomark _)) (pss_one (ps_ret (pe_tup (pa_cons (pe_tup (pa_cons (pv 2) (pa_cons pe_str pa_nil))) (pa_cons (pv 4) (pa_cons (pv 5) pa_nil)))))) pss_nil) 
    (pss_cons (ps_if (pt_cmpR op_eq (pv 1) (pv 4) (nomark _)) (pss_one (ps_ret (pe_tup (pa_cons (pe_tup (pa_cons (pv 2) (pa_cons pe_str pa_nil))) (pa_cons (pv 3) (pa_cons (pe_op op_sub pe_int (pv 6)) pa_nil)))))) pss_nil) 
    (pss_one (ps_ret pe_non))))), ?_⟩
    refine ⟨_, rfl, ?_⟩
    refine gSeq_at hs rfl ?_
    refine ⟨_, _, rfl, ?_⟩
    refine ⟨_, _, rfl, ?_⟩
    refine ⟨_, _, rfl, ?_⟩
    refine ⟨_, _, rfl, ?_⟩
    refine ⟨_, _, rfl, rfl, ?_⟩
    walk_at "ev"
    have ed : ∀ x y : Str, decide (V.str x = V.str y) = decide (x = y) := fun x y => decide_eq_decide.mpr ⟨V.str.inj, congrArg _⟩
    rw [ed]
    have tup : ∀ (H0 : Hp) (al : Bool) (to : Str) (pr : Int) (p1 p2 : Addr), Trk S H0 → H0 p1 = none → (upd H0 p1 (.tup [.str nm, .str (if al = true then alS else agS)])) p2 = none →
        Dp K (cutS S (upd (upd H0 p1 (.tup [.str nm, .str (if al = true then alS else agS)])) p2 (.tup [.ref p1, .str to, .int pr]))) (.ref p2) (mvd nm al to pr) := fun H0 al to pr p1 p2 t h1 h2 =>
      dp_tup (t.mono (.upd h1)) h2 (.cons (dp_tup t h1 (.cons (.str _) (.cons (.str _) .nil))) (.cons (.str _) (.cons (.int _) .nil)))
    by_cases e1 : w = st
    · rw [decide_eq_true e1]
      rw [if_pos e1] at q
      refine iteT ?_
      walk_at "ev"
      intro p1 h1
      walk_at "ev"
      intro p2 h2
      exact q _ _ ((Same.upd h1).trans (.upd h2)) (tup H true en room p1 p2 hT h1 h2)
    · rw [decide_eq_false e1]
      rw [if_neg e1] at q
      refine iteF ?_
      have e2 : w = en := hw.resolve_left e1
      walk_at "ev"
      rw [ed, decide_eq_true e2]
      refine iteT ?_
      walk_at "ev"
      intro p1 h1
      walk_at "ev"
      intro p2 h2
      exact q _ _ ((Same.upd h1).trans (.upd h2)) (tup H false st (1 - gap) p1 p2 hT h1 h2)
end
end Jl

set_option Elab.async false
set_option linter.all false
set_option maxRecDepth 100000
set_option maxHeartbeats 1000000
set_option pp.maxSteps 300
namespace Jl
open PySem PySem.Spec PyProof.Rows L2
open Evl (sz_of sz_lt)
local macro_rules | `(tactic| walk_at "at") => `(tactic| first | exact box0 | exact box1 | exact box2)
local macro_rules | `(tactic| walk_at "sq") => `(tactic| first | (show SqL _ _ _ _; assumption) | (show SqT _ _ _ _; assumption) | (show _ = some _; assumption))
local macro_rules | `(tactic| walk_at "side") => `(tactic| first
  | (show (0 : Int) < _; decide)
  | (show (0 : Int) < _; omega)
  | exact ⟨by decide, by decide, by decide⟩
  | exact sz_of (Nat.le_of_ble_eq_true rfl)
  | exact rfl
  | exact Or.inl (by decide)
  | exact Or.inr (by decide)
  | exact Or.inr ⟨by omega, by omega⟩
  | exact Or.inl ⟨by omega, by omega⟩
  | exact ⟨by decide, by decide +kernel⟩)
local macro_rules | `(tactic| walk_at "ev1") => `(tactic| first
  | refine ⟨_, rfl, ?_⟩
  | refine ⟨_, _, rfl, rfl, ?_⟩
  | refine ⟨_, _, _, _, rfl, rfl, (by walk_at "sq"), (by walk_at "at"), ?_⟩
  | refine ⟨_, _, rfl, (by walk_at "sq"), ?_⟩
  | refine ⟨_, _, rfl, Or.inl (by walk_at "sq"), ?_⟩
  | refine ⟨_, _, rfl, Or.inr (by walk_at "sq"), ?_⟩
  | refine Or.inl ⟨_, rfl, ?_⟩
  | refine Or.inr ⟨_, rfl, ?_⟩
  | refine ⟨(by walk_at "side"), ?_⟩
  | refine ⟨.inl ⟨rfl, _, (by walk_at "sq")⟩, ?_⟩
  | refine ⟨_, _, rfl, ?_⟩)
local macro_rules | `(tactic| walk_at "nrm") => `(tactic| dsimp only [tNil, tCons, tC, tCB])
local macro_rules | `(tactic| walk_at "ev") => `(tactic| repeat (walk_at "ev1"))

/-! ### a dict of new lists -/
def kvl (ks : List Str) (ls : List Addr) : List (Key × V) := (ks.zip ls).map fun p => ((.inr p.1 : Key), V.ref p.2)
theorem valV_kvl : ∀ {ks : List Str} {ls : List Addr} {i : Nat} {k : Str} {l : Addr}, ks.Nodup → ks[i]? = some k → ls[i]? = some l → valV (kvl ks ls) (.inr k) = some (.ref l)
  | [], _, i, _, _, _, h, _ => by simp at h
  | _ :: _, [], i, _, _, _, _, h => by simp at h
  | x :: ks, y :: ls, 0, k, l, _, h1, h2 => by
    simp at h1 h2
    subst h1 h2
    exact valV_pos rfl
  | x :: ks, y :: ls, i + 1, k, l, hn, h1, h2 => by
    have h1' : ks[i]? = some k := by simpa using h1
    have h2' : ls[i]? = some l := by simpa using h2
    have hn' := List.nodup_cons.mp hn
    have ne : x ≠ k := fun e => hn'.1 (by rw [e]; exact List.mem_of_getElem? h1')
    show valV ((.inr x, .ref y) :: kvl ks ls) (.inr k) = _
    rw [valV_neg (fun e => ne (Sum.inr.inj e))]
    exact valV_kvl hn'.2 h1' h2'
theorem valV_kvl_no : ∀ {ks : List Str} {ls : List Addr} {k : Str}, k ∉ ks → valV (kvl ks ls) (.inr k) = none
  | [], _, _, _ => rfl
  | _ :: _, [], _, _ => rfl
  | x :: ks, y :: ls, k, h => by
    show valV ((.inr x, .ref y) :: kvl ks ls) (.inr k) = _
    rw [valV_neg (fun e => h (by rw [← Sum.inr.inj e]; exact List.mem_cons_self))]
    exact valV_kvl_no fun z => h (List.mem_cons_of_mem _ z)
theorem dget_kvl {H : Hp} {M : Addr} {ks : List Str} {ls : List Addr} {i : Nat} {k : Str} {l : Addr} (hn : ks.Nodup) (h1 : ks[i]? = some k) (h2 : ls[i]? = some l) (hM : H M = some (.dK (kvl ks ls))) : DGet H M (V.str k) (some (.ref l)) := by
  have := DGet.k (k := .inr k) hM
  rw [valV_kvl hn h1 h2] at this
  exact this
theorem kvl_push {ks : List Str} {ls : List Addr} {k : Str} {l : Addr} (h : ks.length = ls.length) : kvl (ks ++ [k]) (ls ++ [l]) = kvl ks ls ++ [(.inr k, .ref l)] := by
  unfold kvl
  rw [List.zip_append h, List.map_append]
  rfl
theorem dc_new {K : PySem.W.Frag} {tl tk tv : TE} {j : Nat} {vs : List Nat} {σ : L2.St} {H H0 : Hp} {Q : VK} {a : Addr} {fb : Bool} {xs : List V} {ks : List Str} (hn : ks.Nodup) (hlen : xs.length = ks.length)
    (ht : ∀ R' : VK, R' (.ref a) H0 → tl σ H R') (hs : SqF fb K H0 a xs) (hl : xs.length ≤ 1000) (hw : ∀ x, wipe ((wipe σ vs).set j (some x)) vs = wipe σ vs)
    (hk : ∀ (i : Nat) (x : V) (z : Str) (H1 : Hp) (Q' : VK), xs[i]? = some x → ks[i]? = some z → Same H0 H1 → Q' (.str z) H1 → tk ((wipe σ vs).set j (some x)) H1 Q') (hv : ∀ (x : V) (H1 : Hp) (Q' : VK), (∀ l, H1 l = none → Q' (.ref l) (upd H1 l (.lst []))) → tv ((wipe σ vs).set j (some x)) H1 Q')
    (q : ∀ (D : Addr) (ls : List Addr) (H1 : Hp), Same H0 H1 → H0 D = none → ls.length = ks.length → ls.Nodup → D ∉ ls → (∀ l ∈ ls, H0 l = none ∧ H1 l = some (.lst [])) → H1 D = some (.dK (kvl ks ls)) → Q (.ref D) H1) : tDcX (iSeq K tl) (gName j) tYes tk tv vs σ H Q := by
  refine dc_of ?_
  refine iSeq_at ht hs fun J w D hD => ?_
  refine ⟨fun i m H1 => m = xs.length - i ∧ i ≤ xs.length ∧ ∃ ls : List Addr, ls.length = i ∧ Same H0 H1 ∧ ls.Nodup ∧ D ∉ ls ∧ (∀ l ∈ ls, H0 l = none ∧ H1 l = some (.lst [])) ∧ H1 D = some (.dK (kvl (ks.take i) ls)), ⟨_, rfl, Nat.zero_le _, [], rfl, .upd hD, List.nodup_nil, List.not_mem_nil, fun l h => absurd h List.not_mem_nil, upd_same⟩, fun i m H1 hW => ?_⟩
  obtain ⟨rfl, hi, ls, w1, w2, w3, w4, w5, w6⟩ := hW
  have hG : SqF fb K H1 a xs := w2.sqF hs
  by_cases hlt : i < xs.length
  · refine .inr ⟨w.goes i _ (by omega) hG, fun H2 => i + 1 ≤ xs.length ∧ ∃ ls : List Addr, ls.length = i + 1 ∧ Same H0 H2 ∧ ls.Nodup ∧ D ∉ ls ∧ (∀ l ∈ ls, H0 l = none ∧ H2 l = some (.lst [])) ∧ H2 D = some (.dK (kvl (ks.take (i + 1)) ls)), fun H2 e => ⟨xs.length - (i + 1), by omega, rfl, e.1, e.2⟩, fun x H2 y => ?_⟩
    obtain ⟨rfl, hx⟩ := w.yields i _ x H2 (by omega) hG y
    have hlt2 : i < ks.length := by omega
    refine ⟨hw _, ?_⟩
    dsimp only [tYes]
    rw [if_pos rfl]
    refine hk i x ks[i] _ _ hx (List.getElem?_eq_getElem hlt2) w2 (hv _ _ _ fun l hl0 => ?_)
    have nD : D ≠ l := ne_of_none w6 hl0
    have ek : ks.take (i + 1) = ks.take i ++ [ks[i]] := by rw [List.take_add_one, List.getElem?_eq_getElem hlt2]; rfl
    refine ⟨_, .inr ks[i], rfl, by rw [upd_ne nD]; exact w6, ?_, ?_⟩
    · unfold kvl
      rw [List.length_map, List.length_zip, List.length_take]
      exact sz_lt (by omega)
    · have hno : valV (kvl (ks.take i) ls) (.inr ks[i]) = none := valV_kvl_no fun hm => by
        obtain ⟨k, hk1, hk2⟩ := List.mem_take_iff_getElem.mp hm
        have := nd_ix hn (List.getElem?_eq_getElem hlt2) (by rw [List.getElem?_eq_getElem (show k < ks.length by omega)]; exact congrArg some hk2)
        omega
      have hl0' : H0 l = none := w2.free hl0
      have hnl : l ∉ ls := fun z => by
        have := (w5 l z).2
        rw [hl0] at this
        cases this
      refine ⟨by omega, ls ++ [l], by rw [List.length_append, w1]; rfl, ?_, ?_, ?_, fun z hz => ?_, ?_⟩
      · exact (w2.trans (.upd hl0)).mut hD
      · refine List.nodup_append.mpr ⟨w3, by simp, fun x hx y hy => ?_⟩
        rw [List.mem_singleton.mp hy]
        exact fun e => hnl (by rw [← e]; exact hx)
      · intro z
        rcases List.mem_append.mp z with z | z
        · exact w4 z
        · exact nD (List.mem_singleton.mp z)
      · rcases List.mem_append.mp hz with hz | hz
        · have hzD : z ≠ D := fun e => w4 (by rw [← e]; exact hz)
          have hzl : z ≠ l := fun e => hnl (by rw [← e]; exact hz)
          refine ⟨(w5 z hz).1, ?_⟩
          rw [upd_ne hzD, upd_ne hzl]
          exact (w5 z hz).2
        · rw [List.mem_singleton.mp hz]
          refine ⟨hl0', ?_⟩
          rw [upd_ne nD.symm, upd_same]
      · rw [upd_same, putK_new _ hno, ek, kvl_push (by rw [List.length_take, w1]; omega)]
  · have e : i = xs.length := by omega
    subst e
    refine .inl ⟨w.stops _ hG, ?_⟩
    rw [hlen, List.take_length] at w6
    exact q D ls H1 w2 hD (by rw [w1, hlen]) w3 w4 w5 w6
/-! ### the lists of a dict, as they grow -/
structure MvS (K : PySem.W.Frag) (H0 : Hp) (M : Addr) (ws : List Str) (ls : List Addr) (ms : Str → List PyData) (H : Hp) : Prop where
  s0 : Same H0 H
  hM : H M = some (.dK (kvl ws ls))
  hl : ∀ (i : Nat) (w : Str) (l : Addr), ws[i]? = some w → ls[i]? = some l → ∃ vs, H l = some (.lst vs) ∧ DpAll K (cutS ls H) vs (ms w)
theorem MvS.same {K : PySem.W.Frag} {H0 : Hp} {M : Addr} {ws : List Str} {ls : List Addr} {ms : Str → List PyData} {H H' : Hp} (m : MvS K H0 M ws ls ms H) (e : Same H H') : MvS K H0 M ws ls ms H' :=
  ⟨m.s0.trans e, e _ _ m.hM, fun i w l h1 h2 => by
    obtain ⟨vs, g1, g2⟩ := m.hl i w l h1 h2
    exact ⟨vs, e _ _ g1, (cutS_mono e).dpa g2⟩⟩
theorem MvS.push {K : PySem.W.Frag} {H0 : Hp} {M : Addr} {ws : List Str} {ls : List Addr} {ms : Str → List PyData} {H : Hp} {i : Nat} {w : Str} {l : Addr} {vs : List V} {v : V} {d : PyData} (m : MvS K H0 M ws ls ms H) (hn : ws.Nodup) (hnl : ls.Nodup) (hM : M ∉ ls) (hf : ∀ l ∈ ls, H0 l = none)
    (hi : ws[i]? = some w) (hl : ls[i]? = some l) (hv : H l = some (.lst vs)) (hva : DpAll K (cutS ls H) vs (ms w)) (hd : Dp K (cutS ls H) v d) : MvS K H0 M ws ls (fun x => if x = w then ms x ++ [d] else ms x) (upd H l (.lst (vs ++ [v]))) := by
  have hml := List.mem_of_getElem? hl
  have eC : cutS ls (upd H l (.lst (vs ++ [v]))) = cutS ls H := cutS_upd hml
  refine ⟨m.s0.mut (hf l hml), ?_, fun i' w' l' h1 h2 => ?_⟩
  · rw [upd_ne (fun e => hM (by rw [e]; exact hml))]
    exact m.hM
  · rw [eC]
    by_cases e : i' = i
    · subst e
      rw [hi] at h1
      rw [hl] at h2
      cases h1
      cases h2
      refine ⟨_, upd_same, ?_⟩
      try dsimp only
      rw [if_pos rfl]
      exact dpa_app hva (dpa_one hd)
    · have nl : l' ≠ l := fun z => e (nd_ix hnl h2 (by rw [z]; exact hl))
      have nw : w' ≠ w := fun z => e (nd_ix hn h1 (by rw [z]; exact hi))
      obtain ⟨us, g1, g2⟩ := m.hl i' w' l' h1 h2
      refine ⟨us, by rw [upd_ne nl]; exact g1, ?_⟩
      try dsimp only
      rw [if_neg nw]
      exact g2
/-- a comprehension over data, its element told by a function of data -/
theorem lc_dataD {K : PySem.W.Frag} {tl te : TE} {j : Nat} {vs : List Nat} {σ : L2.St} {H H0 : Hp} {Q : VK} {a : Addr} {fb : Bool} {xs : List V} {ds : List PyData} {S : List Addr} (g : PyData → PyData)
    (ht : ∀ R' : VK, R' (.ref a) H0 → tl σ H R') (hs : SqF fb K H0 a xs) (ha : DpAll K (cutS S H0) xs ds) (hT : Trk S H0) (hl : ds.length ≤ 4000000)
    (hw : ∀ x, wipe ((wipe σ vs).set j (some x)) vs = wipe σ vs)
    (he : ∀ (x : V) (d : PyData) (H1 : Hp) (T : List Addr), d ∈ ds → Trk T H1 → Dp K (cutS T H1) x d → ∀ Q' : VK, (∀ H2 y, Same H1 H2 → Dp K (cutS T H2) y (g d) → Q' y H2) → te ((wipe σ vs).set j (some x)) H1 Q')
    (q : ∀ D ys H', Same H0 H' → H0 D = none → H' D = some (.lst ys) → DpAll K (cutS (D :: S) H') ys (ds.map g) → Q (.ref D) H') : tLcX (iSeq K tl) (gName j) tYes te vs σ H Q := by
  have ll := dpa_len ha
  refine lc_of ?_
  refine iSeq_at ht hs fun J w D hD => ?_
  refine lc_it w (fun i H1 => ∃ ys, Same H0 H1 ∧ H1 D = some (.lst ys) ∧ DpAll K (cutS (D :: S) H1) ys ((ds.take i).map g)) ⟨[], .upd hD, upd_same, .nil⟩ (fun i H1 _ p => ?_) (fun i x H1 H1' hi p y => ?_) (fun H1 p => ?_)
  · obtain ⟨ys, e1, _⟩ := p
    exact e1.sqF hs
  · obtain ⟨ys, e1, e2, e3⟩ := p
    obtain ⟨rfl, hx⟩ := y
    obtain ⟨d, hd, hxd⟩ := dpa_get ha hx
    refine ⟨hw x, ?_⟩
    dsimp only [tYes]
    rw [if_pos rfl]
    have s3 : Same (cutS S H0) (cutS (D :: S) H1') := cutS_into e1 hD
    have hxd1 : Dp K (cutS (D :: S) H1') x d := s3.dp hxd
    refine he x d H1' (D :: S) (List.mem_of_getElem? hd) ((hT.mono e1).cons e2) hxd1 _ fun H2 y s2 hy => ?_
    refine ⟨ys, s2 _ _ e2, ?_, ys ++ [y], ?_, upd_same, ?_⟩
    · have := dpa_len e3
      rw [this, List.length_map, List.length_take]
      exact szL (by omega)
    · exact (e1.trans s2).mut hD
    · rw [cutS_upd List.mem_cons_self, List.take_add_one, hd, List.map_append]
      exact dpa_app ((cutS_mono s2).dpa e3) (dpa_one hy)
  · obtain ⟨ys, e1, e2, e3⟩ := p
    refine q D ys H1 e1 hD e2 ?_
    have e4 : (ds.take xs.length).map g = ds.map g := by rw [List.take_of_length_le (by omega)]
    rw [e4] at e3
    exact e3
/-! ### two lists that grow -/
structure W2 (K : PySem.W.Frag) (Hs : Hp) (F O : Addr) (H : Hp) (fv ov : List V) (fd od : List PyData) : Prop where
  hF : H F = some (.lst fv)
  hO : H O = some (.lst ov)
  dF : DpAll K (cutS [F, O] H) fv fd
  dO : DpAll K (cutS [F, O] H) ov od
  hS : Same Hs (cutS [F, O] H)
theorem W2.same {K : PySem.W.Frag} {Hs : Hp} {F O : Addr} {H H' : Hp} {fv ov : List V} {fd od : List PyData} (w : W2 K Hs F O H fv ov fd od) (e : Same H H') : W2 K Hs F O H' fv ov fd od := ⟨e _ _ w.hF, e _ _ w.hO, (cutS_mono e).dpa w.dF, (cutS_mono e).dpa w.dO, w.hS.trans (cutS_mono e)⟩
theorem W2.trk {K : PySem.W.Frag} {Hs : Hp} {F O : Addr} {H : Hp} {fv ov : List V} {fd od : List PyData} (w : W2 K Hs F O H fv ov fd od) : Trk [F, O] H := Trk.cons (Trk.cons Trk.nil w.hO) w.hF
theorem W2.pushF {K : PySem.W.Frag} {Hs : Hp} {F O : Addr} {H : Hp} {fv ov : List V} {fd od : List PyData} {v : V} {d : PyData} (w : W2 K Hs F O H fv ov fd od) (ne : F ≠ O) (h : Dp K (cutS [F, O] H) v d) : W2 K Hs F O (upd H F (.lst (fv ++ [v]))) (fv ++ [v]) ov (fd ++ [d]) od := by
  have e : cutS [F, O] (upd H F (.lst (fv ++ [v]))) = cutS [F, O] H := cutS_upd List.mem_cons_self
  exact ⟨upd_same, by rw [upd_ne ne.symm]; exact w.hO, by rw [e]; exact dpa_app w.dF (dpa_one h), by rw [e]; exact w.dO, by rw [e]; exact w.hS⟩
theorem W2.setO {K : PySem.W.Frag} {Hs : Hp} {F O : Addr} {H : Hp} {fv ov ov' : List V} {fd od od' : List PyData} (w : W2 K Hs F O H fv ov fd od) (ne : F ≠ O) (h : DpAll K (cutS [F, O] H) ov' od') : W2 K Hs F O (upd H O (.lst ov')) fv ov' fd od' := by
  have e : cutS [F, O] (upd H O (.lst ov')) = cutS [F, O] H := cutS_upd (List.mem_cons_of_mem _ List.mem_cons_self)
  exact ⟨by rw [upd_ne ne]; exact w.hF, upd_same, by rw [e]; exact w.dF, by rw [e]; exact h, by rw [e]; exact w.hS⟩
theorem cut_upd2 {F O : Addr} {H : Hp} {o : HO} : cutS [F, O] (upd H F o) = cutS [F, O] H ∧ cutS [F, O] (upd H O o) = cutS [F, O] H := ⟨cutS_upd List.mem_cons_self, cutS_upd (List.mem_cons_of_mem _ List.mem_cons_self)⟩
/-! ### data written out, beside a cut -/
def IsC (K : PySem.W.Frag) (S : List Addr) (H0 : Hp) (te : TE) (d : PyData) (σ : L2.St) : Prop := ∀ (H : Hp) (Q : VK), Same H0 H → Trk S H → (∀ H' v, Same H H' → Dp K (cutS S H') v d → Q v H') → te σ H Q
def AreC (K : PySem.W.Frag) (S : List Addr) (H0 : Hp) (t : TA) (ds : List PyData) (σ : L2.St) : Prop := ∀ (H : Hp) (Q : List V → Hp → Prop), Same H0 H → Trk S H → (∀ H' vs, Same H H' → DpAll K (cutS S H') vs ds → Q vs H') → t σ H Q
def RdL (K : PySem.W.Frag) (S : List Addr) (H0 : Hp) (te : TE) (ds : List PyData) (σ : L2.St) : Prop := ∀ (H : Hp) (Q : VK), Same H0 H → Trk S H → (∀ H' p vs, Same H H' → H' p = some (.lst vs) → DpAll K (cutS S H') vs ds → Q (.ref p) H') → te σ H Q
def NwL (K : PySem.W.Frag) (S : List Addr) (H0 : Hp) (te : TE) (ds : List PyData) (σ : L2.St) : Prop := ∀ (H : Hp) (Q : VK), Same H0 H → Trk S H → (∀ H' p vs, Same H H' → H p = none → H' p = some (.lst vs) → DpAll K (cutS (p :: S) H') vs ds → Q (.ref p) H') → te σ H Q
section
variable {K : PySem.W.Frag} {S : List Addr} {H0 : Hp} {σ : L2.St}
theorem ic_int {i : Int} : IsC K S H0 (tC (.int i)) (.int i) σ := fun H Q _ _ q => q H _ (fun _ _ e => e) (.int i)
theorem ic_str {x : Str} : IsC K S H0 (tC (.str x)) (.str x) σ := fun H Q _ _ q => q H _ (fun _ _ e => e) (.str x)
theorem ic_bl {b : Bool} : IsC K S H0 (tC (.bl b)) (.bool b) σ := fun H Q _ _ q => q H _ (fun _ _ e => e) (.bl b)
theorem ic_non : IsC K S H0 (tC .non) .none σ := fun H Q _ _ q => q H _ (fun _ _ e => e) .non
theorem ic_neg {i : Int} : IsC K S H0 (tUn (rU fun i => .int (-i)) (tC (.int i))) (.int (-i)) σ := fun H Q _ _ q => ⟨i, rfl, q H _ (fun _ _ e => e) (.int (-i))⟩
theorem ic_pow {i j : Int} (h : CPow i j) : IsC K S H0 (tOp (rI CPow fun i j => .int (i ^ j.toNat)) (tC (.int i)) (tC (.int j))) (.int (i ^ j.toNat)) σ := fun H Q _ _ q => ⟨i, j, rfl, rfl, h, q H _ (fun _ _ e => e) (.int _)⟩
theorem ac_nil : AreC K S H0 tNil [] σ := fun H Q _ _ q => q H _ (fun _ _ e => e) .nil
theorem ac_cons {te : TE} {t : TA} {d : PyData} {ds : List PyData} (h1 : IsC K S H0 te d σ) (h2 : AreC K S H0 t ds σ) : AreC K S H0 (tCons te t) (d :: ds) σ := fun H Q e tr q =>
  h1 H _ e tr fun H1 v s1 d1 => h2 H1 _ (e.trans s1) (tr.mono s1) fun H2 vs s2 d2 => q H2 (v :: vs) (s1.trans s2) (.cons ((cutS_mono s2).dp d1) d2)
theorem ic_tup {t : TA} {ds : List PyData} (h : AreC K S H0 t ds σ) (hl : ds.length ≤ 1000) : IsC K S H0 (tTup t) (.tuple ds) σ := fun H Q e tr q =>
  h H _ e tr fun H1 vs s1 d1 => ⟨Nat.le_of_lt (sz_lt (by rw [dpa_len d1]; omega)), fun p hp => q _ _ (s1.trans (.upd hp)) (dp_tup (tr.mono s1) hp d1)⟩
theorem ic_lst {t : TA} {ds : List PyData} (h : AreC K S H0 t ds σ) (hl : ds.length ≤ 1000) : IsC K S H0 (tLst t) (.list ds) σ := fun H Q e tr q =>
  h H _ e tr fun H1 vs s1 d1 => ⟨Nat.le_of_lt (sz_lt (by rw [dpa_len d1]; omega)), fun p hp => q _ _ (s1.trans (.upd hp)) (dp_lst (tr.mono s1) hp d1)⟩
theorem nw_lst {t : TA} {ds : List PyData} (h : AreC K S H0 t ds σ) (hl : ds.length ≤ 1000) : NwL K S H0 (tLst t) ds σ := fun H Q e tr q =>
  h H _ e tr fun H1 vs s1 d1 => ⟨Nat.le_of_lt (sz_lt (by rw [dpa_len d1]; omega)), fun p hp => q _ p vs (s1.trans (.upd hp)) (s1.free hp) upd_same ((cutS_into (.upd hp) hp).dpa d1)⟩
theorem rd_nw {te : TE} {ds : List PyData} (h : NwL K S H0 te ds σ) : RdL K S H0 te ds σ := fun H Q e tr q => h H Q e tr fun H' p vs s1 _ h1 d1 => q H' p vs s1 h1 (cutS_tail.dpa d1)
theorem rd_var {i : Nat} {p : Addr} {vs : List V} {ds : List PyData} (hi : σ[i]? = some (some (.ref p))) (hp : H0 p = some (.lst vs)) (hd : DpAll K (cutS S H0) vs ds) : RdL K S H0 (tVar i) ds σ := fun H Q e _ q =>
  ⟨_, hi, q H p vs (fun _ _ e => e) (e _ _ hp) ((cutS_mono e).dpa hd)⟩
theorem nw_cat {ta tb : TE} {ds es : List PyData} (h1 : RdL K S H0 ta ds σ) (h2 : RdL K S H0 tb es σ) (hl : ds.length + es.length ≤ 1000) : NwL K S H0 (tOp rCat ta tb) (ds ++ es) σ := fun H Q e tr q =>
  h1 H _ e tr fun H1 p1 v1 s1 g1 d1 => h2 H1 _ (e.trans s1) (tr.mono s1) fun H2 p2 v2 s2 g2 d2 => ⟨p1, p2, v1, v2, rfl, rfl, s2 _ _ g1, g2, Nat.le_of_lt (sz_lt (by rw [dpa_len d1, dpa_len d2]; omega)), fun p hp =>
    q _ p _ ((s1.trans s2).trans (.upd hp)) ((s1.trans s2).free hp) upd_same ((cutS_into (.upd hp) hp).dpa (dpa_app ((cutS_mono s2).dpa d1) d2))⟩
theorem ic_var {i : Nat} {v : V} {d : PyData} (hi : σ[i]? = some (some v)) (hd : Dp K (cutS S H0) v d) : IsC K S H0 (tVar i) d σ := fun H Q e _ q => ⟨v, hi, q H v (fun _ _ e => e) ((cutS_mono e).dp hd)⟩
theorem ic_add {ta tb : TE} {i j : Int} (h1 : IsC K S H0 ta (.int i) σ) (h2 : IsC K S H0 tb (.int j) σ) : IsC K S H0 (tOp (rI0 fun i j => .int (i + j)) ta tb) (.int (i + j)) σ := fun H Q e tr k =>
  h1 H _ e tr fun H1 v s1 d1 => h2 H1 _ (e.trans s1) (tr.mono s1) fun H2 u s2 d2 => by
    cases d1
    cases d2
    exact ⟨_, _, rfl, rfl, k H2 _ (s1.trans s2) (.int _)⟩
/-- tuples, one behind another -/
theorem ic_catT {ta tb : TE} {ds es : List PyData} (h1 : IsC K S H0 ta (.tuple ds) σ) (h2 : IsC K S H0 tb (.tuple es) σ) (hl : ds.length + es.length ≤ 1000) : IsC K S H0 (tOp (rCatA K) ta tb) (.tuple (ds ++ es)) σ := fun H Q e tr k =>
  h1 H _ e tr fun H1 v s1 d1 => h2 H1 _ (e.trans s1) (tr.mono s1) fun H2 u s2 d2 => by
    obtain ⟨c, xs, rfl, hc, hx⟩ := Dp.seq_of (f := true) ((cutS_mono s2).dp d1)
    obtain ⟨d, ys, rfl, hd, hy⟩ := Dp.seq_of (f := true) d2
    have lx := dpa_len hx
    have ly := dpa_len hy
    have s12 := s1.trans s2
    refine ⟨c, d, xs, ys, rfl, rfl, cutS_le.sqT hc, cutS_le.sqT hd, Nat.le_of_lt (sz_lt (by omega)), fun e0 => k H2 _ s12 ?_, fun _ e0 => k H2 _ s12 ?_, fun _ _ p hp => k _ _ (s12.trans (.upd hp)) ?_⟩
    · have : ds = [] := by rw [e0] at lx; exact List.eq_nil_of_length_eq_zero lx.symm
      rw [this]
      exact Dp.seq (f := true) hd hy
    · have : es = [] := by rw [e0] at ly; exact List.eq_nil_of_length_eq_zero ly.symm
      rw [this, List.append_nil]
      exact Dp.seq (f := true) hc hx
    · exact dp_tup (tr.mono s12) hp (dpa_app hx hy)
end
theorem dpa_snoc {K : PySem.W.Frag} {H : Hp} : ∀ {vs : List V} {v : V} {ds : List PyData} {d : PyData}, DpAll K H (vs ++ [v]) (ds ++ [d]) → DpAll K H vs ds ∧ Dp K H v d
  | [], v, [], d, h => by
    cases h with
    | cons h1 h2 => exact ⟨.nil, h1⟩
  | [], v, e :: ds, d, h => by
    cases h with
    | cons h1 h2 =>
      have := dpa_len h2
      simp at this
  | u :: vs, v, [], d, h => by
    cases h with
    | cons h1 h2 =>
      have := dpa_len h2
      simp at this
  | u :: vs, v, e :: ds, d, h => by
    cases h with
    | cons h1 h2 =>
      obtain ⟨g1, g2⟩ := dpa_snoc h2
      exact ⟨.cons h1 g1, g2⟩
theorem atI_end {xs : List V} (h : 1 ≤ xs.length) {v : V} (hv : xs[xs.length - 1]? = some v) : atI xs (-1) = some v := by
  have hne : xs ≠ [] := fun z => by rw [z] at h; exact absurd h (by decide)
  have := atI_last xs.dropLast (xs.getLast hne)
  rw [List.dropLast_concat_getLast] at this
  rw [this, ← hv, List.getLast_eq_getElem, List.getElem?_eq_getElem (by omega)]
theorem in_strs {x : Str} {ks : List Str} : inV (.str x) (ks.map V.str) = decide (x ∈ ks) := by
  unfold inV
  rw [List.any_map, Bool.eq_iff_iff, List.any_eq_true, decide_eq_true_eq]
  refine ⟨fun ⟨r, hr, e⟩ => ?_, fun h => ⟨x, h, ?_⟩⟩
  · have e : (r == x) = true := e
    rw [← eq_of_beq e]
    exact hr
  · show (x == x) = true
    exact beq_self_eq_true _
/-! ### grown rows as data -/
def nmQ (qs : List QD) (m : Mk) : Str := match qs[m.1]? with
  | none => default
  | some q => q.nm
def prQ (qs : List QD) (m : Mk) : Int := match qs[m.1]? with
  | none => 0
  | some q => if m.2 = true then q.room else 1 - q.gap
def stD (qs : List QD) (m : Mk) : PyData := .tuple [.str (nmQ qs m), .str (if m.2 = true then alS else agS)]
def stepsD (qs : List QD) (r : List Mk) : PyData := .tuple (r.map (stD qs))
def costQ (qs : List QD) (r : List Mk) : Int := (r.map (prQ qs)).sum
def gsD (qs : List QD) (a : Gs) : PyData := .tuple [stepsD qs a.row, .tuple (a.met.map PyData.str), .int (costQ qs a.row)]
def fndD (qs : List QD) (r : List Mk) : PyData := .tuple [stepsD qs r, .int (costQ qs r)]
def mvD (qs : List QD) (m : Mk) : PyData := .tuple [stD qs m, .str (far qs m), .int (prQ qs m)]
theorem costQ_push {qs : List QD} {r : List Mk} {m : Mk} : costQ qs (r ++ [m]) = costQ qs r + prQ qs m := by
  unfold costQ
  rw [List.map_append, List.sum_append]
  simp
theorem stepsD_push {qs : List QD} {r : List Mk} {m : Mk} : stepsD qs (r ++ [m]) = .tuple (r.map (stD qs) ++ [stD qs m]) := by
  unfold stepsD
  rw [List.map_append]
  rfl
theorem mvd_at {qs : List QD} {i : Nat} {q : QD} (h : qs[i]? = some q) : mvd q.nm true q.en q.room = mvD qs (i, true) ∧ mvd q.nm false q.st (1 - q.gap) = mvD qs (i, false) := by
  unfold mvD stD nmQ far prQ
  rw [h]
  exact ⟨rfl, rfl⟩
theorem touch_next {qs : List QD} {w : Str} {k : Nat} {q : QD} (h : qs[k]? = some q) : touchN qs w (k + 1) = touchN qs w k ++ (if q.st = w then [(k, true)] else if q.en = w then [(k, false)] else []) := by
  unfold touchN
  rw [List.range_succ, List.filterMap_append]
  congr 1
  have : tch qs w k = if q.st = w then some (k, true) else if q.en = w then some (k, false) else none := by
    unfold tch
    rw [h]
  rw [List.filterMap_cons, this]
  by_cases h1 : q.st = w
  · rw [if_pos h1, if_pos h1]
    rfl
  · rw [if_neg h1, if_neg h1]
    by_cases h2 : q.en = w
    · rw [if_pos h2, if_pos h2]
      rfl
    · rw [if_neg h2, if_neg h2]
      rfl
theorem nm_inj {ws : List Str} {qs : List QD} {m m0 : Mk} (g : NetG ws qs) (h1 : m.1 < qs.length) (h2 : m0.1 < qs.length) : nmQ qs m = nmQ qs m0 ↔ m.1 = m0.1 := by
  unfold nmQ
  rw [List.getElem?_eq_getElem h1, List.getElem?_eq_getElem h2]
  constructor
  · intro e
    have e : qs[m.1].nm = qs[m0.1].nm := e
    exact nd_ix g.nn (by rw [List.getElem?_map, List.getElem?_eq_getElem h1]; rfl) (by rw [List.getElem?_map, List.getElem?_eq_getElem h2]; exact congrArg some e.symm)
  · intro e
    simp only [e]
end Jl

set_option Elab.async false
set_option linter.all false
set_option maxRecDepth 100000
set_option maxHeartbeats 1000000
set_option pp.maxSteps 300
namespace Jl
open PySem PySem.Spec PyProof.Rows L2
open Evl (sz_of sz_lt)
local macro_rules | `(tactic| walk_at "at") => `(tactic| first | exact box0 | exact box1 | exact box2)
local macro_rules | `(tactic| walk_at "sq") => `(tactic| first | (show SqL _ _ _ _; assumption) | (show SqT _ _ _ _; assumption) | (show _ = some _; assumption))
local macro_rules | `(tactic| walk_at "side") => `(tactic| first
  | (show (0 : Int) < _; decide)
  | (show (0 : Int) < _; omega)
  | exact ⟨by decide, by decide, by decide⟩
  | exact sz_of (Nat.le_of_ble_eq_true rfl)
  | exact rfl
  | exact Or.inl (by decide)
  | exact Or.inr (by decide)
  | exact Or.inr ⟨by omega, by omega⟩
  | exact Or.inl ⟨by omega, by omega⟩
  | exact ⟨by decide, by decide +kernel⟩)
local macro_rules | `(tactic| walk_at "ev1") => `(tactic| first
  | refine ⟨_, rfl, ?_⟩
  | refine ⟨_, _, rfl, rfl, ?_⟩
  | refine ⟨_, _, _, _, rfl, rfl, (by walk_at "sq"), (by walk_at "at"), ?_⟩
  | refine ⟨_, _, rfl, (by walk_at "sq"), ?_⟩
  | refine ⟨_, _, rfl, Or.inl (by walk_at "sq"), ?_⟩
  | refine ⟨_, _, rfl, Or.inr (by walk_at "sq"), ?_⟩
  | refine Or.inl ⟨_, rfl, ?_⟩
  | refine Or.inr ⟨_, rfl, ?_⟩
  | refine ⟨(by walk_at "side"), ?_⟩
  | refine ⟨.inl ⟨rfl, _, (by walk_at "sq")⟩, ?_⟩
  | refine ⟨_, _, rfl, ?_⟩)
local macro_rules | `(tactic| walk_at "nrm") => `(tactic| dsimp only [tNil, tCons, tC, tCB])
local macro_rules | `(tactic| walk_at "ev") => `(tactic| repeat (walk_at "ev1"))

abbrev sc_ring_costs_N : List Str := ["net", "moves", "queue", "found", "open_ways", "steps", "met", "cost", "step", "place", "price", "worker"]
abbrev s_ring_costs : Stmt := topS 13
theorem sc_ring_costs : FnScope ["net", "moves", "queue", "found", "open_ways", "steps", "met", "cost", "step", "place", "price", "worker"] ["net"] (defScope s_ring_costs) := ⟨rfl, rfl, rfl, by decide +kernel, rfl, by decide +kernel, by decide +kernel⟩
section
variable {P : Program} {w : World} {K : PySem.W.Frag} {mg : Str → Option Value} {base : Heap}
def spRC (K : PySem.W.Frag) : Sp := fun vs H Q _ => ∃ (v : V) (fb : Bool) (ws : List Str) (qs : List QD) (g : List (List Mk)), vs = [v] ∧ Dp K H v (netD fb ws qs) ∧ ws.Nodup ∧ NetG ws qs ∧ ws.length ≤ 40 ∧ Small ws qs ∧ qs.length ≤ 60 ∧ Rn qs (startP ws) g ∧
  ∀ H' l ys, Same H H' → H l = none → H' l = some (.lst ys) → DpAll K (cutS [l] H') ys (g.map (fndD qs)) → Q (.ref l) H'
theorem ok_ring_costs {f fS : Addr} {fd fdS : FuncData} {k : Nat} (F : Fun K "ring_costs" "ring_costs" s_ring_costs f fd)
    (G_step_over : FnOk P w K mg base CX0 k fS fdS ["queue", "place"] (spStep K)) (g_step_over : mg "step_over" = some (.ref fS)) (F_step_over : Fun K "step_over" "step_over" s_step_over fS fdS) (b_step_over : Binds K fdS ["queue", "place"] [])
    (m_len : mg "len" = none) : FnOk P w K mg base CX0 (k + 1) f fd ["net"] (spRC K) := by
  refine F.ok sc_ring_costs (fun vs H Q E h => ?_) (fun cdv A outer s0 H vs Q E hr h => ?_)
  · obtain ⟨v, fb, ws, qs, g, rfl, _⟩ := h
    rfl
  · obtain ⟨v, fb, ws, qs, g, rfl, hD, hnd, hG, hw6, hsm, hq60, hRn, q⟩ := h
    have hu := hu_of hr
    refine ⟨_, (pss_cons (ps_setDcX (ps_setDc (i := 1) (own := [("worker", 11)]) (g := gName 11) (tt := tYes) (tk := tVar 11) rfl sc_ring_costs.nd rfl rfl (swd_true rfl rfl rfl (by decide +kernel)) (pi_seq (pe_ix ix_lt (pv 0) pe_int (fun _ _ => rfl))) (blkOk_by (own := [("worker", 11)]) (N := sc_ring_costs_N) (sc := defScope s_ring_costs) (by decide +kernel)) (fun _ _ _ _ _ => pg_name (i := 11) sc_ring_costs.nd rfl (Or.inl rfl)) (fun _ _ _ _ _ => pts_nil) (fun _ _ _ _ _ => (pv 11)) (fun _ _ _ _ _ => (pe_lst pa_nil)))) 
    (pss_cons (ps_forX (ps_for PassesOwn.never rfl (pi_seq (pe_ix ix_lt (pv 0) pe_int (fun _ _ => rfl))) (pg_name (i := 2) sc_ring_costs.nd rfl (Or.inl rfl)) 
      (pss_cons (ps_expr (pe_bm PySem.F.plainAttrs_list PySem.F.slot_list_append PySem.F.type_list_append mt_append (pe_dget hu (pv 1) (pe_ix ix_lt (pv 2) pe_int (fun _ _ => rfl)) (fun _ _ => rfl)) (pa_cons (pe_call G_step_over hr (by rfl) g_step_over F_step_over.kp b_step_over .nil pass0 (pa_cons (pv 2) (pa_cons (pe_ix ix_lt (pv 2) pe_int (fun _ _ => rfl)) pa_nil))) pa_nil))) 
      (pss_one (ps_expr (pe_bm PySem.F.plainAttrs_list PySem.F.slot_list_append PySem.F.type_list_append mt_append (pe_dget hu (pv 1) (pe_ix ix_lt (pv 2) pe_int (fun _ _ => rfl)) (fun _ _ => rfl)) (pa_cons (pe_call G_step_over hr (by rfl) g_step_over F_step_over.kp b_step_over .nil pass0 (pa_cons (pv 2) (pa_cons (pe_ix ix_lt (pv 2) pe_int (fun _ _ => rfl)) pa_nil))) pa_nil))))))) 
    (pss_cons (ps_set (i := 3) sc_ring_costs.nd rfl (Or.inl rfl) (pe_lst pa_nil)) 
    (pss_cons (ps_setLcX (ps_setLc (i := 4) (own := [("worker", 11)]) (g := gName 11) (tt := tYes) (te := tTup (tCons (tTup tNil) (tCons (tTup (tCons (tVar 11) tNil)) (tCons (tC (.int 0)) tNil)))) rfl sc_ring_costs.nd rfl rfl (sw_true rfl rfl rfl (by decide +kernel)) (pi_seq (pe_ix ix_lt (pv 0) pe_int (fun _ _ => rfl))) (blkOk_by (own := [("worker", 11)]) (N := sc_ring_costs_N) (sc := defScope s_ring_costs) (by decide +kernel)) (fun _ _ _ _ _ => pg_name (i := 11) sc_ring_costs.nd rfl (Or.inl rfl)) (fun _ _ _ _ _ => pts_nil) (fun _ _ _ _ _ => (pe_tup (pa_cons (pe_tup pa_nil) (pa_cons (pe_tup (pa_cons (pv 11) pa_nil)) (pa_cons pe_int pa_nil))))))) 
    (pss_cons (ps_whileX (ps_while PassesOwn.never (pt_cmpR op_gt (pe_callB call_len_seq (by rfl) m_len PySem.boot_len (pa_cons (pv 4) pa_nil)) pe_int (nomark _)) 
      (pss_cons (ps_asg (pe_bm0 PySem.F.plainAttrs_list PySem.F.slot_list_pop PySem.F.type_list_pop mt_pop (pv 4)) (pg_tup rfl (pgs_cons (pg_name (i := 5) sc_ring_costs.nd rfl (Or.inl rfl)) (pgs_cons (pg_name (i := 6) sc_ring_costs.nd rfl (Or.inl rfl)) (pgs_cons (pg_name (i := 7) sc_ring_costs.nd rfl (Or.inl rfl)) pgs_nil))))) 
      (pss_one (ps_forX (ps_for PassesOwn.never rfl (pi_list (pe_dget hu (pv 1) (pe_ix ix_tup (pv 6) (pe_un un_neg pe_int) (fun _ _ => rfl)) (fun _ _ => rfl))) (pg_tup rfl (pgs_cons (pg_name (i := 8) sc_ring_costs.nd rfl (Or.inl rfl)) (pgs_cons (pg_name (i := 9) sc_ring_costs.nd rfl (Or.inl rfl)) (pgs_cons (pg_name (i := 10) sc_ring_costs.nd rfl (Or.inl rfl)) pgs_nil)))) (pss_one (ps_if (pt_cmpR op_eq (pv 9) (pe_ix ix_tup (pv 6) pe_int (fun _ _ => rfl)) (nomark _)) (pss_one (ps_if (pt_cmpR op_ne (pe_ix ix_tup (pv 8) pe_int (fun _ _ => rfl)) (pe_ix ix_lt (pe_ix ix_tup (pv 5) pe_int (fun _ _ => rfl)) pe_int (fun _ _ => rfl)) (nomark _)) (pss_one (ps_expr (pe_bm PySem.F.plainAttrs_list PySem.F.slot_list_append PySem.F.type_list_append mt_append (pv 3) (pa_cons (pe_tup (pa_cons (pe_op op_catA (pv 5) (pe_tup (pa_cons (pv 8) pa_nil))) (pa_cons (pe_op op_add (pv 7) (pv 10)) pa_nil))) pa_nil)))) pss_nil)) (pss_one (ps_if (PW.pt (pw_and (pt_cmpR op_gt_str (pv 9) (pe_ix ix_tup (pv 6) pe_int (fun _ _ => rfl)) (nomark _)) (pw_and1 (pt_cmpR op_notIn_seq (pv 9) (pv 6) (by with_unfolding_all rfl))))) (pss_one (ps_expr (pe_bm PySem.F.plainAttrs_list PySem.F.slot_list_append PySem.F.type_list_append mt_append (pv 4) (pa_cons (pe_tup (pa_cons (pe_op op_catA (pv 5) (pe_tup (pa_cons (pv 8) pa_nil))) (pa_cons (pe_op op_catA (pv 6) (pe_tup (pa_cons (pv 9) pa_nil))) (pa_cons (pe_op op_add (pv 7) (pv 10)) pa_nil)))) pa_nil)))) pss_nil)))))))))) 
    (pss_one (ps_ret (pv 3)))))))), ?_⟩
    obtain ⟨a0, a1, a2, xq, rfl, N0⟩ := netAt hD
    have i0 : atI [V.ref a1, V.ref a2] 0 = some (.ref a1) := atI_nat (j := 0) rfl
    have i1 : atI [V.ref a1, V.ref a2] 1 = some (.ref a2) := atI_nat (j := 1) rfl
    have wl : (ws.map V.str).length = ws.length := List.length_map ..
    refine dc_new (fb := fb) (ks := ws) hnd wl (fun R' r => ⟨_, rfl, rIxF_at N0.h0 i0 r⟩) N0.h1 (by omega) (fun x => rfl) (fun i x z H1 Q' hx hz s1 q' => ?_) (fun x H1 Q' q' => ⟨by decide, fun l hl => q' l hl⟩) (fun M ls H1 s1 hM0 hll hlnd hMl hls hM1 => ?_)
    · rw [List.getElem?_map, hz] at hx
      cases hx
      exact ⟨_, rfl, q'⟩
    · have m0 : MvS K H M ws ls (fun w => (touchN qs w 0).map (mvD qs)) H1 := ⟨s1, hM1, fun i w l h1 h2 => ⟨[], (hls l (List.mem_of_getElem? h2)).2, .nil⟩⟩
      have hf : ∀ l ∈ ls, H l = none := fun l hl => (hls l hl).1
      have tls : ∀ {H' : Hp}, Same H1 H' → Trk ls H' := fun e a ha z => by
        rw [e _ _ (hls a ha).2] at z
        cases z
      clear hls hM1
      try dsimp only [gName, tSeq, tAsg]
      refine for_of ?_
      refine iSeq_at (fun R' r => ⟨_, rfl, rIxF_at (N0.same s1).h0 i1 r⟩) (N0.same s1).h2 fun J wk => ?_
      refine forR_it wk (fun i σ Hc => ∃ x2, σ = [some (.ref a0), some (.ref M), x2, none, none, none, none, none, none, none, none, none] ∧ Trk ls Hc ∧ MvS K H M ws ls (fun w => (touchN qs w i).map (mvD qs)) Hc) ⟨_, rfl, tls (fun _ _ e => e), m0⟩ (fun i σ Hc _ hh => ?_) (fun i v σ Hc Hc' hi hh y => ?_) (fun σ Hc hh => ?_)
      · obtain ⟨x2, rfl, tl, m⟩ := hh
        exact m.s0.sqF N0.h2
      · obtain ⟨x2, rfl, tl, m⟩ := hh
        obtain ⟨rfl, hv⟩ := y
        obtain ⟨qd, aq, hq, rfl, hs⟩ := N0.hq i v hv
        obtain ⟨hst, hen, hne⟩ := hG.q1 qd (List.mem_of_getElem? hq)
        obtain ⟨is, his, es⟩ := List.getElem_of_mem hst
        obtain ⟨ie, hie, ee⟩ := List.getElem_of_mem hen
        have gs : ws[is]? = some qd.st := by rw [List.getElem?_eq_getElem his, es]
        have ge : ws[ie]? = some qd.en := by rw [List.getElem?_eq_getElem hie, ee]
        have gls : ls[is]? = some ls[is] := List.getElem?_eq_getElem (by omega)
        have gle : ls[ie]? = some ls[ie] := List.getElem?_eq_getElem (by omega)
        generalize ls[is] = l1 at gls
        generalize ls[ie] = l2 at gle
        obtain ⟨vs1, hv1, _⟩ := m.hl is _ _ gs gls
        have hs1 := m.s0.sqF hs
        walk_at "ev"
        try dsimp only [tC, tNil]
        refine rIxF_at hs1 (atI_nat (j := 1) rfl) ?_
        refine ⟨M, _, rfl, dget_kvl hnd gs gls m.hM, ?_⟩
        refine ⟨.inl ⟨rfl, vs1, sql_of hv1⟩, ?_⟩
        walk_at "ev"
        try dsimp only [tC, tNil]
        refine rIxF_at hs1 (atI_nat (j := 1) rfl) ?_
        obtain ⟨_, _, hva1⟩ : ∃ vs, Hc' l1 = some (.lst vs) ∧ DpAll K (cutS ls Hc') vs1 ((touchN qs qd.st i).map (mvD qs)) := by
          obtain ⟨us, g1, g2⟩ := m.hl is _ _ gs gls
          rw [hv1] at g1
          cases g1
          exact ⟨_, hv1, g2⟩
        refine ⟨aq, fb, qd.nm, qd.st, qd.en, qd.room, qd.gap, qd.st, ls, rfl, hs1, tl, hne, .inl rfl, fun H2 v1 s2 d1 => ?_⟩
        rw [if_pos rfl] at d1
        have lv1 : vs1.length ≤ i := by
          rw [dpa_len hva1, List.length_map]
          exact touch_len
        have hi9 : i < 60 := by
          rw [N0.ll] at hi
          omega
        refine ⟨l1, _, _, rfl, rfl, s2 _ _ hv1, sz_lt (by omega), ?_⟩
        have m2 := (m.same s2).push hnd hlnd hMl hf gs gls (s2 _ _ hv1) ((cutS_mono s2).dpa hva1) d1
        have tl2 : Trk ls (upd H2 l1 (.lst (vs1 ++ [v1]))) := (tl.mono s2).upd
        generalize upd H2 l1 (.lst (vs1 ++ [v1])) = H3 at m2 tl2 ⊢
        obtain ⟨vs2, hv2, hva2⟩ := m2.hl ie _ _ ge gle
        rw [if_neg hne.symm] at hva2
        have lv2 : vs2.length ≤ i := by
          rw [dpa_len hva2, List.length_map]
          exact touch_len
        have hs3 := m2.s0.sqF hs
        walk_at "ev"
        try dsimp only [tC, tNil]
        refine rIxF_at hs3 (atI_nat (j := 2) rfl) ?_
        refine ⟨M, _, rfl, dget_kvl hnd ge gle m2.hM, ?_⟩
        refine ⟨.inl ⟨rfl, vs2, sql_of hv2⟩, ?_⟩
        walk_at "ev"
        try dsimp only [tC, tNil]
        refine rIxF_at hs3 (atI_nat (j := 2) rfl) ?_
        refine ⟨aq, fb, qd.nm, qd.st, qd.en, qd.room, qd.gap, qd.en, ls, rfl, hs3, tl2, hne, .inr rfl, fun H4 v2 s4 d2 => ?_⟩
        rw [if_neg hne.symm] at d2
        refine ⟨l2, _, _, rfl, rfl, s4 _ _ hv2, sz_lt (by omega), ?_⟩
        have m3 := (m2.same s4).push hnd hlnd hMl hf ge gle (s4 _ _ hv2) ((cutS_mono s4).dpa (by rw [if_neg hne.symm]; exact hva2)) d2
        have tl4 : Trk ls (upd H4 l2 (.lst (vs2 ++ [v2]))) := (tl2.mono s4).upd
        refine ⟨_, rfl, tl4, ?_⟩
        have e : (fun x => if x = qd.en then (if x = qd.st then (touchN qs x i).map (mvD qs) ++ [mvd qd.nm true qd.en qd.room] else (touchN qs x i).map (mvD qs)) ++ [mvd qd.nm false qd.st (1 - qd.gap)] else (if x = qd.st then (touchN qs x i).map (mvD qs) ++ [mvd qd.nm true qd.en qd.room] else (touchN qs x i).map (mvD qs))) = fun w => (touchN qs w (i + 1)).map (mvD qs) := by
          funext x
          rw [touch_next hq, List.map_append]
          by_cases h1 : x = qd.st
          · have h2 : ¬ x = qd.en := fun z => hne (h1.symm.trans z)
            rw [if_neg h2, if_pos h1, if_pos h1.symm, (mvd_at hq).1]
            rfl
          · by_cases h2 : x = qd.en
            · rw [if_pos h2, if_neg h1, if_neg (fun z => h1 z.symm), if_pos h2.symm, (mvd_at hq).2]
              rfl
            · rw [if_neg h2, if_neg h1, if_neg (fun z => h1 z.symm), if_neg (fun z => h2 z.symm)]
              simp
        rw [← e]
        exact m3
      · obtain ⟨x2, rfl, tl, m⟩ := hh
        rw [N0.ll] at m
        walk_at "ev"
        intro Fa hFa
        have hFM : Fa ≠ M := fun z => by
          rw [z, m.hM] at hFa
          cases hFa
        have Ns := N0.same m.s0
        have sF : Same Hc (upd Hc Fa (.lst [])) := .upd hFa
        have hF1 : (upd Hc Fa (.lst [])) Fa = some (.lst []) := upd_same
        show gName 3 (.ref Fa) _ (upd Hc Fa (.lst [])) _
        generalize upd Hc Fa (.lst []) = H2 at sF hF1 ⊢
        refine lc_dataD (fb := fb) (S := [Fa]) (ds := ws.map PyData.str) (fun d => .tuple [.tuple [], .tuple [d], .int 0]) (fun R' r => ⟨_, rfl, rIxF_at (Ns.same sF).h0 i0 r⟩) (Ns.same sF).h1 dpa_strs (Trk.cons Trk.nil hF1) (by rw [List.length_map]; omega) (fun x => rfl) (fun x d H3 T hd t1 hx Q' q' => ?_) (fun Oa ys H3 s3 hO0 h3 h4 => ?_)
        · obtain ⟨z, _, rfl⟩ := List.mem_map.mp hd
          cases hx
          refine ⟨by decide, fun p1 h1 => ?_⟩
          refine ⟨_, rfl, ?_⟩
          refine ⟨by show 1 ≤ sizeLine; decide, fun p2 h2 => ?_⟩
          refine ⟨by show 3 ≤ sizeLine; decide, fun p3 h3 => ?_⟩
          refine q' _ _ ((Same.upd h1).trans ((Same.upd h2).trans (.upd h3))) ?_
          have t2 := t1.mono (Same.upd (o := .tup []) h1)
          have t3 := t2.mono (Same.upd (o := .tup [.str z]) h2)
          exact dp_tup t3 h3 (.cons ((cutS_mono (.upd h2)).dp (dp_tup t1 h1 .nil)) (.cons (dp_tup t2 h2 (.cons (.str z) .nil)) (.cons (.int 0) .nil)))
        · have hOM : Oa ≠ Fa := fun z => by
            rw [z, hF1] at hO0
            cases hO0
          have hO0c : Hc Oa = none := sF.free hO0
          have e4 : (ws.map PyData.str).map (fun d => PyData.tuple [.tuple [], .tuple [d], .int 0]) = (startP ws).2.map (gsD qs) := by
            unfold startP
            rw [List.map_map, List.map_map]
            exact List.map_congr_left fun _ _ => rfl
          rw [e4] at h4
          have hFO : Fa ≠ Oa := hOM.symm
          have hFc := hFa
          have w0 : W2 K Hc Fa Oa H3 [] ys ((startP ws).1.map (fndD qs)) ((startP ws).2.map (gsD qs)) :=
            ⟨s3 _ _ hF1, h3, .nil, (cutS_sub (S := [Oa, Fa]) (T := [Fa, Oa]) fun a ha => by
              rcases List.mem_cons.mp ha with e | e
              · rw [e]; exact List.mem_cons_of_mem _ List.mem_cons_self
              · rw [List.mem_singleton.mp e]; exact List.mem_cons_self).dpa h4, fun b o hb => by
              rw [cutS_out (not2 (ne_of_none hb hFc) (ne_of_none hb hO0c))]
              exact s3 _ _ (sF _ _ hb)⟩
          have hst : InvP ws qs (startP ws) := start_ok
          clear h3 h4 e4 s3 hF1 hO0 sF hFa H2
          try dsimp only [gName, tSeq, tAsg]
          refine .yes ⟨fun n σ H4 => ∃ (f : List (List Mk)) (o : List Gs) (fv ov : List V) (y2 y5 y6 y7 y8 y9 y10 y11 : Option V), n = Phi (dgr qs) ws.length (f, o) ∧ σ = [some (.ref a0), some (.ref M), y2, some (.ref Fa), some (.ref Oa), y5, y6, y7, y8, y9, y10, y11] ∧ W2 K Hc Fa Oa H4 fv ov (f.map (fndD qs)) (o.map (gsD qs)) ∧ InvP ws qs (f, o) ∧ Rn qs (f, o) g ∧ n ≤ 3200000,
            ⟨_, (startP ws).1, (startP ws).2, [], ys, _, _, _, _, _, _, _, _, rfl, rfl, w0, hst, hRn, start_phi hsm⟩, fun n σ H4 hW => ?_⟩
          obtain ⟨f, o, fv, ov, y2, y5, y6, y7, y8, y9, y10, y11, rfl, rfl, w1, hI, hR, hn⟩ := hW
          have lo := dpa_len w1.dO
          rw [List.length_map] at lo
          walk_at "ev"
          refine ⟨Oa, ov, rfl, .inl (sql_of w1.hO), ?_⟩
          walk_at "ev"
          rcases List.eq_nil_or_concat o with e | ⟨o', a, e⟩
          · subst e
            have l0 : ov.length = 0 := lo
            rw [decide_eq_false (show ¬ (0 : Int) < (ov.length : Nat) by omega)]
            refine iteF ?_
            walk_at "ev"
            have eg : g = f := hR.inv0 rfl
            subst eg
            refine q H4 Fa fv (m.s0.trans (w1.hS.trans cutS_le)) (m.s0.free hFc) w1.hF ?_
            exact (cutS_sub fun b hb => by rw [List.mem_singleton.mp hb]; exact List.mem_cons_self).dpa w1.dF
          · rw [List.concat_eq_append] at e
            subst e
            rw [List.length_append, List.length_singleton] at lo
            rw [decide_eq_true (show (0 : Int) < (ov.length : Nat) by omega)]
            refine iteT ?_
            refine ⟨fun σ' H' => ∃ m', m' < Phi (dgr qs) ws.length (f, o' ++ [a]) ∧ ∃ (f : List (List Mk)) (o : List Gs) (fv ov : List V) (y2 y5 y6 y7 y8 y9 y10 y11 : Option V), m' = Phi (dgr qs) ws.length (f, o) ∧ σ' = [some (.ref a0), some (.ref M), y2, some (.ref Fa), some (.ref Oa), y5, y6, y7, y8, y9, y10, y11] ∧ W2 K Hc Fa Oa H' fv ov (f.map (fndD qs)) (o.map (gsD qs)) ∧ InvP ws qs (f, o) ∧ Rn qs (f, o) g ∧ m' ≤ 3200000, fun σ' H' h => h, ?_⟩
            obtain ⟨hI2, hPhi⟩ := stp_ok hG hI
            have hR2 := hR.inv1 rfl
            have Ia := hI.op a (List.mem_append_right _ List.mem_cons_self)
            rcases List.eq_nil_or_concat ov with e | ⟨ov', t, e⟩
            · rw [e] at lo
              simp at lo
            · rw [List.concat_eq_append] at e
              subst e
              have hdO := w1.dO
              rw [List.map_append] at hdO
              obtain ⟨hdO', hdt⟩ := dpa_snoc hdO
              walk_at "ev"
              refine ⟨.inl ⟨rfl, _, sql_of w1.hO⟩, ?_⟩
              refine ⟨Oa, _, t, rfl, rfl, w1.hO, by simp, ?_⟩
              rw [List.dropLast_concat]
              have w2 := w1.setO hFO hdO'
              have hdt2 : Dp K (cutS [Fa, Oa] (upd H4 Oa (.lst ov'))) t (gsD qs a) := by rw [cut_upd2.2]; exact hdt
              generalize upd H4 Oa (.lst ov') = H5 at w2 hdt2 ⊢
              obtain ⟨ta, xt, rfl, hta, hxt⟩ := Dp.seq_of (f := true) hdt2
              cases hxt with
              | cons k1 hxt =>
                cases hxt with
                | cons k2 hxt =>
                  cases hxt with
                  | cons k3 hxt =>
                    cases hxt
                    cases k3
                    rename_i vst vmt
                    obtain ⟨mm, xm, rfl, hmm, hxm⟩ := Dp.seq_of (f := true) k2
                    have hmm : SqT K (cutS [Fa, Oa] H5) mm xm := hmm
                    have exm := dpa_strs_of hxm
                    subst exm
                    refine ⟨ta, _, rfl, cutS_le.sqT hta, rfl, ?_⟩
                    refine ⟨_, _, rfl, ?_⟩
                    refine ⟨_, _, rfl, ?_⟩
                    refine ⟨_, _, rfl, rfl, ?_⟩
                    try dsimp only [gName, tSeq, tAsg]
                    refine for_of ?_
                    have hls := met_ls Ia.ll
                    have hhd := met_hd Ia.ll
                    have hall := Ia.ll
                    have hlw : lsG a ∈ ws := Ia.sub _ (List.mem_of_getElem? hls)
                    obtain ⟨iw, hiw, ew⟩ := List.getElem_of_mem hlw
                    have gw : ws[iw]? = some (lsG a) := by rw [List.getElem?_eq_getElem hiw, ew]
                    have glw : ls[iw]? = some ls[iw] := List.getElem?_eq_getElem (by omega)
                    generalize ls[iw] = lw at glw
                    obtain ⟨vw, hvw, hvwa⟩ := m.hl iw _ _ gw glw
                    have S5 : Same Hc H5 := w2.hS.trans cutS_le
                    walk_at "ev"
                    try dsimp only [tC, tNil]
                    refine ⟨mm, _, _, .str (lsG a), rfl, rfl, cutS_le.sqT hmm, atI_end (by rw [List.length_map]; omega) (by rw [List.length_map, show a.met.length - 1 = a.row.length by omega, List.getElem?_map, hls]; rfl), ?_⟩
                    refine ⟨M, _, rfl, dget_kvl hnd gw glw (S5 _ _ m.hM), ?_⟩
                    refine ⟨lw, rfl, ⟨vw, sql_of (S5 _ _ hvw)⟩, ?_⟩
                    have lvw : vw.length = (touchN qs (lsG a) qs.length).length := by rw [dpa_len hvwa, List.length_map]
                    refine forR_it (walk_list (K := K) (a := lw) (xs := vw)) (fun k σ H6 => ∃ (fv ov : List V) (y8 y9 y10 : Option V), σ = [some (.ref a0), some (.ref M), y2, some (.ref Fa), some (.ref Oa), some vst, some (.ref mm), some (.int (costQ qs a.row)), y8, y9, y10, y11] ∧
                      W2 K Hc Fa Oa H6 fv ov ((((touchN qs (lsG a) qs.length).take k).foldl (one qs a) (f, o')).1.map (fndD qs)) ((((touchN qs (lsG a) qs.length).take k).foldl (one qs a) (f, o')).2.map (gsD qs)) ∧ Same (cutS [Fa, Oa] H5) (cutS [Fa, Oa] H6))
                      ⟨fv, ov', _, _, _, rfl, w2, fun _ _ e => e⟩ (fun k σ H6 _ hh => ?_) (fun k v σ H6 H6' hk hh y => ?_) (fun σ H6 hh => ?_)
                    · obtain ⟨_, _, _, _, _, _, w3, _⟩ := hh
                      exact sql_of ((w3.hS.trans cutS_le) _ _ hvw)
                    · obtain ⟨fv3, ov3, y8, y9, y10, rfl, w3, e3⟩ := hh
                      obtain ⟨rfl, hv⟩ := y
                      obtain ⟨dm, hdm, hvm⟩ := dpa_get hvwa hv
                      have hmk : (touchN qs (lsG a) qs.length)[k]? = some (touchN qs (lsG a) qs.length)[k] := List.getElem?_eq_getElem (by omega)
                      have hmm2 : (touchN qs (lsG a) qs.length)[k] ∈ touchN qs (lsG a) qs.length := List.getElem_mem _
                      generalize (touchN qs (lsG a) qs.length)[k] = mk at hmk hmm2
                      rw [List.getElem?_map, hmk] at hdm
                      cases hdm
                      rw [List.take_add_one, hmk, Option.toList_some, List.foldl_append, List.foldl_cons, List.foldl_nil]
                      have hFold := (fold_ok (k := qs.length) hG Ia ((touchN qs (lsG a) qs.length).take k) (f, o') (fun x hx => List.mem_of_mem_take hx) ⟨fun b hb => hI.op b (List.mem_append_left _ hb), hI.fd⟩)
                      have hpb := take_phi k hG hI
                      generalize ((touchN qs (lsG a) qs.length).take k).foldl (one qs a) (f, o') = p at w3 hFold hpb ⊢
                      have hlen := len_phi (dgr_pos (qs := qs)) ws.length p
                      have lf3 : fv3.length < 4000000 := by rw [dpa_len w3.dF, List.length_map]; omega
                      have lo3 : ov3.length < 4000000 := by rw [dpa_len w3.dO, List.length_map]; omega
                      have hv6 : Dp K (cutS [Fa, Oa] H6') v (mvD qs mk) := w3.hS.dp (cutS_le.dp hvm)
                      have tr := w3.trk
                      obtain ⟨tm, xtm, rfl, htm, hxtm⟩ := Dp.seq_of (f := true) hv6
                      cases hxtm with
                      | cons j1 hxtm =>
                        cases hxtm with
                        | cons j2 hxtm =>
                          cases hxtm with
                          | cons j3 hxtm =>
                            cases hxtm
                            cases j2
                            cases j3
                            rename_i vs8
                            have hmm6 := e3.sqT hmm
                            have hst6 := e3.dp k1
                            refine ⟨tm, _, rfl, cutS_le.sqT htm, rfl, ?_⟩
                            refine ⟨_, _, rfl, ?_⟩
                            refine ⟨_, _, rfl, ?_⟩
                            refine ⟨_, _, rfl, rfl, ?_⟩
                            walk_at "ev"
                            try dsimp only [tC, tNil]
                            refine ⟨mm, _, _, .str (hdG a), rfl, rfl, cutS_le.sqT hmm6, atI_nat (j := 0) (by rw [List.getElem?_map, hhd]; rfl), ?_⟩
                            walk_at "ev"
                            have ed : ∀ x y : Str, decide (V.str x = V.str y) = decide (x = y) := fun x y => decide_eq_decide.mpr ⟨V.str.inj, congrArg _⟩
                            rw [ed]
                            by_cases h1 : far qs mk = hdG a
                            · rw [decide_eq_true h1]
                              refine iteT ?_
                              obtain ⟨ts, xs, rfl, hts, hxs⟩ := Dp.seq_of (f := true) j1
                              obtain ⟨tst, xst, rfl, htst, hxst⟩ := Dp.seq_of (f := true) hst6
                              have hts : SqT K (cutS [Fa, Oa] H6') ts xs := hts
                              have htst : SqT K (cutS [Fa, Oa] H6') tst xst := htst
                              have hne := row_ne hG Ia hmm2 h1
                              obtain ⟨m0, hm0⟩ : ∃ m0, a.row[0]? = some m0 := by
                                cases hr0 : a.row with
                                | nil => exact absurd hr0 hne
                                | cons x l => exact ⟨x, rfl⟩
                              have hrf := row_first hG Ia hmm2 h1 hm0
                              obtain ⟨v0, hv0, hd0⟩ := dpa_get' hxst (i := 0) (d := stD qs m0) (by rw [List.getElem?_map, hm0]; rfl)
                              obtain ⟨t0, xs0, rfl, ht0, hx0⟩ := Dp.seq_of (f := true) hd0
                              cases hxs with
                              | cons q1 hxs =>
                                cases hxs with
                                | cons q2 hxs =>
                                  cases hxs
                                  cases q1
                                  cases q2
                                  cases hx0 with
                                  | cons r1 hx0 =>
                                    cases r1
                                    walk_at "ev"
                                    try dsimp only [tC, tNil]
                                    refine ⟨ts, _, _, _, rfl, rfl, cutS_le.sqT hts, atI_nat (j := 0) rfl, ?_⟩
                                    walk_at "ev"
                                    try dsimp only [tC, tNil]
                                    refine ⟨tst, _, _, _, rfl, rfl, cutS_le.sqT htst, atI_nat (j := 0) hv0, ?_⟩
                                    refine rIxF_at (f := true) (cutS_le.sqF ht0) (atI_nat (j := 0) rfl) ?_
                                    have lm := link_lt (touch_link hmm2)
                                    have lm0 := row_lt Ia m0 (List.mem_of_getElem? hm0)
                                    have hni := nm_inj hG lm lm0
                                    walk_at "ev"
                                    rw [ed]
                                    by_cases h2 : mk.1 = m0.1
                                    · have eone : one qs a p mk = p := by
                                        unfold one
                                        rw [if_pos h1, if_neg (fun z => hrf.mp z.2 h2)]
                                      rw [decide_eq_true (hni.mpr h2)]
                                      refine iteF ?_
                                      exact ⟨fv3, ov3, _, _, _, rfl, by rw [eone]; exact w3, e3⟩
                                    · have eone : one qs a p mk = (p.1 ++ [a.row ++ [mk]], p.2) := by
                                        unfold one
                                        rw [if_pos h1, if_pos ⟨hne, hrf.mpr h2⟩]
                                      rw [decide_eq_false (fun z => h2 (hni.mp z))]
                                      refine iteT ?_
                                      walk_at "ev"
                                      refine ⟨.inl ⟨rfl, _, sql_of w3.hF⟩, ?_⟩
                                      have hic : IsC K [Fa, Oa] H6' (tTup (tCons (tOp (rCatA K) (tVar 5) (tTup (tCons (tVar 8) tNil))) (tCons (tOp (rI0 fun i j => .int (i + j)) (tVar 7) (tVar 10)) tNil))) (fndD qs (a.row ++ [mk])) [some (.ref a0), some (.ref M), y2, some (.ref Fa), some (.ref Oa), some (.ref tst), some (.ref mm), some (.int (costQ qs a.row)), some (.ref ts), some (.str (far qs mk)), some (.int (prQ qs mk)), y11] := by
                                        unfold fndD
                                        rw [stepsD_push, costQ_push]
                                        exact ic_tup (ac_cons (ic_catT (ic_var rfl hst6) (ic_tup (ac_cons (ic_var rfl j1) ac_nil) (by show 1 ≤ 1000; decide)) (by rw [List.length_map]; show a.row.length + 1 ≤ 1000; have := inv_len Ia; omega)) (ac_cons (ic_add (ic_var rfl (.int _)) (ic_var rfl (.int _))) ac_nil)) (by show 2 ≤ 1000; decide)
                                      refine hic H6' _ (fun _ _ e => e) tr fun H7 tv s7 d7 => ?_
                                      try dsimp only [tNil]
                                      refine ⟨Fa, _, _, rfl, rfl, s7 _ _ w3.hF, szL (by omega), ?_⟩
                                      have w7 := (w3.same s7).pushF hFO d7
                                      refine ⟨_, ov3, _, _, _, rfl, by rw [eone, List.map_append]; exact w7, e3.trans ((cutS_mono s7).trans (by rw [cut_upd2.1]; exact fun _ _ e => e))⟩
                            · rw [decide_eq_false h1]
                              refine iteF ?_
                              walk_at "ev"
                              try dsimp only [tC, tNil]
                              refine ⟨mm, _, _, .str (hdG a), rfl, rfl, cutS_le.sqT hmm6, atI_nat (j := 0) (by rw [List.getElem?_map, hhd]; rfl), ?_⟩
                              refine ⟨_, _, rfl, rfl, ?_⟩
                              refine ⟨_, rfl, ?_⟩
                              have eg : decide ((hdG a).cps.toList < (far qs mk).cps.toList) = gtS (far qs mk) (hdG a) := rfl
                              rw [eg]
                              cases hgt : gtS (far qs mk) (hdG a) with
                              | false =>
                                have eone : one qs a p mk = p := by
                                  unfold one
                                  rw [if_neg h1, if_neg (fun z => by rw [hgt] at z; exact Bool.false_ne_true z.1)]
                                refine iteF (iteF ?_)
                                exact ⟨fv3, ov3, _, _, _, rfl, by rw [eone]; exact w3, e3⟩
                              | true =>
                                refine iteT ?_
                                walk_at "ev"
                                try dsimp only [tC, tNil]
                                refine ⟨mm, _, rfl, .inr (cutS_le.sqT hmm6), rfl, ?_, ?_⟩
                                · rw [List.all_map, List.all_eq_true]
                                  exact fun _ _ => rfl
                                · refine ⟨_, rfl, ?_⟩
                                  rw [in_strs]
                                  by_cases h3 : far qs mk ∈ a.met
                                  · have eone : one qs a p mk = p := by
                                      unfold one
                                      rw [if_neg h1, if_neg (fun z => z.2 h3)]
                                    rw [decide_eq_true h3]
                                    refine iteF ?_
                                    exact ⟨fv3, ov3, _, _, _, rfl, by rw [eone]; exact w3, e3⟩
                                  · have eone : one qs a p mk = (p.1, p.2 ++ [⟨a.row ++ [mk], a.met ++ [far qs mk]⟩]) := by
                                      unfold one
                                      rw [if_neg h1, if_pos ⟨hgt, h3⟩]
                                    rw [decide_eq_false h3]
                                    refine iteT ?_
                                    walk_at "ev"
                                    refine ⟨.inl ⟨rfl, _, sql_of w3.hO⟩, ?_⟩
                                    have hme : Dp K (cutS [Fa, Oa] H6') (.ref mm) (.tuple (a.met.map PyData.str)) := .tup hmm6 dpa_strs
                                    have hic : IsC K [Fa, Oa] H6' (tTup (tCons (tOp (rCatA K) (tVar 5) (tTup (tCons (tVar 8) tNil))) (tCons (tOp (rCatA K) (tVar 6) (tTup (tCons (tVar 9) tNil))) (tCons (tOp (rI0 fun i j => .int (i + j)) (tVar 7) (tVar 10)) tNil)))) (gsD qs ⟨a.row ++ [mk], a.met ++ [far qs mk]⟩) [some (.ref a0), some (.ref M), y2, some (.ref Fa), some (.ref Oa), some vst, some (.ref mm), some (.int (costQ qs a.row)), some vs8, some (.str (far qs mk)), some (.int (prQ qs mk)), y11] := by
                                      unfold gsD
                                      rw [costQ_push, List.map_append]
                                      have hst7 : Dp K (cutS [Fa, Oa] H6') vst (.tuple (a.row.map (stD qs))) := hst6
                                      rw [show stepsD qs (a.row ++ [mk]) = .tuple (a.row.map (stD qs) ++ [stD qs mk]) from stepsD_push]
                                      have li := inv_len Ia
                                      exact ic_tup (ac_cons (ic_catT (ic_var rfl hst7) (ic_tup (ac_cons (ic_var rfl j1) ac_nil) (by show 1 ≤ 1000; decide)) (by rw [List.length_map]; show a.row.length + 1 ≤ 1000; omega))
                                        (ac_cons (ic_catT (ic_var rfl hme) (ic_tup (ac_cons (ic_var rfl (.str _)) ac_nil) (by show 1 ≤ 1000; decide)) (by rw [List.length_map]; show a.met.length + 1 ≤ 1000; omega)) (ac_cons (ic_add (ic_var rfl (.int _)) (ic_var rfl (.int _))) ac_nil))) (by show 3 ≤ 1000; decide)
                                    refine hic H6' _ (fun _ _ e => e) tr fun H7 tv s7 d7 => ?_
                                    try dsimp only [tNil]
                                    refine ⟨Oa, _, _, rfl, rfl, s7 _ _ w3.hO, szL (by omega), ?_⟩
                                    have w7 := (w3.same s7).setO hFO (dpa_app (w3.same s7).dO (dpa_one d7))
                                    refine ⟨fv3, _, _, _, _, rfl, by rw [eone, List.map_append]; exact w7, e3.trans ((cutS_mono s7).trans (by rw [cut_upd2.2]; exact fun _ _ e => e))⟩
                    · obtain ⟨fv3, ov3, y8, y9, y10, rfl, w3, e3⟩ := hh
                      rw [lvw, List.take_length] at w3
                      exact ⟨_, hPhi, (stp qs f o' a).1, (stp qs f o' a).2, fv3, ov3, _, _, _, _, _, _, _, _, rfl, rfl, w3, hI2, hR2, by have : Phi (dgr qs) ws.length ((stp qs f o' a).1, (stp qs f o' a).2) = Phi (dgr qs) ws.length (stp qs f o' a) := rfl; omega⟩
end
end Jl

set_option Elab.async false
set_option linter.all false
set_option maxRecDepth 100000
set_option maxHeartbeats 1000000
set_option pp.maxSteps 300
namespace Jl
open PySem PySem.Spec PyProof.Rows L2
open Evl (sz_of sz_lt)
local macro_rules | `(tactic| walk_at "at") => `(tactic| first | exact box0 | exact box1 | exact box2)
local macro_rules | `(tactic| walk_at "sq") => `(tactic| first | (show SqL _ _ _ _; assumption) | (show SqT _ _ _ _; assumption) | (show _ = some _; assumption))
local macro_rules | `(tactic| walk_at "side") => `(tactic| first
  | (show (0 : Int) < _; decide)
  | (show (0 : Int) < _; omega)
  | exact ⟨by decide, by decide, by decide⟩
  | exact sz_of (Nat.le_of_ble_eq_true rfl)
  | exact rfl
  | exact Or.inl (by decide)
  | exact Or.inr (by decide)
  | exact Or.inr ⟨by omega, by omega⟩
  | exact Or.inl ⟨by omega, by omega⟩
  | exact ⟨by decide, by decide +kernel⟩)
local macro_rules | `(tactic| walk_at "ev1") => `(tactic| first
  | refine ⟨_, rfl, ?_⟩
  | refine ⟨_, _, rfl, rfl, ?_⟩
  | refine ⟨_, _, _, _, rfl, rfl, (by walk_at "sq"), (by walk_at "at"), ?_⟩
  | refine ⟨_, _, rfl, (by walk_at "sq"), ?_⟩
  | refine ⟨_, _, rfl, Or.inl (by walk_at "sq"), ?_⟩
  | refine ⟨_, _, rfl, Or.inr (by walk_at "sq"), ?_⟩
  | refine Or.inl ⟨_, rfl, ?_⟩
  | refine Or.inr ⟨_, rfl, ?_⟩
  | refine ⟨(by walk_at "side"), ?_⟩
  | refine ⟨.inl ⟨rfl, _, (by walk_at "sq")⟩, ?_⟩
  | refine ⟨_, _, rfl, ?_⟩)
local macro_rules | `(tactic| walk_at "nrm") => `(tactic| dsimp only [tNil, tCons, tC, tCB])
local macro_rules | `(tactic| walk_at "ev") => `(tactic| repeat (walk_at "ev1"))

abbrev sc_slack_N : List Str := ["net", "_", "cost"]
abbrev s_slack : Stmt := topS 14
theorem sc_slack : FnScope ["net", "_", "cost"] ["net"] (defScope s_slack) := ⟨rfl, rfl, rfl, by decide +kernel, rfl, by decide +kernel, by decide +kernel⟩
/-- a comprehension over pairs -/
theorem lc_pair {K : PySem.W.Frag} {wi : TI} {te : TE} {j1 j2 : Nat} {vs : List Nat} {σ : L2.St} {H : Hp} {Q : VK} {S : Addr → List Addr} {α : Type} (Pa : Addr → List V → Hp → Prop) (zs : List α) (f g h : α → PyData)
    (hgo : ∀ R : It → Hp → Prop, (∀ a xs H0, Pa a xs H0 → ∀ J, Walk J xs.length (fun H => SqF false K H a xs) (YAt xs) → R J H0) → wi σ H R)
    (hs : ∀ a xs H0, Pa a xs H0 → SqF false K H0 a xs ∧ DpAll K (cutS (S a) H0) xs (zs.map fun z => .tuple [f z, g z]) ∧ Trk (S a) H0) (hl : zs.length ≤ 4000000)
    (hw : ∀ x y, wipe (((wipe σ vs).set j1 (some x)).set j2 (some y)) vs = wipe σ vs)
    (he : ∀ (x y : V) (z : α) (H1 : Hp) (T : List Addr), z ∈ zs → Trk T H1 → Dp K (cutS T H1) x (f z) → Dp K (cutS T H1) y (g z) → ∀ Q' : VK, (∀ H2 u, Same H1 H2 → Dp K (cutS T H2) u (h z) → Q' u H2) → te (((wipe σ vs).set j1 (some x)).set j2 (some y)) H1 Q')
    (q : ∀ a xs H0, Pa a xs H0 → ∀ D ys H', Same H0 H' → H0 D = none → H' D = some (.lst ys) → DpAll K (cutS (D :: S a) H') ys (zs.map h) → Q (.ref D) H') : tLcX wi (gTup K 2 (gCons (gName j1) (gCons (gName j2) gNil))) tYes te vs σ H Q := by
  refine lc_of (hgo _ fun a xs H0 hP J w => ?_)
  obtain ⟨hs, ha, hT⟩ := hs a xs H0 hP
  replace q := q a xs H0 hP
  generalize S a = S at ha hT q
  have ll := dpa_len ha
  rw [List.length_map] at ll
  refine fun D hD => ?_
  refine lc_it w (fun i H1 => ∃ ys, Same H0 H1 ∧ H1 D = some (.lst ys) ∧ DpAll K (cutS (D :: S) H1) ys ((zs.take i).map h)) ⟨[], .upd hD, upd_same, .nil⟩ (fun i H1 _ p => ?_) (fun i x H1 H1' hi p y => ?_) (fun H1 p => ?_)
  · obtain ⟨ys, e1, _⟩ := p
    exact e1.sqF hs
  · obtain ⟨ys, e1, e2, e3⟩ := p
    obtain ⟨rfl, hx⟩ := y
    obtain ⟨d, hd, hxd⟩ := dpa_get ha hx
    rw [List.getElem?_map] at hd
    cases hz : zs[i]? with
    | none =>
      rw [hz] at hd
      cases hd
    | some z =>
      rw [hz] at hd
      cases hd
      have s3 : Same (cutS S H0) (cutS (D :: S) H1') := cutS_into e1 hD
      have hxd1 := s3.dp hxd
      obtain ⟨t, xt, rfl, hts, hta⟩ := Dp.seq_of (f := true) hxd1
      cases hta with
      | cons k1 hta =>
        cases hta with
        | cons k2 hta =>
          cases hta
          refine ⟨t, _, rfl, cutS_le.sqT hts, rfl, _, _, rfl, _, _, rfl, rfl, hw _ _, ?_⟩
          dsimp only [tYes]
          rw [if_pos rfl]
          refine he _ _ z H1' (D :: S) (List.mem_of_getElem? hz) ((hT.mono e1).cons e2) k1 k2 _ fun H2 u s2 hy => ?_
          refine ⟨ys, s2 _ _ e2, ?_, ys ++ [u], ?_, upd_same, ?_⟩
          · have := dpa_len e3
            rw [this, List.length_map, List.length_take]
            exact szL (by omega)
          · exact (e1.trans s2).mut hD
          · rw [cutS_upd List.mem_cons_self, List.take_add_one, hz, List.map_append]
            exact dpa_app ((cutS_mono s2).dpa e3) (dpa_one hy)
  · obtain ⟨ys, e1, e2, e3⟩ := p
    refine q D ys H1 e1 hD e2 ?_
    have e4 : (zs.take xs.length).map h = zs.map h := by rw [List.take_of_length_le (by omega)]
    rw [e4] at e3
    exact e3
def sortD (ds : List PyData) : List PyData := ds.mergeSort (PySem.W.dataLe false fun d => d)
def ringsD (qs : List QD) (g : List (List Mk)) : List PyData := sortD (g.map (stepsD qs))
theorem sort_data {bs : List (V × PyData)} : ((bs.mergeSort (PySem.W.dataLe false (·.2))).map (·.2)) = sortD (bs.map (·.2)) := by
  unfold sortD
  exact List.map_mergeSort (r := PySem.W.dataLe false (·.2)) (s := PySem.W.dataLe false fun d => d) (f := fun b : V × PyData => b.2) (l := bs) (fun a _ b _ => by
    rw [PySem.W.dataLe_eq, PySem.W.dataLe_eq])
theorem dpa_of_all {K : PySem.W.Frag} {H : Hp} : ∀ {bs : List (V × PyData)}, (∀ b ∈ bs, Dp K H b.1 b.2) → DpAll K H (bs.map (·.1)) (bs.map (·.2))
  | [], _ => .nil
  | b :: bs, h => .cons (h b List.mem_cons_self) (dpa_of_all fun x hx => h x (List.mem_cons_of_mem _ hx))
theorem all_of_dpa {K : PySem.W.Frag} {H : Hp} : ∀ {vs : List V} {ds : List PyData}, DpAll K H vs ds → ∀ b ∈ vs.zip ds, Dp K H b.1 b.2
  | _, _, .nil, b, hb => absurd hb List.not_mem_nil
  | _, _, .cons h1 h2, b, hb => by
    rcases List.mem_cons.mp hb with e | hb
    · rw [e]
      exact h1
    · exact all_of_dpa h2 b hb
theorem zip_fst {vs : List V} {ds : List PyData} (h : vs.length = ds.length) : (vs.zip ds).map (·.1) = vs := List.map_fst_zip (Nat.le_of_eq h)
theorem zip_snd {vs : List V} {ds : List PyData} (h : vs.length = ds.length) : (vs.zip ds).map (·.2) = ds := List.map_snd_zip (Nat.le_of_eq h.symm)
theorem alike_st {qs : List QD} : ∀ r r' : List Mk, PySem.W.alikeAll (r.map (stD qs)) (r'.map (stD qs)) = true
  | [], _ => by simp [PySem.W.alikeAll]
  | _ :: _, [] => by simp [PySem.W.alikeAll]
  | m :: r, m' :: r' => by
    rw [List.map_cons, List.map_cons]
    simp only [PySem.W.alikeAll, Bool.and_eq_true]
    exact ⟨by simp [stD, PySem.W.alike, PySem.W.alikeAll], alike_st r r'⟩
theorem steps_alike {qs : List QD} {g : List (List Mk)} : PySem.W.AllAlike (g.map (stepsD qs)) := fun d hd d' hd' => by
  obtain ⟨r, _, rfl⟩ := List.mem_map.mp hd
  obtain ⟨r', _, rfl⟩ := List.mem_map.mp hd'
  simp only [stepsD, PySem.W.alike]
  exact alike_st r r'
theorem steps_sortable {qs : List QD} {g : List (List Mk)} (h : ∀ r ∈ g, r ≠ []) : PySem.W.Sortable (g.map (stepsD qs)) := .inl fun d hd => by
  obtain ⟨r, hr, rfl⟩ := List.mem_map.mp hd
  cases r with
  | nil => exact absurd rfl (h _ hr)
  | cons m r => exact ⟨_, _, rfl⟩
theorem steps_depth {qs : List QD} {r : List Mk} : (stepsD qs r).depth ≤ 2 := dep_seq (f := true) (n := 1) fun d hd => by
  obtain ⟨m, _, rfl⟩ := List.mem_map.mp hd
  exact dep_seq (f := true) (n := 0) fun d hd => by
    rcases mem2 hd with rfl | rfl <;> simp [PyData.depth]
theorem dpa_ints_of {K : PySem.W.Frag} {H : Hp} : ∀ {is : List Int} {vs : List V}, DpAll K H vs (is.map PyData.int) → vs = is.map V.int
  | [], _, h => by
    cases h
    rfl
  | i :: is, _, h => by
    cases h with
    | cons h1 h2 =>
      cases h1
      rw [dpa_ints_of h2]
      rfl
def minV : List Int → V
  | [] => .non
  | n :: ms => .int (ms.foldl min n)
/-- what rings and slack are asked of -/
structure NetR (ws : List Str) (qs : List QD) (g : List (List Mk)) : Prop where
  nd : ws.Nodup
  ng : NetG ws qs
  w6 : ws.length ≤ 40
  sm : Small ws qs
  q6 : qs.length ≤ 60
  rn : Rn qs (startP ws) g
theorem NetR.rows {ws : List Str} {qs : List QD} {g : List (List Mk)} (n : NetR ws qs g) : (∀ r ∈ g, r ≠ [] ∧ r.length ≤ 40 ∧ ∀ m ∈ r, m.1 < qs.length) ∧ g.length ≤ 3200000 := by
  obtain ⟨h1, h2⟩ := n.rn.rows n.ng start_ok
  have := start_phi n.sm
  exact ⟨fun r hr => ⟨(h1.fd r hr).1, Nat.le_trans (h1.fd r hr).2.1 n.w6, (h1.fd r hr).2.2⟩, by omega⟩
section
variable {P : Program} {w : World} {K : PySem.W.Frag} {mg : Str → Option Value} {base : Heap}
def spRings (K : PySem.W.Frag) : Sp := fun vs H Q _ => ∃ (v : V) (fb : Bool) (ws : List Str) (qs : List QD) (g : List (List Mk)), vs = [v] ∧ Dp K H v (netD fb ws qs) ∧ NetR ws qs g ∧
  ∀ H' l ys, Same H H' → H l = none → H' l = some (.lst ys) → DpAll K (cutS [l] H') ys (ringsD qs g) → Q (.ref l) H'
def spSlack (K : PySem.W.Frag) : Sp := fun vs H Q _ => ∃ (v : V) (fb : Bool) (ws : List Str) (qs : List QD) (g : List (List Mk)), vs = [v] ∧ Dp K H v (netD fb ws qs) ∧ NetR ws qs g ∧ ∀ H', Same H H' → Q (minV (g.map (costQ qs))) H'
theorem ok_slack {f fR : Addr} {fd fdR : FuncData} {k : Nat} (F : Fun K "slack" "slack" s_slack f fd)
    (G_ring_costs : FnOk P w K mg base CX0 k fR fdR ["net"] (spRC K)) (g_ring_costs : mg "ring_costs" = some (.ref fR)) (F_ring_costs : Fun K "ring_costs" "ring_costs" s_ring_costs fR fdR) (b_ring_costs : Binds K fdR ["net"] [])
    (m_min : mg "min" = none) : FnOk P w K mg base CX0 (k + 1) f fd ["net"] (spSlack K) := by
  refine F.ok sc_slack (fun vs H Q E h => ?_) (fun cdv A outer s0 H vs Q E hr h => ?_)
  · obtain ⟨v, fb, ws, qs, g, rfl, _⟩ := h
    rfl
  · obtain ⟨v, fb, ws, qs, g, rfl, hD, hR, q⟩ := h
    refine ⟨_, (pss_one (ps_ret (pe_callBK (ck_minN rfl hr.units) (by rfl) m_min (by decide +kernel) (pa_cons (pe_lcX (pe_lc (own := [("_", 1), ("cost", 2)]) (g := gTup K 2 (gCons (gName 1) (gCons (gName 2) gNil))) (tt := tYes) (te := tVar 2) (by rfl) sc_slack.nd (pi_seq (pe_call G_ring_costs hr (by rfl) g_ring_costs F_ring_costs.kp b_ring_costs .nil pass0 (pa_cons (pv 0) pa_nil))) (blkOk_by (own := [("_", 1), ("cost", 2)]) (N := sc_slack_N) (sc := defScope s_slack) (by decide +kernel)) (fun _ _ _ _ _ => pg_tup rfl (pgs_cons (pg_name (i := 1) sc_slack.nd rfl (Or.inl rfl)) (pgs_cons (pg_name (i := 2) sc_slack.nd rfl (Or.inl rfl)) pgs_nil))) (fun _ _ _ _ _ => pts_nil) (fun _ _ _ _ _ => (pv 2)))) pa_nil) (pk_cons pe_non pk_nil)))), ?_⟩
    obtain ⟨hrow, hgl⟩ := hR.rows
    refine lc_pair (S := fun a => [a]) (fun l ys H1 => Same H H1 ∧ H l = none ∧ H1 l = some (.lst ys) ∧ DpAll K (cutS [l] H1) ys (g.map (fndD qs))) g (stepsD qs) (fun r => .int (costQ qs r)) (fun r => .int (costQ qs r)) (fun R r => .inl ⟨_, rfl, v, fb, ws, qs, g, rfl, hD, hR.nd, hR.ng, hR.w6, hR.sm, hR.q6, hR.rn, fun H1 l ys s1 hl0 hl1 hda => ⟨l, rfl, ⟨ys, sql_of hl1⟩, r l ys H1 ⟨s1, hl0, hl1, hda⟩ _ walk_list⟩⟩)
      (fun l ys H1 p => ⟨sql_of p.2.2.1, p.2.2.2, Trk.cons Trk.nil p.2.2.1⟩) (by omega) (fun x y => rfl) (fun x y z H2 T hz t1 hx hy Q' q' => ⟨_, rfl, q' H2 _ (fun _ _ e => e) hy⟩) (fun l ys H1 p D zs H2 s2 hD0 h2 h3 => ?_)
    obtain ⟨s1, hl0, hl1, hda⟩ := p
    have h4 : DpAll K (cutS [D, l] H2) zs ((g.map (costQ qs)).map PyData.int) := by
      rw [List.map_map]
      exact h3
    have e := dpa_ints_of h4
    subst e
    have qq := q H2 (s1.trans s2)
    refine ⟨D, g.map (costQ qs), rfl, rfl, sql_of h2, fun e => ?_, fun n ms e => ?_⟩
    · rw [e] at qq
      exact qq
    · rw [e] at qq
      exact qq
end
end Jl

set_option Elab.async false
set_option linter.all false
set_option maxRecDepth 100000
set_option maxHeartbeats 1000000
namespace Jl
open PySem PySem.Spec PyProof.Rows L2
open Evl (sz_of sz_lt)
/-! ### enumerate(a tuple) -/
theorem enumT_meets (a : Addr) (cells : Array Value) : Meets (Builtin.«enumerate.__new__» ⟨[.type "enumerate", .ref a], []⟩) (fun _ R st => st.heap.IsTuple a cells ∧
    R (.ok (.ret (.ref (st.heap.push { cls := .type "tuple_iterator", data := .fields #[.ref a, .int 0 0] }).objs.size))) { st with heap := (st.heap.push { cls := .type "tuple_iterator", data := .fields #[.ref a, .int 0 0] }).push { cls := .type "enumerate", data := .fields #[.none, .bool false, .ref st.heap.objs.size, rawInt 0, .none, .none] } }) :=
  .of_wp fun prog w Ar R st hyp => by
    obtain ⟨hh, g0, d0, t0, o0⟩ := st
    obtain ⟨ht, hyp⟩ := hyp
    have hsub := sub_enumerate
    have q1 : ∀ {A' : Around} {E' : Value → Shared → Prop} {Q' : Value → Shared → Prop}, Q' (.ref hh.objs.size) ⟨hh.push { cls := .type "tuple_iterator", data := .fields #[.ref a, .int 0 0] }, g0, d0, t0, o0⟩ → wpAny (model prog w) A' (pyIter (.ref a)) Q' E' ⟨hh, g0, d0, t0, o0⟩ :=
      fun q => wpAny_pyIter_tuple ht q
    obtain ⟨ob, hob, hcl, n0, hda⟩ := id ht
    have hlp : ∀ {A' : Around} {E' : Value → Shared → Prop} {Q' : Value → Shared → Prop}, Q' (.ref hh.objs.size) ⟨hh.push { cls := .type "tuple_iterator", data := .fields #[.ref a, .int 0 0] }, g0, d0, t0, o0⟩ → wpAny (model prog w) A' (pyIter (.ref a)) Q' E' ⟨hh, g0, d0, t0, o0⟩ := q1
    wp_walk using q1, wpAny_loadPart' hob
    refine wpAny_stack_any fun _ => wpAny_pure ?_
    split
    · rename_i c _ _ _ _ _
      by_cases hc : (c == Value.type "enumerate") = true
      · simp only [hc]
        wp_walk using q1, wpAny_loadPart' hob
        exact ⟨_, rfl, hyp⟩
      · simp only [hc]
        wp_walk using q1, wpAny_loadPart' hob
        exact ⟨_, rfl, hyp⟩
    · wp_walk using q1, wpAny_loadPart' hob
      exact ⟨_, rfl, hyp⟩

section
variable {prog : Program} {w : World} {Ar : Around} {E' : Value → Shared → Prop} {st : Shared}
/-- its two new cells -/
theorem enumT_made {a : Addr} {cells : Array Value} {Q' : Value → Shared → Prop} (ht : st.heap.IsTuple a cells)
    (q : ∀ hh, IsEnum hh (st.heap.objs.size + 1) st.heap.objs.size 0 .none → hh.IsTupleIter st.heap.objs.size a 0 → hh.objs.size = st.heap.objs.size + 2 → (∀ b o, st.heap.get? b = some o → hh.get? b = some o) → Q' (.ref (st.heap.objs.size + 1)) { st with heap := hh }) :
    wpAny (model prog w) Ar (call (.type "enumerate") [.ref a]) Q' E' st := by
  refine callType_new F.called_enumerate (by decide) (F.typeCall_enumerate_1 (.ref a)) (F.newCall_enumerate_1 (.ref a)) (fun ob => F.args_object_init_2 ob (.ref a)) F.entry_enumerate_new (enumT_meets a cells) ⟨ht, ?_⟩
  have hz : (st.heap.push { cls := .type "tuple_iterator", data := .fields #[.ref a, .int 0 0] }).objs.size = st.heap.objs.size + 1 := Heap.size_push ..
  have g1 := Heap.get?_push_size (st.heap.push { cls := .type "tuple_iterator", data := .fields #[.ref a, .int 0 0] }) (o := { cls := .type "enumerate", data := .fields #[.none, .bool false, .ref st.heap.objs.size, rawInt 0, .none, .none] }) rfl
  rw [hz] at g1
  show _ ∧ _
  rw [hz]
  exact ⟨⟨_, g1, rfl⟩, q _ g1 ⟨_, Heap.get?_push_of_some _ (Heap.get?_push_size _ rfl), rfl, rfl⟩ (by rw [Heap.size_push, hz]) fun b o e => Heap.get?_push_of_some _ (Heap.get?_push_of_some _ e)⟩
end
/-- the tuple at a, each item in a new pair -/
def IteT (K : PySem.W.Frag) (a : Addr) : It :=
  ⟨fun i H => ∃ (xs : List V) (x : V), SqT K H a xs ∧ xs[i]? = some x, fun i H v H' => ∃ T x, v = .ref T ∧ H T = none ∧ H' = upd H T (.tup [.int (i : Nat), x]) ∧ ∀ xs, SqT K H a xs → xs[i]? = some x, fun i H => ∃ xs : List V, SqT K H a xs ∧ xs.length = i⟩
theorem enum_ne_tup {h : Heap} {e it a : Addr} {k : Int} {old : Value} {cells : Array Value} (he : IsEnum h e it k old) (ht : h.IsTuple a cells) : e ≠ a := fun z => by
  obtain ⟨o, ho, hc, _⟩ := ht
  have he2 : h.get? e = some _ := he
  rw [z, ho] at he2
  cases he2
  simp at hc
theorem iter_ne_tup {h : Heap} {it a b : Addr} {i : Nat} {cells : Array Value} (hi : h.IsTupleIter it b i) (ht : h.IsTuple a cells) : a ≠ it := fun z => by
  obtain ⟨o, ho, hc, _⟩ := ht
  obtain ⟨o', ho', hc', _⟩ := hi
  rw [z, ho'] at ho
  cases ho
  rw [hc'] at hc
  simp at hc
theorem turn_enumT {P : Program} {w : World} {K : PySem.W.Frag} {elts : List Expr} {kk : Nat} {tpos : Pos} (a e it : Addr) :
    Turn P w K (.Tuple elts kk tpos) (IteT K a) [e, it] e (fun i h => (∃ old, IsEnum h e it ((i : Nat) : Int) old) ∧ h.IsTupleIter it a i ∧ e ≠ it) where
  mem := List.mem_cons_self
  obj := fun i h st b hb => by
    obtain ⟨⟨old, he⟩, hit, _⟩ := st
    rcases mem2 hb with z | z
    · subst z
      exact ⟨_, he, fun _ hv => by cases hv⟩
    · obtain ⟨o, ho, hc, hd⟩ := hit
      exact ⟨o, by rw [z]; exact ho, fun v q => by rw [hd] at q; cases q⟩
  keep := fun i h h' st kp => ⟨st.1.elim fun old he => ⟨old, kp e List.mem_cons_self _ he⟩, st.2.1.at fun o q => kp it (List.mem_cons_of_mem _ List.mem_cons_self) o q, st.2.2⟩
  item := by
    intro X hP hw hK hc i pins s σ H E I hf st hg
    cases hP
    cases hw
    cases hK
    obtain ⟨⟨old, he⟩, hit, hne⟩ := st
    obtain ⟨xs, x, hq, hx⟩ := hg
    obtain ⟨its, rv, pt, _⟩ := I.tuple hq
    obtain ⟨u, hu, ru⟩ := rv.get hx
    have pt' : s.heap.IsTuple a its.toArray := pt
    have hel : e < s.heap.objs.size := Heap.lt_size he
    have hil : it < s.heap.objs.size := hit.elim fun o q => Heap.lt_size q.1
    have hea := enum_ne_tup he pt'
    have hai := iter_ne_tup hit pt'
    have hD := Draws.tuple (prog := X.prog) (w := X.w) (A := X.A.in1) (I.ok.hd hc) it a hai its.toArray
    have hsz : its.toArray.size = its.length := List.size_toArray
    have hlt : i < its.toArray.size := by
      rw [hsz]
      exact (List.getElem?_eq_some_iff.mp hu).1
    refine wpAny_pyNext_enum_itemD hD he ⟨hit, pt'⟩ hlt hne (fun z => by rcases mem2 z with z | z; exact hne z; exact hea z) fun y h1 tk hy ho hst hT hz2 hk => ?_
    have eu : y = u := by
      have hy2 : its[i]? = some y := by simpa using hy
      rw [hu] at hy2
      exact (Option.some.inj hy2).symm
    subst eu
    refine ⟨_, rfl, wpAny_letOwnedTupleGo_enum (s := { s with heap := h1, toks := tk + 1 }) ho fun h2 he2 sb => ?_⟩
    have hT2 : h2.get? s.heap.objs.size = some { cls := .type "tuple", data := .seq #[.int i tk, y] } := (sb.2 _ (Nat.ne_of_gt hel)).trans hT
    have hnew : ObjOk X.prog X.w (upd H s.heap.objs.size (.tup [.int (i : Nat), x])) h2 s.heap.objs.size (.tup [.int (i : Nat), x]) := ⟨by show 2 ≤ sizeLine; decide, [.int i tk, y], .cons ⟨_, rfl⟩ (.cons ru .nil), ⟨_, hT2, rfl, _, rfl⟩⟩
    have I2 : L2.Inv X pins σ (upd H s.heap.objs.size (.tup [.int (i : Nat), x])) { s with heap := h2, toks := tk + 1 } :=
      I.turnedNew (ch := [e, it]) (fun b ob hb q => (sb.2 b (fun z => hb (by rw [z]; exact List.mem_cons_self))).trans (hk b ob (fun z => hb (by rw [z]; exact List.mem_cons_self)) (fun z => hb (by rw [z]; exact List.mem_cons_of_mem _ List.mem_cons_self)) q)) hf (Nat.le_refl _) hnew
    refine ⟨.ref s.heap.objs.size, _, I2, rfl, ⟨_, x, rfl, I.hok.fresh (Nat.le_refl _), rfl, fun ys hy => by rw [I.tuple_inj hy hq]; exact hx⟩, ⟨⟨y, ?_⟩, hst.1.at fun o q => (sb.2 it (Ne.symm hne)).trans q, hne⟩, fun b hb => ?_⟩
    · rw [show ((i + 1 : Nat) : Int) = (i : Int) + 1 by omega]
      exact he2
    · have hbs : b < s.heap.objs.size := by
        rcases mem2 hb with z | z <;> rw [z]
        · exact hel
        · exact hil
      rw [upd_ne (Nat.ne_of_lt hbs)]
      exact (hf b hb).1
  done := by
    intro X hP hw hK hc i pins s σ H E I hf st hg
    cases hP
    cases hw
    cases hK
    obtain ⟨⟨old, he⟩, hit, hne⟩ := st
    obtain ⟨xs, hq, hx⟩ := hg
    obtain ⟨its, rv, pt, _⟩ := I.tuple hq
    have pt' : s.heap.IsTuple a its.toArray := pt
    obtain ⟨f0, f1, f2, f3, f4, f5⟩ := hf it (List.mem_cons_of_mem _ List.mem_cons_self)
    have hD := Draws.tuple (prog := X.prog) (w := X.w) (A := X.A.in1) (I.ok.hd hc) it a (iter_ne_tup hit pt') its.toArray
    have hn : its.toArray.size = i := by
      rw [List.size_toArray, ← rv.length, hx]
    rw [← hn] at hit
    exact wpAny_pyNext_enum_endD hD he ⟨hit, pt'⟩ fun hh eb => ⟨rfl, I.turned (t' := s.toks) (fun b o hb q => eb b o hb q) f0 f1 f3 f4 f5⟩
  self := fun A i s Q E st h => st.1.elim fun _ he => wpAny_pyIter_enum he h
theorem walk_enumT {K : PySem.W.Frag} {a : Addr} {xs : List V} : Walk (IteT K a) xs.length (fun H => SqT K H a xs) (YPair (fun i => some (.int (i : Nat))) (fun i => xs[i]?)) := by
  refine ⟨fun i _ hi q => ⟨xs, xs[i], q, List.getElem?_eq_getElem hi⟩, fun _ q => ⟨xs, q, rfl⟩, fun i H v H' _ q y => ?_⟩
  obtain ⟨T, x, h1, h2, h3, h4⟩ := y
  exact ⟨T, .int (i : Nat), x, h1, h2, h3, rfl, h4 xs q⟩
def iEnumT (K : PySem.W.Frag) (ta : TA) : TI := fun σ H R => ta σ H fun vs H1 => ∃ a xs, vs = [.ref a] ∧ SqT K H1 a xs ∧ R (IteT K a) H1
theorem pi_enumT {X : Cx} {e : Expr} {ta : TA} {p pos tpos : Pos} {elts : List Expr} {kk : Nat} (hg : Gl X "enumerate") (hm : X.mg "enumerate" = none) (ha : PA X [e] ta) (hs : starEach [e] X.env = [(false, eval e X.env)] := by rfl) :
    PI X (.Tuple elts kk tpos) (.Call (.Name "enumerate" p) [e] [] pos) (iEnumT X.K ta) := ⟨fun pins s σ H R I h => by
  refine Call_ (ld_blt I hg hm boot_enumerate (PyProof.Rows.callWith_type1 (thn (ha.run pos pins s σ H _ I h) fun us s1 g => ?_) hs rfl))
  obtain ⟨vs, H1, I1, r1, a, xs, ev, hq, q⟩ := g
  subst ev
  cases r1 with
  | cons r rr =>
    cases rr
    cases r
    obtain ⟨its, rv, pt, _⟩ := I1.tuple hq
    refine enumT_made (show s1.heap.IsTuple a its.toArray from pt) fun hh he hit hsz hk => wpAny_pyIter_enum he ?_
    have I2 : L2.Inv X pins σ H1 { s1 with heap := hh } := I1.kept (t' := s1.toks) hk
    exact ⟨s1.heap.objs.size + 1, [s1.heap.objs.size + 1, s1.heap.objs.size], _, _, H1, rfl, I2, turn_enumT a (s1.heap.objs.size + 1) s1.heap.objs.size, ⟨⟨.none, he⟩, hit, Nat.succ_ne_self _⟩, fun b hb => by
      have hle : s1.heap.objs.size ≤ b := by
        rcases mem2 hb with z | z <;> rw [z]
        · exact Nat.le_add_right _ _
        · exact Nat.le_refl _
      exact I1.fpOk hle (I1.hok.fresh hle), q⟩⟩

def iEnumA (K : PySem.W.Frag) (ta : TA) : TI := fun σ H R => iEnum K ta σ H R ∨ iEnumT K ta σ H R
theorem pi_enumA {X : Cx} {e : Expr} {ta : TA} {p pos tpos : Pos} {elts : List Expr} {kk : Nat} (hg : Gl X "enumerate") (hm : X.mg "enumerate" = none) (ha : PA X [e] ta) (hs : starEach [e] X.env = [(false, eval e X.env)] := by rfl) :
    PI X (.Tuple elts kk tpos) (.Call (.Name "enumerate" p) [e] [] pos) (iEnumA X.K ta) := pi_or (pi_enum hg hm ha hs) (pi_enumT hg hm ha hs)
theorem iEnumA_at {K : PySem.W.Frag} {ta : TA} {σ : L2.St} {H H1 : Hp} {R : It → Hp → Prop} {a : Addr} {f : Bool} {xs : List V} (ht : ∀ R' : List V → Hp → Prop, R' [.ref a] H1 → ta σ H R') (hs : SqF f K H1 a xs)
    (q : ∀ J, Walk J xs.length (fun H => SqF f K H a xs) (YPair (fun i => some (.int (i : Nat))) (fun i => xs[i]?)) → R J H1) : iEnumA K ta σ H R := by
  cases f with
  | false => exact .inl (ht _ ⟨a, xs, rfl, hs, q _ walk_enum⟩)
  | true => exact .inr (ht _ ⟨a, xs, rfl, hs, q _ walk_enumT⟩)
end Jl

set_option Elab.async false
set_option linter.all false
set_option maxRecDepth 100000
set_option maxHeartbeats 1000000
namespace Jl
open PySem PySem.Spec PyProof.Rows L2
open Evl (sz_of sz_lt)
/-! ### lists, one behind another, however they stand -/
def rCatL (K : PySem.W.Frag) : R2 := fun x y H Q => ∃ (l b : Addr) (xs zs : List V), x = .ref l ∧ y = .ref b ∧ SqL K H l xs ∧ SqL K H b zs ∧ xs.length + zs.length ≤ sizeLine ∧ ∀ p, H p = none → Q (.ref p) (upd H p (.lst (xs ++ zs)))
theorem op_catL {X : Cx} : OpR X (binaryOp .Add) (rCatL X.K) := by
  intro pins s σ H x y v u Q I rx ry hyp
  obtain ⟨l, b, xs, zs, ex, ey, h1, h2, hz, q⟩ := hyp
  subst ex ey
  cases rx
  cases ry
  obtain ⟨i1, r1, p1, _⟩ := I.list h1
  obtain ⟨i2, r2, p2, _⟩ := I.list h2
  obtain ⟨⟨c1, d1, t1, s1⟩, g1, k1, n1, e1⟩ := p1.isList
  obtain ⟨⟨c2, d2, t2, s2⟩, g2, k2, n2, e2⟩ := p2.isList
  have k1 : c1 = .type "list" := k1
  have e1 : t1 = .seq i1.toArray n1 := e1
  have k2 : c2 = .type "list" := k2
  have e2 : t2 = .seq i2.toArray n2 := e2
  subst k1 e1 k2 e2
  have l1 := r1.length
  have l2 := r2.length
  refine concat_meets ⟨_, g1, rfl⟩ ⟨_, g2, rfl⟩ noFill_list_add seq_list_add PySem.F.slot_list_add PySem.F.entry_list_add (PySem.F.args_list_add_2 (.ref l) (.ref b)) (list_addW l b i1.toArray i2.toArray n1 n2 d1 d2 s1 s2 (by rw [List.size_toArray, List.size_toArray]; omega)) ⟨g1, g2, ?_⟩
  have ea : i1.toArray ++ i2.toArray = (i1 ++ i2).toArray := by simp only [List.append_toArray]
  rw [ea]
  have I2 := I.lnew (t' := s.toks) (r1.append r2) (by rw [List.length_append]; omega)
  exact ⟨.ref _, _, I2, rfl, q _ I.fresh⟩
theorem ic_catL {K : PySem.W.Frag} {S : List Addr} {H0 : Hp} {σ : L2.St} {ta tb : TE} {ds es : List PyData} (h1 : IsC K S H0 ta (.list ds) σ) (h2 : IsC K S H0 tb (.list es) σ) (hl : ds.length + es.length ≤ 1000) : IsC K S H0 (tOp (rCatL K) ta tb) (.list (ds ++ es)) σ := fun H Q e tr k =>
  h1 H _ e tr fun H1 v s1 d1 => h2 H1 _ (e.trans s1) (tr.mono s1) fun H2 u s2 d2 => by
    obtain ⟨c, xs, rfl, hc, hx⟩ := Dp.seq_of (f := false) ((cutS_mono s2).dp d1)
    obtain ⟨d, ys, rfl, hd, hy⟩ := Dp.seq_of (f := false) d2
    have lx := dpa_len hx
    have ly := dpa_len hy
    have s12 := s1.trans s2
    exact ⟨c, d, xs, ys, rfl, rfl, cutS_le.sqL hc, cutS_le.sqL hd, Nat.le_of_lt (sz_lt (by omega)), fun p hp => k _ _ (s12.trans (.upd hp)) (dp_lst (tr.mono s12) hp (dpa_app hx hy))⟩
end Jl

set_option Elab.async false
set_option linter.all false
set_option maxRecDepth 100000
set_option maxHeartbeats 1000000
set_option pp.maxSteps 900
namespace Jl
open PySem PySem.Spec PyProof.Rows L2
open Evl (sz_of sz_lt)
/-! ### len(set(texts)) -/
def stepD (acc : List Str) (x : Str) : List Str := if x ∈ acc then acc else acc ++ [x]
def dedS (xs : List Str) : List Str := xs.foldl stepD []
theorem setOf_keep {prog : Program} {w : World} {h h' : Heap} {S : Addr} {f : Str → Bool} {n : Nat} (hs : Heap.SetOf (PySem.strKind prog w) h S f n) (k : ∀ o, h.get? S = some o → h'.get? S = some o) : Heap.SetOf (PySem.strKind prog w) h' S f n := by
  obtain ⟨o, es, ep, t, h1, h2⟩ := hs
  exact ⟨o, es, ep, t, k o h1, h2⟩
theorem dedS_snoc {xs : List Str} {x : Str} : dedS (xs ++ [x]) = stepD (dedS xs) x := by
  unfold dedS
  rw [List.foldl_append]
  rfl
theorem dedS_len (xs : List Str) : (dedS xs).length ≤ xs.length := by
  have h : ∀ (xs acc : List Str), (xs.foldl stepD acc).length ≤ acc.length + xs.length := by
    intro xs
    induction xs with
    | nil => intro acc; exact Nat.le_refl _
    | cons x xs ih =>
      intro acc
      rw [List.foldl_cons, List.length_cons]
      have h1 := ih (stepD acc x)
      have h2 : (stepD acc x).length ≤ acc.length + 1 := by
        unfold stepD
        split
        · omega
        · rw [List.length_append]
          exact Nat.le_refl _
      omega
  have := h xs []
  rw [List.length_nil] at this
  unfold dedS
  omega
theorem loopStrD {prog : Program} {w : World} {A : Around} {R : Result → Shared → Prop} {I : Addr} {fp wr : List Addr} {G : Array GenState → Array GenState → Prop} {n : Nat} {P : Nat → Value → Prop} {St : Nat → Shared → Prop}
    (hw : WalksS prog w A.in1 I fp wr G n P St) (S : Addr) (hS : S ∉ fp) (xs : List Str) (hl : xs.length = n) (hb : n + 1 < scanBound) (hP : ∀ i v, P i v → ∃ t, v = Value.str (xs.getD i Str.empty) t) :
    ∀ (k i : Nat) (s : Shared), n - i = k → i ≤ n → St i s → Heap.SetOf (PySem.strKind prog w) s.heap S (fun k' => decide (k' ∈ dedS (xs.take i))) (dedS (xs.take i)).length →
      (∀ s', Moved (S :: wr) G s s' → Heap.SetOf (PySem.strKind prog w) s'.heap S (fun k' => decide (k' ∈ dedS xs)) (dedS xs).length → R (.ok (.ret .none)) s') →
      codeAny (model prog w) A (Code.builtin "set.update.loop" { pos := [Value.ref S, Value.ref I] }) R s := by
  intro k
  induction k with
  | zero =>
    intro i s hk hi hst hset q
    have e : i = n := by omega
    subst e
    refine codeAny_builtin F.entry_set_update_loop ?_
    have q1 : ∀ {Q : Option Value → Shared → Prop} {E : Value → Shared → Prop}, (∀ s', Moved wr G s s' → Q none s') → wpAny (model prog w) (A.under (Code.builtin "set.update.loop" { pos := [Value.ref S, Value.ref I] })) (pyNext (Value.ref I)) Q E s := fun h => hw.done s _ _ hst h
    show wpAny _ _ (Builtin.«set.update.loop» { pos := [Value.ref S, Value.ref I] }) _ _ _
    wp_walk using q1
    intro s' hm
    dsimp only
    wp_walk
    have hS' : S ∉ wr := fun z => hS (hw.sub _ z)
    refine q s' (hm.mono fun b hb => List.mem_cons_of_mem _ hb) ?_
    rw [List.take_of_length_le (by omega)] at hset
    exact setOf_keep hset fun o ho => hm.heap S o hS' ho
  | succ k ih =>
    intro i s hk hi hst hset q
    have hin : i < n := by omega
    refine codeAny_builtin F.entry_set_update_loop ?_
    have q1 : ∀ {Q : Option Value → Shared → Prop} {E : Value → Shared → Prop}, (∀ v s', P i v → St (i + 1) s' → Moved wr G s s' → Q (some v) s') → wpAny (model prog w) (A.under (Code.builtin "set.update.loop" { pos := [Value.ref S, Value.ref I] })) (pyNext (Value.ref I)) Q E s := fun h => hw.item i s _ _ hin hst h
    show wpAny _ _ (Builtin.«set.update.loop» { pos := [Value.ref S, Value.ref I] }) _ _ _
    wp_walk using q1
    intro v s' hv hst' hm
    dsimp only
    obtain ⟨t, rfl⟩ := hP i v hv
    have hS' : S ∉ wr := fun z => hS (hw.sub _ z)
    have hset' := setOf_keep hset fun o ho => hm.heap S o hS' ho
    have q2 : ∀ {Q : Bool → Shared → Prop} {E : Value → Shared → Prop}, (∀ (h' : Heap) (tk : Nat), s'.toks ≤ tk → Heap.SameBut S s'.heap h' → Heap.SetOf (PySem.strKind prog w) h' S (fun k' => decide (k' ∈ dedS (xs.take (i + 1)))) (dedS (xs.take (i + 1))).length → Q (!decide (xs.getD i Str.empty ∈ dedS (xs.take i))) { s' with heap := h', toks := tk }) → wpAny (model prog w) (A.under (Code.builtin "set.update.loop" { pos := [Value.ref S, Value.ref I] })) (setAdd S (Value.str (xs.getD i Str.empty) t)) Q E s' := fun h => by
      unfold setAdd
      refine wpAny_holding ?_
      refine wpAny_bind ?_
      refine (PySem.strKind prog w).pyHash (k := xs.getD i Str.empty) (strKind_is prog w _ _) ?_
      refine wpAny_setAddHashed_of (knd := PySem.strKind prog w) (strKind_is prog w _ _) rfl hset' ?_ fun h' hsb hs2 => ?_
      · have := dedS_len (xs.take i)
        rw [List.length_take] at this
        omega
      · refine h h' _ (Nat.le_succ _) hsb ?_
        have et : xs.take (i + 1) = xs.take i ++ [xs.getD i Str.empty] := by
          rw [List.take_add_one, List.getElem?_eq_getElem (by omega), List.getD_eq_getElem?_getD, List.getElem?_eq_getElem (by omega)]
          rfl
        rw [et, dedS_snoc]
        generalize dedS (xs.take i) = l at hs2 ⊢
        generalize xs.getD i Str.empty = x at hs2 ⊢
        have e1 : (fun k' => decide (k' ∈ stepD l x)) = fun k' => decide (k' ∈ l) || decide (k' = x) := by
          funext k'
          unfold stepD
          rw [Bool.eq_iff_iff]
          split
          · rename_i hx
            simp only [decide_eq_true_eq, Bool.or_eq_true]
            exact ⟨.inl, fun z => z.elim id fun e => by rw [e]; exact hx⟩
          · simp only [decide_eq_true_eq, Bool.or_eq_true, List.mem_append, List.mem_singleton]
        have e2 : (stepD l x).length = if decide (x ∈ l) = true then l.length else l.length + 1 := by
          unfold stepD
          by_cases hx : x ∈ l
          · rw [if_pos hx, if_pos (decide_eq_true hx)]
          · rw [if_neg hx, if_neg (by simp [hx]), List.length_append]
            rfl
        rw [e1, e2]
        exact hs2
    wp_walk using q2
    intro h' tk hle hsb hs2
    refine wpAny_pure ⟨plainId_quiet PyProof.Rows.F.plain_set_update_loop _, ih (i + 1) _ (by omega) (by omega) (hw.frame (i + 1) s' h' tk hst' hle fun b hb o ho => (hsb.2 b fun z => hS (by rw [← z]; exact hb)).trans ho) hs2 fun s'' hm2 hs3 => q s'' ?_ hs3⟩
    have m1 : Moved (S :: wr) G s { s' with heap := h', toks := tk } := (hm.mono (wr' := S :: wr) fun b hb => List.mem_cons_of_mem _ hb).then_heap hle fun b o hb ho => (hsb.2 b fun z => hb (by rw [z]; exact List.mem_cons_self)).trans ho
    exact m1.trans hw.gtrans hm2
set_option maxHeartbeats 4000000 in
theorem call_setD {prog : Program} {w : World} {A : Around} {E : Value → Shared → Prop} {s : Shared} {l : Addr} {items : Array Value} {xs : List Str} {Q : Value → Shared → Prop} (hh : A.handled = none) (hl : s.heap.IsList l items) (hx : xs.length = items.size) (hP : ∀ (i : Nat) (v : Value), items[i]? = some v → ∃ t, v = Value.str (xs.getD i Str.empty) t) (hb : items.size + 1 < scanBound)
    (q : ∀ (h' : Heap) (tk : Nat), Heap.SetOf (PySem.strKind prog w) h' s.heap.objs.size (fun k' => decide (k' ∈ dedS xs)) (dedS xs).length → (∀ (b : Nat) (o : Obj), b < s.heap.objs.size → s.heap.get? b = some o → h'.get? b = some o) → Q (Value.ref s.heap.objs.size) { s with heap := h', toks := tk }) :
    wpAny (model prog w) A (call (Value.type "set") [Value.ref l]) Q E s := by
  have ⟨_, _, m1⟩ := PySem.F.called_set.mro
  have m2 := PySem.F.called_set.made
  have m3 := PySem.F.called_set.sub
  have m4 := PySem.F.called_set.notType
  have m5 := PySem.F.called_set.canCreate
  have m6 := PySem.F.typeCall_set_1 (Value.ref l)
  refine wpAny_call <| codeAny_of_tree ?_
  show wpAny _ _ (callAny (Value.type "set") _) _ _ _
  refine wpAny_pure ⟨by exact Code.quiet_builtin _ (by decide +kernel), ?_⟩
  refine codeAny_builtin PySem.F.entry_type_call ?_
  rw [Around.under_plain (by exact weight_type_call_type "set" [Value.ref l] []) rfl]
  repeat any_goals first | assumption | wp_step
  refine codeAny_mono (code_set_new_1 (E := E) (Value.ref l) (Q₁ := fun y z => ∃ led : Bool, y = Value.ref s.heap.objs.size ∧ z = { s with heap := s.heap.push { cls := Value.type "set", data := Data.set #[] 0 (SetTable.fresh 0 0 led) } }) fun led => ⟨led, by rfl, by rfl⟩) fun r z hr => ?_
  match r, hr with
  | .error e, hr => exact hr
  | .ok (.ret y), hr =>
    obtain ⟨led, e1, e2⟩ := hr
    subst e1
    subst e2
    generalize ho : ({ cls := Value.type "set", data := Data.set #[] 0 (SetTable.fresh 0 0 led) } : Obj) = so
    have g0 : (s.heap.push so).get? s.heap.objs.size = some so := Heap.get?_push_size _ (by rw [← ho]; rfl)
    have hT : Shared.TypeIs { s with heap := s.heap.push so } (Value.ref s.heap.objs.size) "set" := ⟨so, g0, by rw [← ho]⟩
    have n1 := PySem.F.called_set.init.lookup
    have n2 := PySem.F.called_set.init.bind (Value.ref s.heap.objs.size)
    repeat any_goals first | assumption | wp_step
    refine codeAny_mono (codeAny_call_builtin (R := wants (fun y z => y = Value.none ∧ ∃ h' tk, z = { s with heap := h', toks := tk } ∧ Heap.SetOf (PySem.strKind prog w) h' s.heap.objs.size (fun k' => decide (k' ∈ dedS xs)) (dedS xs).length ∧ ∀ (b : Nat) (o : Obj), b < s.heap.objs.size → s.heap.get? b = some o → h'.get? b = some o) E) PySem.F.called_set.init.plain PySem.F.entry_set_init (check_set_init_1 hT ?_)) fun r z hr => ?_
    · have ⟨ol, o1, o2, nl, o3⟩ := hl
      match ol, o1, o2, o3 with
      | ⟨_, od, _, os⟩, o1, rfl, rfl =>
        have o4 := Heap.get?_push_of_some so o1
        have k1 := PySem.F.sub_list_set
        have k2 := PySem.F.sub_list_frozenset
        have k3 : (Value.type "list" == Value.type "dict") = false := by decide
        have hl1 : (s.heap.push so).IsList l items := ⟨_, o4, rfl, nl, rfl⟩
        subst ho
        unfold Builtin.«set.__init__» noKeywords Builtin.Frozenset.updateFrom
        generalize hit : pyIter = it
        wp_walk
        subst hit
        refine wpAny_pyIter_list hl1 ?_
        refine wpAny_bind <| wpAny_runValue ?_
        have lt1 : l < s.heap.objs.size := Heap.lt_size o1
        have sz1 : ∀ so, Array.size (Heap.objs (s.heap.push so)) = s.heap.objs.size + 1 := fun _ => Heap.size_push _ _
        have hne1 : ∀ so, l ≠ Array.size (Heap.objs (s.heap.push so)) := fun so => by rw [sz1]; exact Nat.ne_of_lt (Nat.lt_succ_of_lt lt1)
        have hin3 : A.in1.in1.in1.handled = none := by simp [hh]
        have hnf : ∀ so, s.heap.objs.size ∉ [Array.size (Heap.objs (s.heap.push so)), l] := by
          intro so z
          rw [sz1] at z
          rcases List.mem_cons.mp z with z | z
          · exact absurd z (Nat.ne_of_lt (Nat.lt_succ_self _))
          · rcases List.mem_cons.mp z with z | z
            · exact absurd z (Nat.ne_of_gt lt1)
            · cases z
        refine loopStrD (Walks.list hin3 _ l (hne1 _) items).toS s.heap.objs.size (hnf _) xs hx hb (fun i v z => hP i v z) (items.size - 0) 0 _ (by omega) (Nat.zero_le _) ⟨⟨_, Heap.get?_push_size _ rfl, rfl, rfl⟩, hl1.push _⟩ ?_ ?_
        · have g1 := Heap.get?_push_of_some { cls := Value.type "list_iterator", data := Data.fields #[Value.ref l, Value.int 0 0] } g0
          exact PyProof.Rows.SetOf_congr ((PyProof.Rows.setObjOf_fresh (knd := PySem.strKind prog w) led).setOf g1 (by unfold scanBound; omega)) (fun _ => rfl) rfl
        · rintro ⟨h', g', d', tk', os'⟩ hm hS
          have eg : g' = s.gens := hm.gens
          have ed : d' = s.drawn := hm.drawn
          have eo : os' = s.os := hm.os
          subst eg
          subst ed
          subst eo
          show wpAny _ _ _ _ _ _
          refine wpAny_pure ?_
          show wpAny _ _ (ret Value.none) _ _ _
          refine wpAny_pure ⟨rfl, h', tk', rfl, hS, fun b o lt e => ?_⟩
          refine hm.heap b o (fun z => ?_) (Heap.get?_push_of_some _ (Heap.get?_push_of_some _ e))
          rw [sz1] at z
          rcases List.mem_cons.mp z with z | z
          · exact absurd z (Nat.ne_of_lt lt)
          · rcases List.mem_cons.mp z with z | z
            · exact absurd z (Nat.ne_of_lt (Nat.lt_succ_of_lt lt))
            · cases z
    · match r, hr with
      | .error e, hr => exact hr
      | .ok (.ret y), hr =>
        obtain ⟨rfl, h', tk, rfl, hS, hk⟩ := hr
        repeat any_goals first | assumption | wp_step
        exact q h' tk hS hk

theorem strs_of_vals : ∀ {ys : List Str} {us : List Value}, Vals (ys.map V.str) us → ∀ (i : Nat) (v : Value), us[i]? = some v → ∃ t, v = Value.str (ys.getD i Str.empty) t
  | [], _, .nil, i, v, e => by simp at e
  | y :: ys, _, .cons r t, i, v, e => by
    obtain ⟨k, rfl⟩ := r
    match i with
    | 0 =>
      simp only [List.getElem?_cons_zero, Option.some.injEq] at e
      exact ⟨k, e.symm⟩
    | i + 1 =>
      simp only [List.getElem?_cons_succ] at e
      exact strs_of_vals t i v e
/-- how many different texts a list has -/
def tLenSetD (K : PySem.W.Frag) (ta : TE) : TE := fun σ H Q => ta σ H fun x H1 => ∃ (l : Addr) (ys : List Str), x = .ref l ∧ SqL K H1 l (ys.map V.str) ∧ ys.length ≤ 4000 ∧ Q (.int ((dedS ys).length : Nat)) H1
theorem pe_lenSetD {X : Cx} {a : Expr} {ta : TE} {p p2 q pos : Pos} (hg : Gl X "len") (hm : X.mg "len" = none) (hg2 : Gl X "set") (hm2 : X.mg "set" = none) (ha : PE X a ta) (hc : X.calm = true := by rfl)
    (na : starEach [a] X.env = (false, eval a X.env) :: starEach [] X.env := by rfl) : PE X (.Call (.Name "len" p) [.Call (.Name "set" p2) [a] [] q] [] pos) (tLenSetD X.K ta) := by
  constructor
  intro pins s σ H Q I hQ
  refine Call_ <| ld_blt I hg hm boot_len ?_
  refine callWith_builtin1 (args_cons ?_ rfl) rfl rfl
  refine Call_ <| ld_blt I hg2 hm2 boot_set ?_
  refine callWith_type1 (args_cons (thn (ha.run pins s σ H _ I hQ) ?_) na) na rfl
  rintro v s1 ⟨x, H1, I1, r1, l, ys, rfl, hq, hsz, q1⟩
  refine args_nil ?_
  cases r1
  have ⟨its, r, pl, _⟩ := I1.list hq
  have hlen : its.toArray.size = ys.length := by rw [List.size_toArray, ← r.length, List.length_map]
  refine call_setD (I1.ok.hd hc) pl.isList hlen.symm (fun i v e => strs_of_vals r i v (by simpa using e)) (by rw [hlen]; unfold scanBound; omega) ?_
  intro h' tk hS hk
  refine args_nil ?_
  have ⟨o, es, ep, t, ho, hex, hd, _, _, _, hf, hn⟩ := hS
  have I2 : L2.Inv X pins σ H1 { s1 with heap := h', toks := tk } := I1.kept fun b o e => hk b o (Heap.lt_size e) e
  have := dedS_len ys
  exact call_len_set ho hex hd hf (by rw [hn]; omega) ⟨.int (dedS ys).length, H1, I2.tok _, ⟨_, by rw [hn]⟩, q1⟩
end Jl

set_option Elab.async false
set_option linter.all false
set_option maxRecDepth 100000
set_option maxHeartbeats 1000000
set_option pp.maxSteps 300
namespace Jl
open PySem PySem.Spec PyProof.Rows L2
open Evl (sz_of sz_lt)
local macro_rules | `(tactic| walk_at "at") => `(tactic| first | exact box0 | exact box1 | exact box2)
local macro_rules | `(tactic| walk_at "sq") => `(tactic| first | (show SqL _ _ _ _; assumption) | (show SqT _ _ _ _; assumption) | (show _ = some _; assumption))
local macro_rules | `(tactic| walk_at "side") => `(tactic| first
  | (show (0 : Int) < _; decide)
  | (show (0 : Int) < _; omega)
  | exact ⟨by decide, by decide, by decide⟩
  | exact sz_of (Nat.le_of_ble_eq_true rfl)
  | exact rfl
  | exact Or.inl (by decide)
  | exact Or.inr (by decide)
  | exact Or.inr ⟨by omega, by omega⟩
  | exact Or.inl ⟨by omega, by omega⟩
  | exact ⟨by decide, by decide +kernel⟩)
local macro_rules | `(tactic| walk_at "ev1") => `(tactic| first
  | refine ⟨_, rfl, ?_⟩
  | refine ⟨_, _, rfl, rfl, ?_⟩
  | refine ⟨_, _, _, _, rfl, rfl, (by walk_at "sq"), (by walk_at "at"), ?_⟩
  | refine ⟨_, _, rfl, (by walk_at "sq"), ?_⟩
  | refine ⟨_, _, rfl, Or.inl (by walk_at "sq"), ?_⟩
  | refine ⟨_, _, rfl, Or.inr (by walk_at "sq"), ?_⟩
  | refine Or.inl ⟨_, rfl, ?_⟩
  | refine Or.inr ⟨_, rfl, ?_⟩
  | refine ⟨(by walk_at "side"), ?_⟩
  | refine ⟨.inl ⟨rfl, _, (by walk_at "sq")⟩, ?_⟩
  | refine ⟨_, _, rfl, ?_⟩)
local macro_rules | `(tactic| walk_at "nrm") => `(tactic| dsimp only [tNil, tCons, tC, tCB])
local macro_rules | `(tactic| walk_at "ev") => `(tactic| repeat (walk_at "ev1"))
/-! ### a statement that is never come to -/
def tNo : TS := fun _ _ _ => False
theorem ps_no {X : Cx} {st : Stmt} : PS X st tNo := ⟨fun _ _ _ _ _ _ h => h.elim⟩
/-! ### sum of a tuple -/
section
variable {prog : Program} {w : World} {A : Around} {E : Value → Shared → Prop} {s : Shared} {l : Addr} {xs : Array (Int × Tok)}
theorem sum_intTupG {Q : Value → Shared → Prop} (hh : A.handled = none) (hl : s.heap.IsTuple l (intItems xs))
    (h : ∀ h' tk t', (∀ b o, s.heap.get? b = some o → h'.get? b = some o) → Q (.int (preSum (numAt xs) xs.size) t') { s with heap := h', toks := tk }) :
    wpAny (model prog w) A (call (.builtin "sum") [.ref l]) Q E s := by
  refine call_sum_walkG (wpAny_pyIter_tuple hl ?_)
  have hlt : l < s.heap.objs.size := by
    obtain ⟨_, e, _⟩ := id hl
    exact Heap.lt_size e
  refine ⟨_, [s.heap.objs.size, l], [s.heap.objs.size], _, _, _, numAt xs, rfl, Walks.tuple (A := A.in1) hh s.heap.objs.size l (Nat.ne_of_lt hlt) (intItems xs),
    ⟨⟨_, Heap.get?_push_size _ rfl, rfl, rfl⟩, hl.at fun o e => Heap.get?_push_of_some _ e⟩, fun c hc => ?_, (fun _ _ => intItems_at), fun h' tk t' hk => ?_⟩
  · show c < (s.heap.push _).objs.size
    rw [Heap.size_push]
    rcases List.mem_cons.mp hc with rfl | hc
    · exact Nat.lt_succ_self _
    · rw [List.mem_singleton.mp hc]
      exact Nat.lt_succ_of_lt hlt
  · have hold : ∀ c o, s.heap.get? c = some o → h'.get? c = some o := fun c o e => by
      refine hk c o (fun hm => ?_) (Heap.get?_push_of_some _ e)
      have := Heap.lt_size e
      rw [List.mem_singleton.mp hm] at this
      exact Nat.lt_irrefl _ this
    have := h h' tk t' hold
    simpa [intItems] using this
theorem sum_rawT {its : List Value} {ns : List Int} {Q : Value → Shared → Prop} (hh : A.handled = none) (hl : s.heap.IsTuple l its.toArray) (hi : IntsAre its ns)
    (h : ∀ h' tk t', (∀ b o, s.heap.get? b = some o → h'.get? b = some o) → Q (.int ns.sum t') { s with heap := h', toks := tk }) : wpAny (model prog w) A (call (.builtin "sum") [.ref l]) Q E s := by
  obtain ⟨xs, e⟩ := hi.allInts.items
  have hn : numsOf (intItems xs).toList = ns := by rw [← e]; exact hi.numsOf
  rw [nums_intItems] at hn
  rw [e] at hl
  refine sum_intTupG hh hl fun h' tk t' hk => ?_
  have := h h' tk t' hk
  rw [preSum_eq, List.take_of_length_le (by simp), hn]; exact this
end
def rSumT (K : PySem.W.Frag) : List V → Hp → VK → Prop := fun vs H Q => ∃ (a : Addr) (ns : List Int), vs = [V.ref a] ∧ SqT K H a (ns.map V.int) ∧ Q (.int ns.sum) H
theorem cr_sumT {X : Cx} (hc : X.calm = true) : CallR X (.builtin "sum") (rSumT X.K) := by
  intro pins s σ H vs us Q I r h
  obtain ⟨a, ns, rfl, hs, q⟩ := h
  obtain ⟨its, rv, hl, _⟩ := I.tuple hs
  rw [Vals.ref1 r]
  exact sum_rawT (I.ok.hd hc) hl rv.ints fun h' tk t' hk => ⟨.int _, H, I.kept hk, ⟨_, rfl⟩, q⟩
end Jl

set_option Elab.async false
set_option linter.all false
set_option maxRecDepth 100000
set_option maxHeartbeats 1000000
set_option pp.maxSteps 300
namespace Jl
open PySem PySem.Spec PyProof.Rows L2
open Evl (sz_of sz_lt)
local macro_rules | `(tactic| walk_at "at") => `(tactic| first | exact box0 | exact box1 | exact box2)
local macro_rules | `(tactic| walk_at "sq") => `(tactic| first | (show SqL _ _ _ _; assumption) | (show SqT _ _ _ _; assumption) | (show _ = some _; assumption))
local macro_rules | `(tactic| walk_at "side") => `(tactic| first
  | (show (0 : Int) < _; decide)
  | (show (0 : Int) < _; omega)
  | exact ⟨by decide, by decide, by decide⟩
  | exact sz_of (Nat.le_of_ble_eq_true rfl)
  | exact rfl
  | exact Or.inl (by decide)
  | exact Or.inr (by decide)
  | exact Or.inr ⟨by omega, by omega⟩
  | exact Or.inl ⟨by omega, by omega⟩
  | exact ⟨by decide, by decide +kernel⟩)
local macro_rules | `(tactic| walk_at "ev1") => `(tactic| first
  | refine ⟨_, rfl, ?_⟩
  | refine ⟨_, _, rfl, rfl, ?_⟩
  | refine ⟨_, _, _, _, rfl, rfl, (by walk_at "sq"), (by walk_at "at"), ?_⟩
  | refine ⟨_, _, rfl, (by walk_at "sq"), ?_⟩
  | refine ⟨_, _, rfl, Or.inl (by walk_at "sq"), ?_⟩
  | refine ⟨_, _, rfl, Or.inr (by walk_at "sq"), ?_⟩
  | refine Or.inl ⟨_, rfl, ?_⟩
  | refine Or.inr ⟨_, rfl, ?_⟩
  | refine ⟨(by walk_at "side"), ?_⟩
  | refine ⟨.inl ⟨rfl, _, (by walk_at "sq")⟩, ?_⟩
  | refine ⟨_, _, rfl, ?_⟩)
local macro_rules | `(tactic| walk_at "nrm") => `(tactic| dsimp only [tNil, tCons, tC, tCB])
local macro_rules | `(tactic| walk_at "ev") => `(tactic| repeat (walk_at "ev1"))

abbrev sc_arcs_of_N : List Str := ["net", "scale", "toll", "arcs", "queue", "place", "step", "other", "cost"]
abbrev s_arcs_of : Stmt := topS 10
theorem sc_arcs_of : FnScope ["net", "scale", "toll", "arcs", "queue", "place", "step", "other", "cost"] ["net", "scale", "toll"] (defScope s_arcs_of) := ⟨rfl, rfl, rfl, by decide +kernel, rfl, by decide +kernel, by decide +kernel⟩
/-! ### arcs -/
structure Arc where
  fr : Str
  to : Str
  wt : Int
  nm : Str
  al : Bool
def Arc.d (a : Arc) : PyData := .tuple [.str a.fr, .str a.to, .int a.wt, .tuple [.str a.nm, .str (if a.al = true then alS else agS)]]
def arcsQ (sc tl : Int) (q : QD) : List Arc := [⟨q.st, q.en, sc * q.room - tl, q.nm, true⟩, ⟨q.en, q.st, sc * (1 - q.gap) - tl, q.nm, false⟩]
def arcsF (sc tl : Int) (qs : List QD) : List Arc := qs.flatMap (arcsQ sc tl)
theorem arcs_next {sc tl : Int} {qs : List QD} {i : Nat} {q : QD} (h : qs[i]? = some q) : arcsF sc tl (qs.take (i + 1)) = arcsF sc tl (qs.take i) ++ arcsQ sc tl q := by
  unfold arcsF
  rw [List.take_add_one, h, List.flatMap_append]
  simp
theorem arcs_len {sc tl : Int} : ∀ {qs : List QD}, (arcsF sc tl qs).length = 2 * qs.length
  | [] => rfl
  | q :: qs => by
    have := arcs_len (sc := sc) (tl := tl) (qs := qs)
    unfold arcsF at this ⊢
    rw [List.flatMap_cons, List.length_append, this, List.length_cons]
    show 2 + 2 * qs.length = _
    omega
section
variable {P : Program} {w : World} {K : PySem.W.Frag} {mg : Str → Option Value} {base : Heap}
def spArcs (K : PySem.W.Frag) : Sp := fun vs H Q _ => ∃ (v : V) (fb : Bool) (ws : List Str) (qs : List QD) (sc tl : Int), vs = [v, .int sc, .int tl] ∧ Dp K H v (netD fb ws qs) ∧ (∀ q ∈ qs, q.st ≠ q.en) ∧ qs.length ≤ 1000 ∧ 0 ≤ sc ∧ sc ≤ 10 ^ 9 ∧
  ∀ H' l ys, Same H H' → H l = none → H' l = some (.lst ys) → DpAll K (cutS [l] H') ys ((arcsF sc tl qs).map Arc.d) → Q (.ref l) H'
theorem ok_arcs_of {f fS : Addr} {fd fdS : FuncData} {k : Nat} (F : Fun K "arcs_of" "arcs_of" s_arcs_of f fd)
    (G_step_over : FnOk P w K mg base CX0 k fS fdS ["queue", "place"] (spStep K)) (g_step_over : mg "step_over" = some (.ref fS)) (F_step_over : Fun K "step_over" "step_over" s_step_over fS fdS) (b_step_over : Binds K fdS ["queue", "place"] []) : FnOk P w K mg base CX0 (k + 1) f fd ["net", "scale", "toll"] (spArcs K) := by
  refine F.ok sc_arcs_of (fun vs H Q E h => ?_) (fun cdv A outer s0 H vs Q E hr h => ?_)
  · obtain ⟨v, fb, ws, qs, sc, tl, rfl, _⟩ := h
    rfl
  · obtain ⟨v, fb, ws, qs, sc, tl, rfl, hD, hne, hl, sc0, sc1, q⟩ := h
    refine ⟨_, (pss_cons (ps_set (i := 3) sc_arcs_of.nd rfl (Or.inl rfl) (pe_lst pa_nil)) 
    (pss_cons (ps_forX (ps_for PassesOwn.never rfl (pi_seq (pe_ix ix_lt (pv 0) pe_int (fun _ _ => rfl))) (pg_name (i := 4) sc_arcs_of.nd rfl (Or.inl rfl)) (pss_one (ps_forX (ps_for PassesOwn.never rfl (pi_tup (pe_tup (pa_cons (pe_ix ix_lt (pv 4) pe_int (fun _ _ => rfl)) (pa_cons (pe_ix ix_lt (pv 4) pe_int (fun _ _ => rfl)) pa_nil)))) (pg_name (i := 5) sc_arcs_of.nd rfl (Or.inl rfl)) 
        (pss_cons (ps_asg (pe_call G_step_over hr (by rfl) g_step_over F_step_over.kp b_step_over .nil pass0 (pa_cons (pv 4) (pa_cons (pv 5) pa_nil))) (pg_tup rfl (pgs_cons (pg_name (i := 6) sc_arcs_of.nd rfl (Or.inl rfl)) (pgs_cons (pg_name (i := 7) sc_arcs_of.nd rfl (Or.inl rfl)) (pgs_cons (pg_name (i := 8) sc_arcs_of.nd rfl (Or.inl rfl)) pgs_nil))))) 
        (pss_one (ps_expr (pe_bm PySem.F.plainAttrs_list PySem.F.slot_list_append PySem.F.type_list_append mt_append (pv 3) (pa_cons (pe_tup (pa_cons (pv 5) (pa_cons (pv 7) (pa_cons (pe_op op_sub (pe_op op_mul (pv 1) (pv 8)) (pv 2)) (pa_cons (pv 6) pa_nil))))) pa_nil)))))))))) 
    (pss_one (ps_ret (pv 3))))), ?_⟩
    obtain ⟨a0, a1, a2, xq, rfl, N0⟩ := netAt hD
    have i1 : atI [V.ref a1, V.ref a2] 1 = some (.ref a2) := atI_nat (j := 1) rfl
    walk_at "ev"
    intro l hl0
    have N1 := N0.same (.upd (o := .lst []) hl0)
    refine for_of ?_
    refine iSeq_at (fun R' r => ⟨_, rfl, rIxF_at N1.h0 i1 r⟩) N1.h2 fun J wk => ?_
    refine forR_it wk (fun i σ Hc => ∃ (x4 x5 x6 x7 x8 : Option V) (ys : List V), σ = [some (.ref a0), some (.int sc), some (.int tl), some (.ref l), x4, x5, x6, x7, x8] ∧ Same H Hc ∧ Hc l = some (.lst ys) ∧ DpAll K (cutS [l] Hc) ys ((arcsF sc tl (qs.take i)).map Arc.d)) ⟨_, _, _, _, _, [], rfl, .upd hl0, upd_same, .nil⟩ (fun i σ Hc _ hh => ?_) (fun i v σ Hc Hc' hi hh y => ?_) (fun σ Hc hh => ?_)
    · obtain ⟨x4, x5, x6, x7, x8, ys, rfl, s1, h1, d1⟩ := hh
      exact s1.sqF N0.h2
    · obtain ⟨x4, x5, x6, x7, x8, ys, rfl, s1, h1, d1⟩ := hh
      obtain ⟨rfl, hv⟩ := y
      obtain ⟨qd, aq, hq, rfl, hs⟩ := N0.hq i v hv
      have hs1 := s1.sqF hs
      have hqn := hne qd (List.mem_of_getElem? hq)
      have xl : xq.length = qs.length := N0.ll
      refine for_of ?_
      refine ⟨_, rfl, rIxF_at hs1 (atI_nat (j := 1) rfl) ?_⟩
      refine ⟨_, rfl, rIxF_at hs1 (atI_nat (j := 2) rfl) ?_⟩
      walk_at "ev"
      intro p hp
      refine ⟨p, rfl, ⟨_, sqt_of upd_same⟩, ?_⟩
      have npl : p ≠ l := fun z => by
        rw [z, h1] at hp
        cases hp
      have s2 : Same Hc' (upd Hc' p (.tup [.str qd.st, .str qd.en])) := .upd hp
      have hp2 : SqT K (cutS [l] (upd Hc' p (.tup [.str qd.st, .str qd.en]))) p [.str qd.st, .str qd.en] := sqt_of (cutS_at upd_same (not1 npl))
      have h2 : (upd Hc' p (.tup [.str qd.st, .str qd.en])) l = some (.lst ys) := s2 _ _ h1
      have d2 : DpAll K (cutS [l] (upd Hc' p (.tup [.str qd.st, .str qd.en]))) ys ((arcsF sc tl (qs.take i)).map Arc.d) := (cutS_mono s2).dpa d1
      have s12 := s1.trans s2
      clear d1 h1 s1 hs1
      generalize upd Hc' p (.tup [.str qd.st, .str qd.en]) = H2 at s2 hp2 h2 d2 s12 ⊢
      have hn2 : cutS [l] H2 l = none := cutS_in List.mem_cons_self
      refine forR_it (walk_tup (xs := [.str qd.st, .str qd.en])) (fun j σ H3 => ∃ (x5 x6 x7 x8 : Option V) (ys : List V), σ = [some (.ref a0), some (.int sc), some (.int tl), some (.ref l), some (.ref aq), x5, x6, x7, x8] ∧ Same H H3 ∧ Same (cutS [l] H2) H3 ∧ H3 l = some (.lst ys) ∧ DpAll K (cutS [l] H3) ys ((arcsF sc tl (qs.take i) ++ (arcsQ sc tl qd).take j).map Arc.d)) ⟨_, _, _, _, _, rfl, s12, cutS_le, h2, by rw [List.take_zero, List.append_nil]; exact d2⟩ (fun j σ H3 _ hh => ?_) (fun j v σ H3 H3' hj hh y => ?_) (fun σ H3 hh => ?_)
      · obtain ⟨x5, x6, x7, x8, ys, rfl, s3, s4, h3, d3⟩ := hh
        exact s4.sqT hp2
      · obtain ⟨x5, x6, x7, x8, ys, rfl, s3, s4, h3, d3⟩ := hh
        obtain ⟨rfl, hv⟩ := y
        have hw : ∃ wn, v = .str wn ∧ (wn = qd.st ∧ j = 0 ∨ wn = qd.en ∧ j = 1) := by
          match j, hj, hv with
          | 0, _, hv => exact ⟨_, (Option.some.inj hv).symm, .inl ⟨rfl, rfl⟩⟩
          | 1, _, hv => exact ⟨_, (Option.some.inj hv).symm, .inr ⟨rfl, rfl⟩⟩
        obtain ⟨wn, rfl, hwj⟩ := hw
        have lys := dpa_len d3
        rw [List.length_map, List.length_append, arcs_len] at lys
        have l1 : (qs.take i).length ≤ 1000 := by rw [List.length_take]; omega
        have l2 : ((arcsQ sc tl qd).take j).length ≤ 2 := by rw [List.length_take]; exact Nat.min_le_right _ _
        refine ⟨_, rfl, _, rfl, ?_⟩
        refine ⟨aq, fb, qd.nm, qd.st, qd.en, qd.room, qd.gap, wn, [l], rfl, s3.sqF hs, Trk.cons Trk.nil h3, hqn, hwj.imp And.left And.left, fun H4 v s5 d5 => ?_⟩
        have h4 := s5 _ _ h3
        have d4 := (cutS_mono (S := [l]) s5).dpa d3
        obtain ⟨al, to, pr, d6, et⟩ : ∃ (al : Bool) (to : Str) (pr : Int), Dp K (cutS [l] H4) v (mvd qd.nm al to pr) ∧ (arcsQ sc tl qd).take (j + 1) = (arcsQ sc tl qd).take j ++ [⟨wn, to, sc * pr - tl, qd.nm, al⟩] := by
          rcases hwj with ⟨rfl, rfl⟩ | ⟨rfl, rfl⟩
          · rw [if_pos rfl] at d5
            exact ⟨_, _, _, d5, rfl⟩
          · rw [if_neg (Ne.symm hqn)] at d5
            exact ⟨_, _, _, d5, rfl⟩
        obtain ⟨t, xt, rfl, hts, hta⟩ := Dp.seq_of (f := true) d6
        cases hta with
        | @cons v' _ _ _ k1 hta =>
          cases hta with
          | cons k2 hta =>
            cases hta with
            | cons k3 hta =>
              cases hta
              cases k2
              cases k3
              refine ⟨t, _, rfl, cutS_le.sqT hts, rfl, _, _, rfl, _, _, rfl, _, _, rfl, rfl, ?_⟩
              have hq4 : SqL K H4 l ys := sql_of h4
              refine ⟨_, rfl, .inl ⟨rfl, _, hq4⟩, ?_⟩
              have hcm : CMul sc pr := .inl ⟨by omega, by omega⟩
              refine ⟨_, rfl, _, rfl, _, rfl, _, rfl, _, _, rfl, rfl, hcm, ?_⟩
              walk_at "ev"
              intro p2 hp2'
              refine ⟨l, ys, _, rfl, rfl, (Same.upd hp2') _ _ h4, szL (by omega), ?_⟩
              have s6 : Same H4 (upd H4 p2 (.tup [.str wn, .str to, .int (sc * pr - tl), v'])) := .upd hp2'
              refine ⟨_, _, _, _, _, rfl, ((s3.trans s5).trans s6).mut hl0, ((s4.trans s5).trans s6).mut hn2, upd_same, ?_⟩
              rw [cutS_upd List.mem_cons_self, et, ← List.append_assoc, List.map_append]
              exact dpa_app ((cutS_mono s6).dpa d4) (dpa_one (dp_tup (Trk.cons Trk.nil h4) hp2' (.cons (.str _) (.cons (.str _) (.cons (.int _) (.cons k1 .nil))))))
      · obtain ⟨x5, x6, x7, x8, ys, rfl, s3, s4, h3, d3⟩ := hh
        exact ⟨_, _, _, _, _, ys, rfl, s3, h3, by rw [arcs_next hq]; exact d3⟩
    · obtain ⟨x4, x5, x6, x7, x8, ys, rfl, s1, h1, d1⟩ := hh
      rw [show xq.length = qs.length from N0.ll, List.take_length] at d1
      walk_at "ev"
      exact q Hc l ys s1 hl0 h1 d1
end
end Jl

set_option Elab.async false
set_option linter.all false
set_option maxRecDepth 100000
set_option maxHeartbeats 1000000
set_option pp.maxSteps 300
namespace Jl
open PySem PySem.Spec PyProof.Rows L2
open Evl (sz_of sz_lt)
theorem dc_it {J : It} {n : Nat} {G : Hp → Prop} {Y : Nat → Hp → V → Hp → Prop} (w : Walk J n G Y) {g : TG} {tt : TT} {tk tv : TE} {vs : List Nat} {σ : L2.St} {H1 : Hp} {D : Addr} {Qd : Hp → Prop} (Pv : Nat → Hp → Prop) (h0 : Pv 0 (upd H1 D (.dK []))) (hG : ∀ i H, i ≤ n → Pv i H → G H)
    (hs : ∀ i x H H', i < n → Pv i H → Y i H x H' → g x (wipe σ vs) H' fun σ2 H2 => wipe σ2 vs = wipe σ vs ∧ tt σ2 H2 fun b H3 =>
      if b = true then tk σ2 H3 fun y H4 => tv σ2 H4 fun z H5 => ∃ kvs k, y = kV k ∧ H5 D = some (.dK kvs) ∧ kvs.length < sizeLine ∧ Pv (i + 1) (upd H5 D (.dK (putK kvs k z))) else Pv (i + 1) H3) (hd : ∀ H, Pv n H → Qd H) :
    ∃ W : Nat → Nat → Hp → Prop, (∃ m, W 0 m (upd H1 D (.dK []))) ∧ ∀ i m H, W i m H →
      (J.stop i H ∧ Qd H) ∨ (J.go i H ∧ ∃ Nx : Hp → Prop, (∀ H', Nx H' → ∃ m', m' < m ∧ W (i + 1) m' H') ∧ ∀ x H', J.yld i H x H' → g x (wipe σ vs) H' fun σ2 H2 => wipe σ2 vs = wipe σ vs ∧ tt σ2 H2 fun b H3 =>
        if b = true then tk σ2 H3 fun y H4 => tv σ2 H4 fun z H5 => ∃ kvs k, y = kV k ∧ H5 D = some (.dK kvs) ∧ kvs.length < sizeLine ∧ Nx (upd H5 D (.dK (putK kvs k z))) else Nx H3) := by
  refine ⟨fun i m H => m = n - i ∧ i ≤ n ∧ Pv i H, ⟨n, by simp, Nat.zero_le _, h0⟩, ?_⟩
  rintro i m H ⟨rfl, hi, p⟩
  have q := hG i H hi p
  by_cases hlt : i < n
  · refine .inr ⟨w.goes i H hlt q, Pv (i + 1), fun H' p' => ⟨n - (i + 1), by omega, rfl, hlt, p'⟩, fun x H' y => hs i x H H' hlt p (w.yields i H x H' hlt q y)⟩
  · have e : i = n := by omega
    subst e
    exact .inl ⟨w.stops H q, hd H p⟩
theorem lcw {K : PySem.W.Frag} {J : It} {g : TG} {te : TE} {tt : TT} {vs : List Nat} {σ : L2.St} {H0 : Hp} {Q : VK} {xs : List V} {G : Hp → Prop} {α : Type} (zs : List α) (f h : α → PyData) (t : α → Bool) (B : α → L2.St → Prop)
    (w : Walk J xs.length G (YAt xs)) (hG : ∀ H', Same H0 H' → G H') (ha : DpAll K H0 xs (zs.map f)) (hl : zs.length ≤ 4000000)
    (hg : ∀ (x : V) (z : α) (H1 : Hp) (R : L2.St → Hp → Prop), z ∈ zs → Same H0 H1 → Dp K H0 x (f z) → (∀ σ2, B z σ2 → wipe σ2 vs = wipe σ vs → R σ2 H1) → g x (wipe σ vs) H1 R)
    (hte : ∀ (z : α) (H1 : Hp) (σ2 : L2.St), z ∈ zs → Same H0 H1 → B z σ2 → ∀ Q' : Bool → Hp → Prop, (∀ H2, Same H1 H2 → Q' (t z) H2) → tt σ2 H1 Q')
    (he : ∀ (z : α) (H2 : Hp) (σ2 : L2.St) (T : List Addr), z ∈ zs → t z = true → Same H0 H2 → Same H0 (cutS T H2) → Trk T H2 → B z σ2 → ∀ Q' : VK, (∀ H3 u, Same H2 H3 → Dp K (cutS T H3) u (h z) → Q' u H3) → te σ2 H2 Q')
    (q : ∀ D ys H', Same H0 H' → H0 D = none → H' D = some (.lst ys) → DpAll K (cutS [D] H') ys ((zs.filter t).map h) → Q (.ref D) H') :
    ∀ D, H0 D = none → ∃ W : Nat → Nat → Hp → Prop, (∃ m, W 0 m (upd H0 D (.lst []))) ∧ ∀ i m H, W i m H →
      (J.stop i H ∧ Q (.ref D) H) ∨ (J.go i H ∧ ∃ Nx : Hp → Prop, (∀ H', Nx H' → ∃ m', m' < m ∧ W (i + 1) m' H') ∧ ∀ x H', J.yld i H x H' → g x (wipe σ vs) H' fun σ2 H2 => wipe σ2 vs = wipe σ vs ∧ tt σ2 H2 fun b H3 =>
        if b = true then te σ2 H3 fun y H4 => ∃ acc, H4 D = some (.lst acc) ∧ acc.length < sizeLine ∧ Nx (upd H4 D (.lst (acc ++ [y]))) else Nx H3) := fun D hD => by
  have ll := dpa_len ha
  rw [List.length_map] at ll
  refine lc_it w (Qd := fun H => Q (.ref D) H) (fun i H1 => ∃ ys, Same H0 H1 ∧ H1 D = some (.lst ys) ∧ DpAll K (cutS [D] H1) ys (((zs.take i).filter t).map h)) ⟨[], .upd hD, upd_same, .nil⟩ (fun i H1 _ p => ?_) (fun i x H1 H1' hi p y => ?_) (fun H1 p => ?_)
  · obtain ⟨ys, e1, _⟩ := p
    exact hG _ e1
  · obtain ⟨ys, e1, e2, e3⟩ := p
    obtain ⟨rfl, hx⟩ := y
    obtain ⟨d, hd, hxd⟩ := dpa_get ha hx
    rw [List.getElem?_map] at hd
    cases hz : zs[i]? with
    | none =>
      rw [hz] at hd
      cases hd
    | some z =>
      rw [hz] at hd
      cases hd
      have hzm := List.mem_of_getElem? hz
      refine hg x z H1' _ hzm e1 hxd fun σ2 hB hw => ⟨hw, ?_⟩
      refine hte z H1' σ2 hzm e1 hB _ fun H2 s12 => ?_
      have e2' := s12 _ _ e2
      have yl : ys.length ≤ i := by
        rw [dpa_len e3, List.length_map]
        exact Nat.le_trans (List.length_filter_le _ _) (by rw [List.length_take]; omega)
      have ht2 : zs.take (i + 1) = zs.take i ++ [z] := by rw [List.take_add_one, hz]; rfl
      by_cases hg : t z = true
      · rw [if_pos hg]
        have eT : Same H0 (cutS [D] H2) := fun a o ha => by
          rw [cutS_out (not1 (ne_of_none ha hD))]
          exact (e1.trans s12) a o ha
        refine he z H2 σ2 [D] hzm hg (e1.trans s12) eT (Trk.cons Trk.nil e2') hB _ fun H3 u s2 hy => ?_
        refine ⟨ys, s2 _ _ e2', szL (by omega), ys ++ [u], ((e1.trans s12).trans s2).mut hD, upd_same, ?_⟩
        rw [cutS_upd List.mem_cons_self, ht2, List.filter_append, show [z].filter t = [z] by simp [hg], List.map_append]
        exact dpa_app ((cutS_mono (s12.trans s2)).dpa e3) (dpa_one hy)
      · rw [if_neg hg]
        refine ⟨ys, e1.trans s12, e2', ?_⟩
        rw [ht2, List.filter_append, show [z].filter t = [] by simp [hg], List.append_nil]
        exact (cutS_mono s12).dpa e3
  · obtain ⟨ys, e1, e2, e3⟩ := p
    refine q D ys H1 e1 hD e2 ?_
    have e4 : zs.take xs.length = zs := List.take_of_length_le (by omega)
    rw [e4] at e3
    exact e3
theorem dpa_of_get {K : PySem.W.Frag} {H : Hp} : ∀ {xs : List V} {ds : List PyData}, xs.length = ds.length → (∀ (i : Nat) (v : V), xs[i]? = some v → ∃ d, ds[i]? = some d ∧ Dp K H v d) → DpAll K H xs ds
  | [], [], _, _ => .nil
  | [], _ :: _, h, _ => nomatch h
  | _ :: _, [], h, _ => nomatch h
  | x :: xs, d :: ds, h, g => .cons (by
      obtain ⟨d', h1, h2⟩ := g 0 x rfl
      cases h1
      exact h2) (dpa_of_get (by simpa using h) fun i v hv => g (i + 1) v hv)
theorem dp_row {K : PySem.W.Frag} {H : Hp} {fb : Bool} {a : Addr} {q : QD} (h : SqF fb K H a [.str q.nm, .str q.st, .str q.en, .int q.room, .int q.gap]) : Dp K H (.ref a) (q.d fb) := by
  have d : DpAll K H [V.str q.nm, .str q.st, .str q.en, .int q.room, .int q.gap] [.str q.nm, .str q.st, .str q.en, .int q.room, .int q.gap] := .cons (.str _) (.cons (.str _) (.cons (.str _) (.cons (.int _) (.cons (.int _) .nil))))
  cases fb with
  | false => exact .lst h d
  | true => exact .tup h d
theorem net_all {K : PySem.W.Frag} {H : Hp} {fb : Bool} {a0 a1 a2 : Addr} {ws : List Str} {qs : List QD} {xq : List V} (N : NetAt K H fb a0 a1 a2 ws qs xq) : DpAll K H xq (qs.map (QD.d fb)) := dpa_of_get (by rw [List.length_map]; exact N.ll) fun i v hv => by
  obtain ⟨q, a, h1, rfl, h2⟩ := N.hq i v hv
  exact ⟨q.d fb, by rw [List.getElem?_map, h1]; rfl, dp_row h2⟩
theorem dp_q {K : PySem.W.Frag} {H : Hp} {v : V} {fb : Bool} {q : QD} (h : Dp K H v (q.d fb)) : ∃ a, v = .ref a ∧ SqF fb K H a [.str q.nm, .str q.st, .str q.en, .int q.room, .int q.gap] := by
  obtain ⟨a, x, rfl, g1, g2⟩ := Dp.seq_of h
  cases g2 with
  | cons c1 g2 =>
    cases g2 with
    | cons c2 g2 =>
      cases g2 with
      | cons c3 g2 =>
        cases g2 with
        | cons c4 g2 =>
          cases g2 with
          | cons c5 g2 =>
            cases g2
            cases c1
            cases c2
            cases c3
            cases c4
            cases c5
            exact ⟨a, rfl, g1⟩
theorem flat_strs : ∀ {xs : List Str}, (xs.map V.str).all flatV = true
  | [] => rfl
  | x :: xs => by
    rw [List.map_cons, List.all_cons, flat_strs]
    rfl
end Jl

set_option Elab.async false
set_option linter.all false
set_option maxRecDepth 100000
set_option maxHeartbeats 1000000
set_option pp.maxSteps 300
namespace Jl
open PySem PySem.Spec PyProof.Rows L2
open Evl (sz_of sz_lt)
local macro_rules | `(tactic| walk_at "at") => `(tactic| first | exact box0 | exact box1 | exact box2)
local macro_rules | `(tactic| walk_at "sq") => `(tactic| first | (show SqL _ _ _ _; assumption) | (show SqT _ _ _ _; assumption) | (show _ = some _; assumption))
local macro_rules | `(tactic| walk_at "side") => `(tactic| first
  | (show (0 : Int) < _; decide)
  | (show (0 : Int) < _; omega)
  | exact ⟨by decide, by decide, by decide⟩
  | exact sz_of (Nat.le_of_ble_eq_true rfl)
  | exact rfl
  | exact Or.inl (by decide)
  | exact Or.inr (by decide)
  | exact Or.inr ⟨by omega, by omega⟩
  | exact Or.inl ⟨by omega, by omega⟩
  | exact ⟨by decide, by decide +kernel⟩)
local macro_rules | `(tactic| walk_at "ev1") => `(tactic| first
  | refine ⟨_, rfl, ?_⟩
  | refine ⟨_, _, rfl, rfl, ?_⟩
  | refine ⟨_, _, _, _, rfl, rfl, (by walk_at "sq"), (by walk_at "at"), ?_⟩
  | refine ⟨_, _, rfl, (by walk_at "sq"), ?_⟩
  | refine ⟨_, _, rfl, Or.inl (by walk_at "sq"), ?_⟩
  | refine ⟨_, _, rfl, Or.inr (by walk_at "sq"), ?_⟩
  | refine Or.inl ⟨_, rfl, ?_⟩
  | refine Or.inr ⟨_, rfl, ?_⟩
  | refine ⟨(by walk_at "side"), ?_⟩
  | refine ⟨.inl ⟨rfl, _, (by walk_at "sq")⟩, ?_⟩
  | refine ⟨_, _, rfl, ?_⟩)
local macro_rules | `(tactic| walk_at "nrm") => `(tactic| dsimp only [tNil, tCons, tC, tCB])
local macro_rules | `(tactic| walk_at "ev") => `(tactic| repeat (walk_at "ev1"))

abbrev sc_least_sums_N : List Str := ["arcs", "first", "sums", "last", "lowered", "_", "arc", "total", "node"]
abbrev s_least_sums : Stmt := topS 11
theorem sc_least_sums : FnScope ["arcs", "first", "sums", "last", "lowered", "_", "arc", "total", "node"] ["arcs", "first"] (defScope s_least_sums) := ⟨rfl, rfl, rfl, by decide +kernel, rfl, by decide +kernel, by decide +kernel⟩
/-! ### dicts of texts -/
def lk {α : Type} : List (Str × α) → Str → Option α
  | [], _ => none
  | p :: m, k => if p.1 = k then some p.2 else lk m k
def putM {α : Type} (m : List (Str × α)) (k : Str) (v : α) : List (Str × α) := if (lk m k).isSome = true then m.map fun p => if p.1 = k then (p.1, v) else p else m ++ [(k, v)]
def kvM {α : Type} (f : α → V) (m : List (Str × α)) : List (Key × V) := m.map fun p => ((.inr p.1 : Key), f p.2)
theorem val_kvM {α : Type} {f : α → V} {k : Str} : ∀ {m : List (Str × α)}, valV (kvM f m) (.inr k) = (lk m k).map f
  | [] => rfl
  | p :: m => by
    unfold lk
    by_cases e : p.1 = k
    · rw [if_pos e, kvM, List.map_cons, valV_pos (show (Sum.inr p.1 : Key) = .inr k by rw [e])]
      rfl
    · rw [if_neg e, kvM, List.map_cons, valV_neg (fun z => e (Sum.inr.inj z))]
      exact val_kvM
theorem put_kvM {α : Type} {f : α → V} {m : List (Str × α)} {k : Str} {v : α} : putK (kvM f m) (.inr k) (f v) = kvM f (putM m k v) := by
  unfold putK putM
  rw [valV_any, val_kvM, Option.isSome_map]
  by_cases h : (lk m k).isSome = true
  · rw [if_pos h, if_pos h]
    unfold kvM
    rw [List.map_map, List.map_map]
    apply List.map_congr_left
    intro p _
    show (if (Sum.inr p.1 : Key) = .inr k then ((Sum.inr p.1 : Key), f v) else (.inr p.1, f p.2)) = ((.inr (if p.1 = k then (p.1, v) else p).1 : Key), f (if p.1 = k then (p.1, v) else p).2)
    by_cases e : p.1 = k
    · rw [if_pos (by rw [e]), if_pos e]
    · rw [if_neg (fun z => e (Sum.inr.inj z)), if_neg e]
  · rw [if_neg h, if_neg h]
    unfold kvM
    rw [List.map_append]
    rfl
theorem putM_len {α : Type} {m : List (Str × α)} {k : Str} {v : α} : (putM m k v).length ≤ m.length + 1 := by
  unfold putM
  split
  · rw [List.length_map]
    omega
  · rw [List.length_append]
    exact Nat.le_refl _
theorem kvM_len {α : Type} {f : α → V} {m : List (Str × α)} : (kvM f m).length = m.length := List.length_map ..
theorem lk_none {α : Type} {k : Str} : ∀ {m : List (Str × α)}, k ∉ m.map (·.1) → lk m k = none
  | [], _ => rfl
  | p :: m, h => by
    unfold lk
    rw [if_neg fun e => h (by rw [← e]; exact List.mem_cons_self)]
    exact lk_none fun z => h (List.mem_cons_of_mem _ z)
theorem lk_mem {α : Type} {p : Str × α} : ∀ {m : List (Str × α)}, (m.map (·.1)).Nodup → p ∈ m → lk m p.1 = some p.2
  | q :: m, hn, h => by
    unfold lk
    rw [List.map_cons, List.nodup_cons] at hn
    rcases List.mem_cons.mp h with h | h
    · rw [if_pos (by rw [h]), h]
    · rw [if_neg fun e => hn.1 (by rw [e]; exact List.mem_map.mpr ⟨p, h, rfl⟩)]
      exact lk_mem hn.2 h
/-! ### least sums -/
structure LS where
  sums : List (Str × Int)
  last : List (Str × Nat)
  low : Option Str
def better (s : LS) (a : Arc) (x : Int) : Bool := match lk s.sums a.to with
  | none => true
  | some y => decide (x < y)
def relaxA (as : List Arc) (s : LS) (i : Nat) : LS := match as[i]? with
  | none => s
  | some a => match lk s.sums a.fr with
    | none => s
    | some x => if better s a (x + a.wt) = true then ⟨putM s.sums a.to (x + a.wt), putM s.last a.to i, some a.to⟩ else s
def roundN (as : List Arc) (s : LS) (n : Nat) : LS := (List.range n).foldl (relaxA as) { s with low := none }
def turns (as : List Arc) : Nat → LS → LS
  | 0, s => s
  | n + 1, s => if (roundN as s as.length).low = none then roundN as s as.length else turns as n (roundN as s as.length)
def leastN (as : List Arc) (f0 : List (Str × Int)) : Nat := (dedS (f0.map (·.1) ++ as.map (·.to))).length
def leastF (as : List Arc) (f0 : List (Str × Int)) : LS := turns as (leastN as f0) ⟨f0, [], none⟩
theorem round_next {as : List Arc} {s : LS} {n : Nat} : roundN as s (n + 1) = relaxA as (roundN as s n) n := by
  unfold roundN
  rw [List.range_succ, List.foldl_append]
  rfl
theorem relaxA_none {as : List Arc} {s : LS} {i : Nat} {a : Arc} (h : as[i]? = some a) (h2 : lk s.sums a.fr = none) : relaxA as s i = s := by
  unfold relaxA
  rw [h]
  dsimp only
  rw [h2]
theorem relaxA_yes {as : List Arc} {s : LS} {i : Nat} {a : Arc} {x : Int} (h : as[i]? = some a) (h2 : lk s.sums a.fr = some x) (h3 : better s a (x + a.wt) = true) : relaxA as s i = ⟨putM s.sums a.to (x + a.wt), putM s.last a.to i, some a.to⟩ := by
  unfold relaxA
  rw [h]
  dsimp only
  rw [h2]
  dsimp only
  rw [if_pos h3]
theorem relaxA_no {as : List Arc} {s : LS} {i : Nat} {a : Arc} {x : Int} (h : as[i]? = some a) (h2 : lk s.sums a.fr = some x) (h3 : better s a (x + a.wt) = false) : relaxA as s i = s := by
  unfold relaxA
  rw [h]
  dsimp only
  rw [h2]
  dsimp only
  rw [h3]
  rfl
theorem relaxA_len {as : List Arc} {s : LS} {i : Nat} : (relaxA as s i).sums.length ≤ s.sums.length + 1 ∧ (relaxA as s i).last.length ≤ s.last.length + 1 := by
  unfold relaxA
  split
  · exact ⟨by omega, by omega⟩
  · split
    · exact ⟨by omega, by omega⟩
    · split
      · exact ⟨putM_len, putM_len⟩
      · exact ⟨by omega, by omega⟩
theorem round_len {as : List Arc} {s : LS} : ∀ {n : Nat}, (roundN as s n).sums.length ≤ s.sums.length + n ∧ (roundN as s n).last.length ≤ s.last.length + n
  | 0 => ⟨Nat.le_refl _, Nat.le_refl _⟩
  | n + 1 => by
    rw [round_next]
    have h1 := relaxA_len (as := as) (s := roundN as s n) (i := n)
    have h2 := round_len (as := as) (s := s) (n := n)
    exact ⟨by omega, by omega⟩
def lowV : Option Str → V
  | none => .non
  | some x => .str x
theorem lowV_non {o : Option Str} : decide (lowV o = .non) = decide (o = none) := by
  cases o with
  | none => rfl
  | some x => rw [decide_eq_false (by intro z; cases z), decide_eq_false (by intro z; cases z)]
theorem arc_row {K : PySem.W.Frag} {H : Hp} {v : V} {a : Arc} (h : Dp K H v a.d) : ∃ t v4, v = .ref t ∧ SqT K H t [.str a.fr, .str a.to, .int a.wt, v4] := by
  have h' : Dp K H v (seqD true [.str a.fr, .str a.to, .int a.wt, .tuple [.str a.nm, .str (if a.al = true then alS else agS)]]) := h
  obtain ⟨t, xt, rfl, hts, hta⟩ := Dp.seq_of h'
  cases hta with
  | cons k1 hta =>
    cases hta with
    | cons k2 hta =>
      cases hta with
      | cons k3 hta =>
        cases hta with
        | cons k4 hta =>
          cases hta
          cases k1
          cases k2
          cases k3
          exact ⟨t, _, rfl, hts⟩
section
variable {P : Program} {w : World} {K : PySem.W.Frag} {mg : Str → Option Value} {base : Heap}
def spLeast (K : PySem.W.Frag) : Sp := fun vs H Q _ => ∃ (la fa : Addr) (ys : List V) (as : List Arc) (f0 : List (Str × Int)), vs = [.ref la, .ref fa] ∧ SqL K H la ys ∧ DpAll K H ys (as.map Arc.d) ∧ H fa = some (.dK (kvM V.int f0)) ∧ (f0.map (·.1)).Nodup ∧ f0.length ≤ 1000 ∧ as.length ≤ 1000 ∧
  ∀ H' p S L, Same H H' → H p = none → H S = none → H L = none → H' p = some (.tup [.ref S, .ref L, lowV (leastF as f0).low]) → H' S = some (.dK (kvM V.int (leastF as f0).sums)) → H' L = some (.dK (kvM (fun i => ys.getD i .non) (leastF as f0).last)) → Q (.ref p) H'
theorem ok_least_sums {f : Addr} {fd : FuncData} {k : Nat} (F : Fun K "least_sums" "least_sums" s_least_sums f fd) (m_len : mg "len" = none) (m_set : mg "set" = none) (m_list : mg "list" = none) (m_range : mg "range" = none) : FnOk P w K mg base CX0 (k + 1) f fd ["arcs", "first"] (spLeast K) := by
  refine F.ok sc_least_sums (fun vs H Q E h => ?_) (fun cdv A outer s0 H vs Q E hr h => ?_)
  · obtain ⟨la, fa, ys, as, f0, rfl, _⟩ := h
    rfl
  · obtain ⟨la, fa, ys, as, f0, rfl, hla, hda, hfa, hnd, hf1, ha1, q⟩ := h
    have hu := hu_of hr
    refine ⟨_, (pss_cons (ps_lock (ps_setDcX (ps_setDc (i := 2) (own := [("node", 8)]) (g := gName 8) (tt := tYes) rfl sc_least_sums.nd rfl rfl (swd_true rfl rfl rfl (by decide +kernel)) (pi_keys (pv 1)) (blkOk_by (own := [("node", 8)]) (N := sc_least_sums_N) (sc := defScope s_least_sums) (by decide +kernel)) (fun _ _ _ _ _ => pg_name (i := 8) sc_least_sums.nd rfl (Or.inl rfl)) (fun _ _ _ _ _ => pts_nil) (fun _ _ _ _ _ => (pv 8)) (fun _ _ _ _ _ => (pe_dget hu (pv 1) (pv 8) (fun _ _ => rfl)))))) 
    (pss_cons (ps_set (i := 3) sc_least_sums.nd rfl (Or.inl rfl) pe_dnewK) 
    (pss_cons (ps_set (i := 4) sc_least_sums.nd rfl (Or.inl rfl) pe_non) 
    (pss_cons (ps_forX (ps_for PassesOwn.never rfl (pi_range1 (by rfl) m_range (pa_cons (pe_lenSetD (by rfl) m_len (by rfl) m_set (pe_op op_cat (pe_callTy (call_listD rfl) (by rfl) m_list (by decide +kernel) (pa_cons (pv 1) pa_nil)) (pe_lcX (pe_lc (own := [("arc", 6)]) (g := gName 6) (tt := tYes) (te := tOp (rIxF K) (tVar 6) (tC (.int 1))) (by rfl) sc_least_sums.nd (pi_seq (pv 0)) (blkOk_by (own := [("arc", 6)]) (N := sc_least_sums_N) (sc := defScope s_least_sums) (by decide +kernel)) (fun _ _ _ _ _ => pg_name (i := 6) sc_least_sums.nd rfl (Or.inl rfl)) (fun _ _ _ _ _ => pts_nil) (fun _ _ _ _ _ => (pe_ix ix_lt (pv 6) pe_int (fun _ _ => rfl))))))) pa_nil)) (pg_name (i := 5) sc_least_sums.nd rfl (Or.inl rfl)) 
      (pss_cons (ps_set (i := 4) sc_least_sums.nd rfl (Or.inl rfl) pe_non) 
      (pss_cons (ps_forX (ps_for PassesOwn.never rfl (pi_seq (pv 0)) (pg_name (i := 6) sc_least_sums.nd rfl (Or.inl rfl)) (pss_one (ps_if (pt_cmp (pc_din hu (pe_ix ix_lt (pv 6) pe_int (fun _ _ => rfl)) (pv 2))) 
          (pss_cons (ps_set (i := 7) sc_least_sums.nd rfl (Or.inl rfl) (pe_op op_add (pe_dget hu (pv 2) (pe_ix ix_lt (pv 6) pe_int (fun _ _ => rfl)) (fun _ _ => rfl)) (pe_ix ix_lt (pv 6) pe_int (fun _ _ => rfl)))) 
          (pss_one (ps_if (PW.pt (pw_or (pt_cmp (pc_dnotin hu (pe_ix ix_lt (pv 6) pe_int (fun _ _ => rfl)) (pv 2))) (pw_or1 (pt_cmpR op_lt (pv 7) (pe_dget hu (pv 2) (pe_ix ix_lt (pv 6) pe_int (fun _ _ => rfl)) (fun _ _ => rfl)) (nomark _))))) 
            (pss_cons (ps_dput hu (pv 2) (pe_ix ix_lt (pv 6) pe_int (fun _ _ => rfl)) (pv 7) rfl) 
            (pss_cons (ps_dput hu (pv 3) (pe_ix ix_lt (pv 6) pe_int (fun _ _ => rfl)) (pv 6) rfl) 
            (pss_one (ps_set (i := 4) sc_least_sums.nd rfl (Or.inl rfl) (pe_ix ix_lt (pv 6) pe_int (fun _ _ => rfl)))))) pss_nil))) pss_nil)))) 
      (pss_one (ps_if (pt_cmpR op_isN (pv 4) pe_non (nomark _)) (pss_one (ps_ret (pe_tup (pa_cons (pv 2) (pa_cons (pv 3) (pa_cons pe_non pa_nil)))))) pss_nil)))))) 
    (pss_one (ps_ret (pe_tup (pa_cons (pv 2) (pa_cons (pv 3) (pa_cons (pv 4) pa_nil)))))))))), ?_⟩
    refine ⟨fa, .dK (kvM V.int f0), hfa, trivial, fun od => ?_⟩
    have hF3 : (upd H fa (.frz od (.dK (kvM V.int f0)))) fa = some (.frz od (.dK (kvM V.int f0))) := upd_same
    have back : ∀ H4, Same (upd H fa (.frz od (.dK (kvM V.int f0)))) H4 → Same H (upd H4 fa (.dK (kvM V.int f0))) := fun H4 s4 a o ha => by
      by_cases ea : a = fa
      · rw [ea, upd_same, ← hfa, ← ea]
        exact ha
      · rw [upd_ne ea]
        refine s4 _ _ ?_
        rw [upd_ne ea]
        exact ha
    have free : ∀ a, (upd H fa (.frz od (.dK (kvM V.int f0)))) a = none → H a = none := fun a ha => by
      by_cases ea : a = fa
      · rw [ea, upd_same] at ha
        cases ha
      · rw [upd_ne ea] at ha
        exact ha
    generalize upd H fa (.frz od (.dK (kvM V.int f0))) = H3 at hF3 back free ⊢
    refine dc_of ?_
    refine ⟨_, rfl, fa, od, rfl, .inl ⟨kvM V.int f0, hF3, fun D2 hD2 => ?_⟩⟩
    refine dc_it walk_keys (fun i H' => Same H3 H' ∧ H' D2 = some (.dK (kvM V.int (f0.take i)))) ⟨.upd hD2, upd_same⟩ (fun i H' _ p => p.1 _ _ hF3) (fun i x H1 H1' hi p y => ?_) (fun H4 p => ?_)
    · obtain ⟨s1, h1⟩ := p
      obtain ⟨rfl, k1, v1, hk, rfl⟩ := y
      unfold kvM at hk
      rw [List.getElem?_map] at hk
      cases hz : f0[i]? with
      | none =>
        rw [hz] at hk
        cases hk
      | some z =>
        rw [hz] at hk
        cases hk
        have ht : f0.take (i + 1) = f0.take i ++ [z] := by rw [List.take_add_one, hz]; rfl
        have hno : z.1 ∉ (f0.take i).map (·.1) := fun hz2 => by
          rw [List.map_take] at hz2
          obtain ⟨k, hk1, hk2⟩ := List.mem_take_iff_getElem.mp hz2
          rw [List.length_map] at hk1
          have := nd_ix hnd (x := z.1) (by rw [List.getElem?_map, hz]; rfl) (by rw [List.getElem?_eq_getElem (show k < (f0.map (·.1)).length by rw [List.length_map]; omega)]; exact congrArg some hk2)
          omega
        have lti : i < f0.length := by
          rw [kvM_len] at hi
          exact hi
        refine ⟨rfl, ?_⟩
        dsimp only [tYes]
        refine iteT ?_
        refine ⟨_, rfl, ?_⟩
        have g1 : DGet H1' fa (kV (.inr z.1)) (some (.int z.2)) := .inl ⟨_, .inr z.1, .inr ⟨od, s1 _ _ hF3⟩, rfl, by rw [val_kvM, lk_mem hnd (List.mem_of_getElem? hz)]; rfl⟩
        refine ⟨_, rfl, _, rfl, fa, _, rfl, g1, ?_⟩
        refine ⟨_, .inr z.1, rfl, h1, by rw [kvM_len, List.length_take]; exact szL (by omega), s1.mut hD2, ?_⟩
        rw [upd_same, put_kvM (f := V.int), ht]
        unfold putM
        rw [lk_none hno]
        rfl
    · obtain ⟨s4, h4⟩ := p
      rw [kvM_len, List.take_length] at h4
      have nD2 : D2 ≠ fa := fun z => by
        rw [z, hF3] at hD2
        cases hD2
      refine ⟨s4 _ _ hF3, ?_⟩
      have sa := back _ s4
      have hS0 := free _ hD2
      have hS1 : (upd H4 fa (.dK (kvM V.int f0))) D2 = some (.dK (kvM V.int f0)) := by
        rw [upd_ne nD2]
        exact h4
      clear s4 h4
      generalize upd H4 fa (.dK (kvM V.int f0)) = H5 at sa hS1 ⊢
      clear hD2 nD2 back free hF3
      intro L hL5
      have hL0 := sa.free hL5
      have nSL : D2 ≠ L := fun z => by
        rw [z, hL5] at hS1
        cases hS1
      have sb := sa.trans (.upd (o := .dK []) hL5)
      have hS2 := (Same.upd (o := .dK []) hL5) _ _ hS1
      have hL2 : (upd H5 L (.dK [])) L = some (.dK (kvM (fun i => ys.getD i .non) [])) := upd_same
      generalize upd H5 L (.dK []) = H6 at sb hS2 hL2 ⊢
      clear sa hS1 hL5
      walk_at "ev"
      refine for_of ?_
      refine ⟨_, rfl, fa, kvM V.int f0, rfl, .inl (sb _ _ hfa), fun p hp => ?_⟩
      have ek : (kvM V.int f0).map (fun kv => kV kv.1) = (f0.map (·.1)).map V.str := by
        unfold kvM
        rw [List.map_map, List.map_map]
        rfl
      rw [ek]
      have s7 : Same H6 (upd H6 p (.lst ((f0.map (·.1)).map V.str))) := .upd hp
      have hp7 : (upd H6 p (.lst ((f0.map (·.1)).map V.str))) p = some (.lst ((f0.map (·.1)).map V.str)) := upd_same
      generalize upd H6 p (.lst ((f0.map (·.1)).map V.str)) = H7 at s7 hp7 ⊢
      have sb7 := sb.trans s7
      refine lc_of ?_
      refine iSeq_at (f := false) (fun R' r => ⟨_, rfl, r⟩) (sb7.sqL hla) fun J w => ?_
      refine lcw (K := K) (Q := fun y H2 => rCat (.ref p) y H2 _) as Arc.d (fun a => .str a.to) (fun _ => true) (fun z σ2 => ∃ t v4, σ2 = [some (.ref la), some (.ref fa), some (.ref D2), some (.ref L), some .non, none, some (.ref t), none, none] ∧ SqT K H7 t [.str z.fr, .str z.to, .int z.wt, v4]) w (fun H' e => (sb7.trans e).sqL hla) (sb7.dpa hda) (by omega) (fun x z H1 R hz e1 hx r => ?_) (fun z H1 σ2 hz e1 hB Q' q' => ?_) (fun z H3 σ2 T hz _ e1 eT tr hB Q' q' => ?_) (fun D3 us H8 s8 hn8 h8 d8 => ?_)
      · obtain ⟨t, v4, rfl, hs⟩ := arc_row hx
        exact r _ ⟨t, v4, rfl, hs⟩ rfl
      · exact q' H1 fun _ _ e => e
      · obtain ⟨t, v4, rfl, hs⟩ := hB
        exact ⟨_, rfl, rIxF_at (f := true) (e1.sqT hs) (atI_nat (j := 1) rfl) (q' H3 _ (fun _ _ e => e) (.str _))⟩
      · have d9 : DpAll K (cutS [D3] H8) us ((as.map (·.to)).map PyData.str) := by
          rw [List.filter_eq_self.mpr fun _ _ => rfl] at d8
          rw [List.map_map]
          exact d8
        have e := dpa_strs_of d9
        subst e
        refine ⟨p, D3, _, _, rfl, rfl, s8 _ _ hp7, h8, by rw [List.length_map, List.length_map, List.length_map, List.length_map]; exact Nat.le_of_lt (szL (by omega)), fun l hl => ?_⟩
        have hlen : (f0.map (·.1) ++ as.map (·.to)).length ≤ 2000 := by
          rw [List.length_append, List.length_map, List.length_map]
          omega
        have hle : leastN as f0 ≤ 2000 := Nat.le_trans (dedS_len _) hlen
        refine ⟨l, f0.map (·.1) ++ as.map (·.to), rfl, by rw [List.map_append]; exact sql_of upd_same, by omega, ?_⟩
        have s9 : Same H6 (upd H8 l (.lst ((f0.map (·.1)).map V.str ++ (as.map (·.to)).map V.str))) := (s7.trans s8).trans (.upd hl)
        have sb9 := sb.trans s9
        have hS9 := s9 _ _ hS2
        have hL9 := s9 _ _ hL2
        generalize upd H8 l (.lst ((f0.map (·.1)).map V.str ++ (as.map (·.to)).map V.str)) = H9 at sb9 hS9 hL9 ⊢
        clear d8 d9 h8 hn8 s8 hp7 s7 sb7 hS2 hL2 hl hp s9 sb
        refine ⟨_, rfl, ?_, ?_, ?_⟩
        · show -(2 ^ 62) ≤ ((leastN as f0 : Nat) : Int)
          omega
        · show ((leastN as f0 : Nat) : Int) < 2 ^ 62
          omega
        rw [Int.toNat_natCast]
        refine forR_it (walk_range (lo := 0) (n := leastN as f0)) (fun j σ Hc => ∃ (x5 x6 x7 : Option V) (s : LS), σ = [some (.ref la), some (.ref fa), some (.ref D2), some (.ref L), some (lowV s.low), x5, x6, x7, none] ∧ Same H Hc ∧ Hc D2 = some (.dK (kvM V.int s.sums)) ∧ Hc L = some (.dK (kvM (fun i => ys.getD i .non) s.last)) ∧ turns as (leastN as f0 - j) s = leastF as f0 ∧ s.sums.length ≤ 1000 + j * 1000 ∧ s.last.length ≤ j * 1000) ⟨_, _, _, ⟨f0, [], none⟩, rfl, sb9, hS9, hL9, rfl, by show f0.length ≤ _; omega, Nat.zero_le _⟩ (fun _ _ _ _ _ => trivial) (fun j x σ Hc Hc' hj hh y => ?_) (fun σ Hc hh => ?_)
        · obtain ⟨x5, x6, x7, s, rfl, sc, hSc, hLc, ht, ls1, ls2⟩ := hh
          obtain ⟨rfl, rfl⟩ := y
          walk_at "ev"
          refine for_of ?_
          refine iSeq_at (f := false) (fun R' r => ⟨_, rfl, r⟩) (sc.sqL hla) fun J w => ?_
          have lys : ys.length = as.length := by
            have := dpa_len hda
            rwa [List.length_map] at this
          refine forR_it w (fun i σ Hd => ∃ (x6 x7 : Option V), σ = [some (.ref la), some (.ref fa), some (.ref D2), some (.ref L), some (lowV (roundN as s i).low), some (.int (0 + (j : Nat))), x6, x7, none] ∧ Same H Hd ∧ Hd D2 = some (.dK (kvM V.int (roundN as s i).sums)) ∧ Hd L = some (.dK (kvM (fun i => ys.getD i .non) (roundN as s i).last))) ⟨_, _, rfl, sc, hSc, hLc⟩ (fun i σ Hd _ hh => ?_) (fun i v σ Hd Hd' hi hh y => ?_) (fun σ Hd hh => ?_)
          · obtain ⟨x6, x7, rfl, sd, hSd, hLd⟩ := hh
            exact sd.sqL hla
          · obtain ⟨x6, x7, rfl, sd, hSd, hLd⟩ := hh
            obtain ⟨rfl, hx⟩ := y
            obtain ⟨d, hd, hxd⟩ := dpa_get hda hx
            rw [List.getElem?_map] at hd
            cases ha : as[i]? with
            | none =>
              rw [ha] at hd
              cases hd
            | some a =>
              rw [ha] at hd
              cases hd
              obtain ⟨t, v4, rfl, hs⟩ := arc_row hxd
              have hs' := sd.sqT hs
              have bl := round_len (as := as) (s := s) (n := i)
              rw [round_next]
              generalize roundN as s i = r at hSd hLd bl ⊢
              refine ⟨_, rfl, rIxF_at (f := true) hs' (atI_nat (j := 0) rfl) ?_⟩
              refine ⟨_, rfl, D2, _, rfl, DGet.k (k := .inr a.fr) hSd, ?_⟩
              rw [val_kvM, Option.isSome_map]
              refine ⟨_, rfl, ?_⟩
              cases hfr : lk r.sums a.fr with
              | none =>
                refine iteF ?_
                rw [relaxA_none ha hfr]
                exact ⟨_, _, rfl, sd, hSd, hLd⟩
              | some x =>
                have dg : DGet Hd' D2 (.str a.fr) (some (.int x)) := by
                  have := DGet.k (k := .inr a.fr) hSd
                  rw [val_kvM, hfr] at this
                  exact this
                refine iteT ?_
                refine ⟨_, rfl, _, rfl, rIxF_at (f := true) hs' (atI_nat (j := 0) rfl) ⟨D2, _, rfl, dg, ?_⟩⟩
                refine ⟨_, rfl, rIxF_at (f := true) hs' (atI_nat (j := 2) rfl) ⟨_, _, rfl, rfl, ?_⟩⟩
                refine ⟨_, rfl, rIxF_at (f := true) hs' (atI_nat (j := 1) rfl) ⟨_, rfl, D2, _, rfl, DGet.k (k := .inr a.to) hSd, ?_⟩⟩
                rw [val_kvM, Option.isSome_map]
                refine ⟨_, rfl, ?_⟩
                cases hto : lk r.sums a.to with
                | none =>
                  have hb : better r a (x + a.wt) = true := by
                    unfold better
                    rw [hto]
                  refine iteT ?_
                  refine iteT ?_
                  rw [relaxA_yes ha hfr hb]
                  refine ⟨_, rfl, _, rfl, _, rfl, rIxF_at (f := true) hs' (atI_nat (j := 1) rfl) ⟨D2, _, rfl, DPut.k (k := .inr a.to) hSd (by rw [kvM_len]; exact szL (by omega)), ?_⟩⟩
                  rw [put_kvM (f := V.int)]
                  have u1 : Same H (upd Hd' D2 (.dK (kvM V.int (putM r.sums a.to (x + a.wt))))) := sd.mut hS0
                  have hS' : (upd Hd' D2 (.dK (kvM V.int (putM r.sums a.to (x + a.wt))))) D2 = some (.dK (kvM V.int (putM r.sums a.to (x + a.wt)))) := upd_same
                  have hL' : (upd Hd' D2 (.dK (kvM V.int (putM r.sums a.to (x + a.wt))))) L = some (.dK (kvM (fun i => ys.getD i .non) r.last)) := by
                    rw [upd_ne nSL.symm]
                    exact hLd
                  generalize upd Hd' D2 (.dK (kvM V.int (putM r.sums a.to (x + a.wt)))) = H1 at u1 hS' hL' ⊢
                  refine ⟨_, rfl, _, rfl, _, rfl, rIxF_at (f := true) (u1.sqT hs) (atI_nat (j := 1) rfl) ⟨L, _, rfl, DPut.k (k := .inr a.to) hL' (by rw [kvM_len]; exact szL (by omega)), ?_⟩⟩
                  have ep := put_kvM (f := fun i => ys.getD i V.non) (m := r.last) (k := a.to) (v := i)
                  rw [show ys.getD i V.non = V.ref t by rw [List.getD_eq_getElem?_getD, hx]; rfl] at ep
                  rw [ep]
                  have u2 := u1.mut (o := .dK (kvM (fun i => ys.getD i V.non) (putM r.last a.to i))) hL0
                  refine ⟨_, rfl, rIxF_at (f := true) (u2.sqT hs) (atI_nat (j := 1) rfl) ?_⟩
                  exact ⟨_, _, rfl, u2, by rw [upd_ne nSL]; exact hS', upd_same⟩
                | some y =>
                  refine iteF ?_
                  have dg2 : DGet Hd' D2 (.str a.to) (some (.int y)) := by
                    have := DGet.k (k := .inr a.to) hSd
                    rw [val_kvM, hto] at this
                    exact this
                  refine ⟨_, rfl, _, rfl, _, rfl, rIxF_at (f := true) hs' (atI_nat (j := 1) rfl) ⟨D2, _, rfl, dg2, _, _, rfl, rfl, ?_⟩⟩
                  refine ⟨_, rfl, ?_⟩
                  have hb0 : better r a (x + a.wt) = decide (x + a.wt < y) := by
                    unfold better
                    rw [hto]
                  by_cases hlt : x + a.wt < y
                  · have hb : better r a (x + a.wt) = true := by rw [hb0, decide_eq_true hlt]
                    rw [decide_eq_true hlt]
                    refine iteT ?_
                    rw [relaxA_yes ha hfr hb]
                    refine ⟨_, rfl, _, rfl, _, rfl, rIxF_at (f := true) hs' (atI_nat (j := 1) rfl) ⟨D2, _, rfl, DPut.k (k := .inr a.to) hSd (by rw [kvM_len]; exact szL (by omega)), ?_⟩⟩
                    rw [put_kvM (f := V.int)]
                    have u1 : Same H (upd Hd' D2 (.dK (kvM V.int (putM r.sums a.to (x + a.wt))))) := sd.mut hS0
                    have hS' : (upd Hd' D2 (.dK (kvM V.int (putM r.sums a.to (x + a.wt))))) D2 = some (.dK (kvM V.int (putM r.sums a.to (x + a.wt)))) := upd_same
                    have hL' : (upd Hd' D2 (.dK (kvM V.int (putM r.sums a.to (x + a.wt))))) L = some (.dK (kvM (fun i => ys.getD i .non) r.last)) := by
                      rw [upd_ne nSL.symm]
                      exact hLd
                    generalize upd Hd' D2 (.dK (kvM V.int (putM r.sums a.to (x + a.wt)))) = H1 at u1 hS' hL' ⊢
                    refine ⟨_, rfl, _, rfl, _, rfl, rIxF_at (f := true) (u1.sqT hs) (atI_nat (j := 1) rfl) ⟨L, _, rfl, DPut.k (k := .inr a.to) hL' (by rw [kvM_len]; exact szL (by omega)), ?_⟩⟩
                    have ep := put_kvM (f := fun i => ys.getD i V.non) (m := r.last) (k := a.to) (v := i)
                    rw [show ys.getD i V.non = V.ref t by rw [List.getD_eq_getElem?_getD, hx]; rfl] at ep
                    rw [ep]
                    have u2 := u1.mut (o := .dK (kvM (fun i => ys.getD i V.non) (putM r.last a.to i))) hL0
                    refine ⟨_, rfl, rIxF_at (f := true) (u2.sqT hs) (atI_nat (j := 1) rfl) ?_⟩
                    exact ⟨_, _, rfl, u2, by rw [upd_ne nSL]; exact hS', upd_same⟩
                  · have hb : better r a (x + a.wt) = false := by rw [hb0, decide_eq_false hlt]
                    rw [decide_eq_false hlt]
                    refine iteF ?_
                    rw [relaxA_no ha hfr hb]
                    exact ⟨_, _, rfl, sd, hSd, hLd⟩
          · obtain ⟨x6, x7, rfl, sd, hSd, hLd⟩ := hh
            rw [lys] at hSd hLd
            have bl := round_len (as := as) (s := s) (n := as.length)
            have et : leastN as f0 - j = (leastN as f0 - (j + 1)) + 1 := by omega
            rw [et] at ht
            unfold turns at ht
            rw [lys]
            generalize roundN as s as.length = r at hSd hLd bl ht ⊢
            walk_at "ev"
            dsimp only
            rw [lowV_non]
            by_cases e : r.low = none
            · rw [if_pos e] at ht
              rw [decide_eq_true e]
              refine iteT ?_
              walk_at "ev"
              intro p hp
              subst ht
              exact q _ p D2 L (sd.trans (.upd hp)) (sd.free hp) hS0 hL0 (by rw [e]; exact upd_same) ((Same.upd hp) _ _ hSd) ((Same.upd hp) _ _ hLd)
            · rw [if_neg e] at ht
              rw [decide_eq_false e]
              refine iteF ?_
              exact ⟨_, _, _, r, rfl, sd, hSd, hLd, ht, by omega, by omega⟩
        · obtain ⟨x5, x6, x7, s, rfl, sc, hSc, hLc, ht, ls1, ls2⟩ := hh
          rw [Nat.sub_self] at ht
          have ht : s = leastF as f0 := ht
          subst ht
          walk_at "ev"
          intro p hp
          exact q _ p D2 L (sc.trans (.upd hp)) (sc.free hp) hS0 hL0 upd_same ((Same.upd hp) _ _ hSc) ((Same.upd hp) _ _ hLc)
end
end Jl

set_option Elab.async false
set_option linter.all false
set_option maxRecDepth 100000
set_option maxHeartbeats 1000000
set_option pp.maxSteps 300
namespace Jl
open PySem PySem.Spec PyProof.Rows L2
open Evl (sz_of sz_lt)
local macro_rules | `(tactic| walk_at "at") => `(tactic| first | exact box0 | exact box1 | exact box2)
local macro_rules | `(tactic| walk_at "sq") => `(tactic| first | (show SqL _ _ _ _; assumption) | (show SqT _ _ _ _; assumption) | (show _ = some _; assumption))
local macro_rules | `(tactic| walk_at "side") => `(tactic| first
  | (show (0 : Int) < _; decide)
  | (show (0 : Int) < _; omega)
  | exact ⟨by decide, by decide, by decide⟩
  | exact sz_of (Nat.le_of_ble_eq_true rfl)
  | exact rfl
  | exact Or.inl (by decide)
  | exact Or.inr (by decide)
  | exact Or.inr ⟨by omega, by omega⟩
  | exact Or.inl ⟨by omega, by omega⟩
  | exact ⟨by decide, by decide +kernel⟩)
local macro_rules | `(tactic| walk_at "ev1") => `(tactic| first
  | refine ⟨_, rfl, ?_⟩
  | refine ⟨_, _, rfl, rfl, ?_⟩
  | refine ⟨_, _, _, _, rfl, rfl, (by walk_at "sq"), (by walk_at "at"), ?_⟩
  | refine ⟨_, _, rfl, (by walk_at "sq"), ?_⟩
  | refine ⟨_, _, rfl, Or.inl (by walk_at "sq"), ?_⟩
  | refine ⟨_, _, rfl, Or.inr (by walk_at "sq"), ?_⟩
  | refine Or.inl ⟨_, rfl, ?_⟩
  | refine Or.inr ⟨_, rfl, ?_⟩
  | refine ⟨(by walk_at "side"), ?_⟩
  | refine ⟨.inl ⟨rfl, _, (by walk_at "sq")⟩, ?_⟩
  | refine ⟨_, _, rfl, ?_⟩)
local macro_rules | `(tactic| walk_at "nrm") => `(tactic| dsimp only [tNil, tCons, tC, tCB])
local macro_rules | `(tactic| walk_at "ev") => `(tactic| repeat (walk_at "ev1"))

abbrev sc_graded_N : List Str := ["net", "parts", "worker"]
abbrev s_graded : Stmt := topS 16
theorem sc_graded : FnScope ["net", "parts", "worker"] ["net", "parts"] (defScope s_graded) := ⟨rfl, rfl, rfl, by decide +kernel, rfl, by decide +kernel, by decide +kernel⟩
abbrev sc_never_held_N : List Str := ["net"]
abbrev s_never_held : Stmt := topS 17
theorem sc_never_held : FnScope ["net"] ["net"] (defScope s_never_held) := ⟨rfl, rfl, rfl, by decide +kernel, rfl, by decide +kernel, by decide +kernel⟩
def zeroM (ws : List Str) : List (Str × Int) := ws.map fun x => (x, 0)
def gradF (ws : List Str) (qs : List QD) (sc : Int) : LS := leastF (arcsF sc 1 qs) (zeroM ws)
def neverF (ws : List Str) (qs : List QD) : Bool := decide ((gradF ws qs ws.length).low = none)
theorem zero_nd {ws : List Str} (h : ws.Nodup) : ((zeroM ws).map (·.1)).Nodup := by
  unfold zeroM
  rw [List.map_map, show (fun p : Str × Int => p.1) ∘ (fun x => (x, (0 : Int))) = id from rfl, List.map_id]
  exact h
/-- what never_held and its kin are asked of -/
structure NetN (ws : List Str) (qs : List QD) : Prop where
  nd : ws.Nodup
  ne : ∀ q ∈ qs, q.st ≠ q.en
  w1 : ws.length ≤ 500
  q1 : qs.length ≤ 500
section
variable {P : Program} {w : World} {K : PySem.W.Frag} {mg : Str → Option Value} {base : Heap}
def spGraded (K : PySem.W.Frag) : Sp := fun vs H Q _ => ∃ (v : V) (fb : Bool) (ws : List Str) (qs : List QD) (sc : Int), vs = [v, .int sc] ∧ Dp K H v (netD fb ws qs) ∧ NetN ws qs ∧ 0 ≤ sc ∧ sc ≤ 10 ^ 9 ∧
  ∀ H' p S L la ys, Same H H' → H p = none → H S = none → H L = none → H' p = some (.tup [.ref S, .ref L, lowV (gradF ws qs sc).low]) → H' S = some (.dK (kvM V.int (gradF ws qs sc).sums)) → H' L = some (.dK (kvM (fun i => ys.getD i .non) (gradF ws qs sc).last)) → H' la = some (.lst ys) → DpAll K (cutS [la] H') ys ((arcsF sc 1 qs).map Arc.d) → Q (.ref p) H'
theorem ok_graded {f fA fL : Addr} {fd fdA fdL : FuncData} {k : Nat} (F : Fun K "graded" "graded" s_graded f fd)
    (G_arcs_of : FnOk P w K mg base CX0 k fA fdA ["net", "scale", "toll"] (spArcs K)) (g_arcs_of : mg "arcs_of" = some (.ref fA)) (F_arcs_of : Fun K "arcs_of" "arcs_of" s_arcs_of fA fdA) (b_arcs_of : Binds K fdA ["net", "scale", "toll"] []) (G_least_sums : FnOk P w K mg base CX0 k fL fdL ["arcs", "first"] (spLeast K)) (g_least_sums : mg "least_sums" = some (.ref fL)) (F_least_sums : Fun K "least_sums" "least_sums" s_least_sums fL fdL) (b_least_sums : Binds K fdL ["arcs", "first"] []) : FnOk P w K mg base CX0 (k + 1) f fd ["net", "parts"] (spGraded K) := by
  refine F.ok sc_graded (fun vs H Q E h => ?_) (fun cdv A outer s0 H vs Q E hr h => ?_)
  · obtain ⟨v, fb, ws, qs, sc, rfl, _⟩ := h
    rfl
  · obtain ⟨v, fb, ws, qs, sc, rfl, hD, hN, sc0, sc1, q⟩ := h
    refine ⟨_, (pss_one (ps_ret (pe_call G_least_sums hr (by rfl) g_least_sums F_least_sums.kp b_least_sums .nil pass0 (pa_cons (pe_call G_arcs_of hr (by rfl) g_arcs_of F_arcs_of.kp b_arcs_of .nil pass0 (pa_cons (pv 0) (pa_cons (pv 1) (pa_cons pe_int pa_nil)))) (pa_cons (pe_dcX (pe_dc (own := [("worker", 2)]) (g := gName 2) (tt := tYes) (by rfl) sc_graded.nd (pi_seq (pe_ix ix_lt (pv 0) pe_int (fun _ _ => rfl))) (blkOk_by (own := [("worker", 2)]) (N := sc_graded_N) (sc := defScope s_graded) (by decide +kernel)) (fun _ _ _ _ _ => pg_name (i := 2) sc_graded.nd rfl (Or.inl rfl)) (fun _ _ _ _ _ => pts_nil) (fun _ _ _ _ _ => (pv 2)) (fun _ _ _ _ _ => pe_int))) pa_nil))))), ?_⟩
    obtain ⟨a0, a1, a2, xq, rfl, N0⟩ := netAt hD
    have i0 : atI [V.ref a1, V.ref a2] 0 = some (.ref a1) := atI_nat (j := 0) rfl
    have w1 := hN.w1
    have q1 := hN.q1
    refine ⟨_, rfl, _, rfl, ?_⟩
    refine ⟨_, fb, ws, qs, sc, 1, rfl, hD, hN.ne, by omega, sc0, sc1, fun H1 la ys s1 hl0 hl1 d1 => ?_⟩
    have N1 := N0.same s1
    refine dc_strs (fun _ => .int 0) hN.nd (fun R' q' => ⟨_, rfl, rIxF_at N1.h0 i0 q'⟩) N1.h1 (by omega) (fun x => rfl) (fun x H2 Q' q' => ⟨_, rfl, q'⟩) (fun x H2 Q' q' => q') (fun M hM => ?_)
    have s2 : Same H1 (upd H1 M (.dK (ws.map fun x => (.inr x, .int 0)))) := .upd hM
    have hz : (upd H1 M (.dK (ws.map fun x => (.inr x, .int 0)))) M = some (.dK (kvM V.int (zeroM ws))) := by
      rw [upd_same]
      unfold kvM zeroM
      rw [List.map_map]
      rfl
    have hM0 : M ≠ la := fun z => by
      rw [z, hl1] at hM
      cases hM
    generalize upd H1 M (.dK (ws.map fun x => (.inr x, .int 0))) = H2 at s2 hz ⊢
    refine ⟨la, M, ys, arcsF sc 1 qs, zeroM ws, rfl, sql_of (s2 _ _ hl1), s2.dpa (cutS_le.dpa d1), hz, zero_nd hN.nd, by unfold zeroM; rw [List.length_map]; omega, by rw [arcs_len]; omega, fun H3 p S L s3 hp hS hL h1 h2 h3 => ?_⟩
    exact q H3 p S L la ys ((s1.trans s2).trans s3) ((s1.trans s2).free hp) ((s1.trans s2).free hS) ((s1.trans s2).free hL) h1 h2 h3 (s3 _ _ (s2 _ _ hl1)) ((cutS_mono (s2.trans s3)).dpa d1)
def spNever (K : PySem.W.Frag) : Sp := fun vs H Q _ => ∃ (v : V) (fb : Bool) (ws : List Str) (qs : List QD), vs = [v] ∧ Dp K H v (netD fb ws qs) ∧ NetN ws qs ∧ ∀ H', Same H H' → Q (.bl (neverF ws qs)) H'
theorem ok_never_held {f fG : Addr} {fd fdG : FuncData} {k : Nat} (F : Fun K "never_held" "never_held" s_never_held f fd)
    (G_graded : FnOk P w K mg base CX0 k fG fdG ["net", "parts"] (spGraded K)) (g_graded : mg "graded" = some (.ref fG)) (F_graded : Fun K "graded" "graded" s_graded fG fdG) (b_graded : Binds K fdG ["net", "parts"] []) (m_len : mg "len" = none) : FnOk P w K mg base CX0 (k + 1) f fd ["net"] (spNever K) := by
  refine F.ok sc_never_held (fun vs H Q E h => ?_) (fun cdv A outer s0 H vs Q E hr h => ?_)
  · obtain ⟨v, fb, ws, qs, rfl, _⟩ := h
    rfl
  · obtain ⟨v, fb, ws, qs, rfl, hD, hN, q⟩ := h
    refine ⟨_, (pss_one (ps_ret (pe_cmpR op_isN (pe_ix ix_lt (pe_call G_graded hr (by rfl) g_graded F_graded.kp b_graded .nil pass0 (pa_cons (pv 0) (pa_cons (pe_callB call_len_seq (by rfl) m_len PySem.boot_len (pa_cons (pe_ix ix_lt (pv 0) pe_int (fun _ _ => rfl)) pa_nil)) pa_nil))) pe_int (fun _ _ => rfl)) pe_non (nomark _)))), ?_⟩
    obtain ⟨a0, a1, a2, xq, rfl, N0⟩ := netAt hD
    have i0 : atI [V.ref a1, V.ref a2] 0 = some (.ref a1) := atI_nat (j := 0) rfl
    have w1 := hN.w1
    refine ⟨_, rfl, _, rfl, rIxF_at N0.h0 i0 ⟨a1, _, rfl, N0.h1.or, ?_⟩⟩
    rw [List.length_map]
    refine ⟨_, fb, ws, qs, (ws.length : Nat), rfl, hD, hN, by omega, by omega, fun H1 p S L la ys s1 hp hS hL h1 h2 h3 _ _ => ?_⟩
    refine rIxF_at (f := true) (sqt_of h1) (atI_nat (j := 2) rfl) ⟨rfl, ?_⟩
    rw [lowV_non]
    exact q H1 s1
end
end Jl

set_option Elab.async false
set_option linter.all false
set_option maxRecDepth 100000
set_option maxHeartbeats 1000000
set_option pp.maxSteps 300
namespace Jl
open PySem PySem.Spec PyProof.Rows L2
open Evl (sz_of sz_lt)
local macro_rules | `(tactic| walk_at "at") => `(tactic| first | exact box0 | exact box1 | exact box2)
local macro_rules | `(tactic| walk_at "sq") => `(tactic| first | (show SqL _ _ _ _; assumption) | (show SqT _ _ _ _; assumption) | (show _ = some _; assumption))
local macro_rules | `(tactic| walk_at "side") => `(tactic| first
  | (show (0 : Int) < _; decide)
  | (show (0 : Int) < _; omega)
  | exact ⟨by decide, by decide, by decide⟩
  | exact sz_of (Nat.le_of_ble_eq_true rfl)
  | exact rfl
  | exact Or.inl (by decide)
  | exact Or.inr (by decide)
  | exact Or.inr ⟨by omega, by omega⟩
  | exact Or.inl ⟨by omega, by omega⟩
  | exact ⟨by decide, by decide +kernel⟩)
local macro_rules | `(tactic| walk_at "ev1") => `(tactic| first
  | refine ⟨_, rfl, ?_⟩
  | refine ⟨_, _, rfl, rfl, ?_⟩
  | refine ⟨_, _, _, _, rfl, rfl, (by walk_at "sq"), (by walk_at "at"), ?_⟩
  | refine ⟨_, _, rfl, (by walk_at "sq"), ?_⟩
  | refine ⟨_, _, rfl, Or.inl (by walk_at "sq"), ?_⟩
  | refine ⟨_, _, rfl, Or.inr (by walk_at "sq"), ?_⟩
  | refine Or.inl ⟨_, rfl, ?_⟩
  | refine Or.inr ⟨_, rfl, ?_⟩
  | refine ⟨(by walk_at "side"), ?_⟩
  | refine ⟨.inl ⟨rfl, _, (by walk_at "sq")⟩, ?_⟩
  | refine ⟨_, _, rfl, ?_⟩)
local macro_rules | `(tactic| walk_at "nrm") => `(tactic| dsimp only [tNil, tCons, tC, tCB])
local macro_rules | `(tactic| walk_at "ev") => `(tactic| repeat (walk_at "ev1"))

abbrev sc_ring_price_N : List Str := ["net", "ring", "rooms", "queue", "name", "side"]
abbrev s_ring_price : Stmt := topS 18
theorem sc_ring_price : FnScope ["net", "ring", "rooms", "queue", "name", "side"] ["net", "ring"] (defScope s_ring_price) := ⟨rfl, rfl, rfl, by decide +kernel, rfl, by decide +kernel, by decide +kernel⟩
abbrev sc_cheapest_ring_N : List Str := ["net", "found", "ring", "cost"]
abbrev s_cheapest_ring : Stmt := topS 19
theorem sc_cheapest_ring : FnScope ["net", "found", "ring", "cost"] ["net"] (defScope s_cheapest_ring) := ⟨rfl, rfl, rfl, by decide +kernel, rfl, by decide +kernel, by decide +kernel⟩
abbrev sc_fewest_drops_N : List Str := ["net", "ring"]
abbrev s_fewest_drops : Stmt := topS 20
theorem sc_fewest_drops : FnScope ["net", "ring"] ["net"] (defScope s_fewest_drops) := ⟨rfl, rfl, rfl, by decide +kernel, rfl, by decide +kernel, by decide +kernel⟩
/-- a comprehension over pairs, some of them kept; the heap ahead of it stays -/
theorem lc_pairF {K : PySem.W.Frag} {tl te : TE} {tt : TT} {j1 j2 : Nat} {vs : List Nat} {σ : L2.St} {H H0 : Hp} {Q : VK} {a : Addr} {fb : Bool} {xs : List V} {α : Type} (zs : List α) (f g h : α → PyData) (t : α → Bool)
    (ht : ∀ R' : VK, R' (.ref a) H0 → tl σ H R') (hs : SqF fb K H0 a xs) (ha : DpAll K H0 xs (zs.map fun z => .tuple [f z, g z])) (hl : zs.length ≤ 4000000)
    (hw : ∀ x y, wipe (((wipe σ vs).set j1 (some x)).set j2 (some y)) vs = wipe σ vs)
    (hte : ∀ (x y : V) (z : α) (H1 : Hp), z ∈ zs → Same H0 H1 → Dp K H1 x (f z) → Dp K H1 y (g z) → ∀ Q' : Bool → Hp → Prop, Q' (t z) H1 → tt (((wipe σ vs).set j1 (some x)).set j2 (some y)) H1 Q')
    (he : ∀ (x y : V) (z : α) (H1 : Hp) (T : List Addr), z ∈ zs → t z = true → Same H0 H1 → Trk T H1 → Dp K H1 x (f z) → Dp K H1 y (g z) → ∀ Q' : VK, (∀ H2 u, Same H1 H2 → Dp K (cutS T H2) u (h z) → Q' u H2) → te (((wipe σ vs).set j1 (some x)).set j2 (some y)) H1 Q')
    (q : ∀ D ys H', Same H0 H' → H0 D = none → H' D = some (.lst ys) → DpAll K (cutS [D] H') ys ((zs.filter t).map h) → Q (.ref D) H') : tLcX (iSeq K tl) (gTup K 2 (gCons (gName j1) (gCons (gName j2) gNil))) tt te vs σ H Q := by
  have ll := dpa_len ha
  rw [List.length_map] at ll
  refine lc_of ?_
  refine iSeq_at ht hs fun J w D hD => ?_
  refine lc_it w (fun i H1 => ∃ ys, Same H0 H1 ∧ H1 D = some (.lst ys) ∧ DpAll K (cutS [D] H1) ys (((zs.take i).filter t).map h)) ⟨[], .upd hD, upd_same, .nil⟩ (fun i H1 _ p => ?_) (fun i x H1 H1' hi p y => ?_) (fun H1 p => ?_)
  · obtain ⟨ys, e1, _⟩ := p
    exact e1.sqF hs
  · obtain ⟨ys, e1, e2, e3⟩ := p
    obtain ⟨rfl, hx⟩ := y
    obtain ⟨d, hd, hxd⟩ := dpa_get ha hx
    rw [List.getElem?_map] at hd
    cases hz : zs[i]? with
    | none =>
      rw [hz] at hd
      cases hd
    | some z =>
      rw [hz] at hd
      cases hd
      have hzm := List.mem_of_getElem? hz
      have hxd1 := e1.dp hxd
      obtain ⟨tt0, xt, rfl, hts, hta⟩ := Dp.seq_of (f := true) hxd1
      cases hta with
      | cons k1 hta =>
        cases hta with
        | cons k2 hta =>
          cases hta
          refine ⟨tt0, _, rfl, hts, rfl, _, _, rfl, _, _, rfl, rfl, hw _ _, ?_⟩
          refine hte _ _ z H1' hzm e1 k1 k2 _ ?_
          have yl : ys.length ≤ i := by
            rw [dpa_len e3, List.length_map]
            exact Nat.le_trans (List.length_filter_le _ _) (by rw [List.length_take]; omega)
          have ht2 : zs.take (i + 1) = zs.take i ++ [z] := by rw [List.take_add_one, hz]; rfl
          by_cases hg : t z = true
          · rw [if_pos hg]
            refine he _ _ z H1' [D] hzm hg e1 (Trk.cons Trk.nil e2) k1 k2 _ fun H2 u s2 hy => ?_
            refine ⟨ys, s2 _ _ e2, szL (by omega), ys ++ [u], (e1.trans s2).mut hD, upd_same, ?_⟩
            rw [cutS_upd List.mem_cons_self, ht2, List.filter_append, List.filter_cons_of_pos hg, List.map_append]
            exact dpa_app ((cutS_mono s2).dpa e3) (dpa_one hy)
          · rw [if_neg hg]
            refine ⟨ys, e1, e2, ?_⟩
            rw [ht2, List.filter_append, List.filter_cons_of_neg hg, List.filter_nil, List.append_nil]
            exact e3
  · obtain ⟨ys, e1, e2, e3⟩ := p
    refine q D ys H1 e1 hD e2 ?_
    have e4 : zs.take xs.length = zs := List.take_of_length_le (by omega)
    rw [e4] at e3
    exact e3

/-! ### min of data alike -/
section
variable {X : Cx}
def rMinD (K : PySem.W.Frag) : List V → Hp → VK → Prop := fun xs H Q => ∃ (l : Addr) (ys : List V) (d : PyData) (ds : List PyData), xs = [V.ref l] ∧ SqL K H l ys ∧ DpAll K H ys (d :: ds) ∧ PySem.W.AlikeAll (d :: ds) ∧ PyData.depthAll (d :: ds) ≤ 30 ∧ ∀ v, Dp K H v (PySem.W.minD d ds) → Q v H
theorem cr_minD (hc : X.calm = true) (hu : X.A.units + 64 < cLine) : CallR X (.builtin "min") (rMinD X.K) := by
  intro pins s σ H vs us Q I r h
  obtain ⟨l, ys, d, ds, rfl, hs, hda, ha, h30, q⟩ := h
  obtain rfl := Vals.ref1 r
  obtain ⟨its, rv, hl, _⟩ := I.list hs
  obtain ⟨as, hr⟩ := Dp.readsAll I (d :: ds) ys its hda rv
  show wpAny _ _ (call (.builtin "min") [.ref l]) _ _ _
  refine PySem.W.min_list_data (vs := its.toArray) (I.ok.hd hc) hl.isList (by simpa using hr) ha (by omega) fun i v h' tk bs hv hrd hk => ?_
  have hv : its[i]? = some v := by simpa using hv
  have hi : i < ys.length := by
    rw [rv.length]
    exact (List.getElem?_eq_some_iff.mp hv).1
  obtain ⟨u, e1, e2⟩ := rv.get (List.getElem?_eq_getElem hi)
  rw [hv] at e1
  cases e1
  obtain ⟨dd, _, hdp⟩ := dpa_get hda (List.getElem?_eq_getElem hi)
  obtain ⟨bs2, r1⟩ := Dp.reads I dd _ _ hdp e2
  have hd := (PyProof.Rows.reads_det (fun b o e _ => hk b o e) r1 hrd).1
  refine ⟨ys[i], H, I.kept (t' := tk) hk, e2, q _ ?_⟩
  rw [hd]
  exact hdp
end
/-! ### prices -/
def priceQ (qs : List QD) (r : List Mk) : Int := ((r.filter (·.2)).map (prQ qs)).sum
def prD (qs : List QD) (r : List Mk) : PyData := .tuple [.int (priceQ qs r), stepsD qs r]
def minR (qs : List QD) (r0 : List Mk) (rs : List (List Mk)) : List Mk := rs.foldl (fun a y => if PySem.W.dataLt (prD qs y) (prD qs a) = true then y else a) r0
def badR (qs : List QD) (g : List (List Mk)) : List (List Mk) := g.filter fun r => decide (costQ qs r ≤ 0)
def cheapF (qs : List QD) (g : List (List Mk)) : Option (List Mk) := match badR qs g with
  | [] => none
  | r :: rs => some (minR qs r rs)
def fewF (qs : List QD) (g : List (List Mk)) : Option Int := (cheapF qs g).map (priceQ qs)
def optI : Option Int → V
  | none => .non
  | some i => .int i
def optSt (qs : List QD) : Option (List Mk) → PyData
  | none => .none
  | some r => stepsD qs r
theorem minD_map {qs : List QD} : ∀ (rs : List (List Mk)) (r : List Mk), PySem.W.minD (prD qs r) (rs.map (prD qs)) = prD qs (minR qs r rs)
  | [], r => rfl
  | y :: rs, r => by
    show (rs.map (prD qs)).foldl _ (if PySem.W.dataLt (prD qs y) (prD qs r) = true then prD qs y else prD qs r) = _
    have e : (if PySem.W.dataLt (prD qs y) (prD qs r) = true then prD qs y else prD qs r) = prD qs (if PySem.W.dataLt (prD qs y) (prD qs r) = true then y else r) := by split <;> rfl
    rw [e]
    exact minD_map rs _
theorem minR_mem {qs : List QD} : ∀ (rs : List (List Mk)) (r : List Mk), minR qs r rs ∈ r :: rs
  | [], r => List.mem_cons_self
  | y :: rs, r => by
    have h := minR_mem (qs := qs) rs (if PySem.W.dataLt (prD qs y) (prD qs r) = true then y else r)
    show minR qs (if PySem.W.dataLt (prD qs y) (prD qs r) = true then y else r) rs ∈ _
    rcases List.mem_cons.mp h with h | h
    · rw [h]
      split
      · exact List.mem_cons_of_mem _ List.mem_cons_self
      · exact List.mem_cons_self
    · exact List.mem_cons_of_mem _ (List.mem_cons_of_mem _ h)
theorem prD_alike {qs : List QD} {l : List (List Mk)} : PySem.W.AlikeAll (l.map (prD qs)) := by
  refine ⟨fun x hx y hy => ?_, fun x hx => ?_⟩
  · obtain ⟨a, _, rfl⟩ := List.mem_map.mp hx
    obtain ⟨b, _, rfl⟩ := List.mem_map.mp hy
    have h := alike_st (qs := qs) a b
    simp only [prD, stepsD, PySem.W.alike, PySem.W.alikeAll, Bool.and_eq_true, true_and, and_true]
    exact h
  · obtain ⟨a, _, rfl⟩ := List.mem_map.mp hx
    intro z
    cases z
theorem prD_depth {qs : List QD} {l : List (List Mk)} : PyData.depthAll (l.map (prD qs)) ≤ 3 := depAll fun d hd => by
  obtain ⟨a, _, rfl⟩ := List.mem_map.mp hd
  exact dep_seq (f := true) (n := 2) fun d hd => by
    rcases mem2 hd with rfl | rfl
    · simp [PyData.depth]
    · exact steps_depth
theorem stD_row {K : PySem.W.Frag} {H : Hp} {qs : List QD} {v : V} {m : Mk} (h : Dp K H v (stD qs m)) : ∃ t, v = .ref t ∧ SqT K H t [.str (nmQ qs m), .str (if m.2 = true then alS else agS)] := by
  have h' : Dp K H v (seqD true [.str (nmQ qs m), .str (if m.2 = true then alS else agS)]) := h
  obtain ⟨t, xt, rfl, hts, hta⟩ := Dp.seq_of h'
  cases hta with
  | cons k1 hta =>
    cases hta with
    | cons k2 hta =>
      cases hta
      cases k1
      cases k2
      exact ⟨t, rfl, hts⟩
section
variable {P : Program} {w : World} {K : PySem.W.Frag} {mg : Str → Option Value} {base : Heap}
theorem side_al {b : Bool} : decide (V.str (if b = true then alS else agS) = V.str (Str.ofString "along")) = b := by
  cases b with
  | true => exact decide_eq_true rfl
  | false => exact decide_eq_false fun z => absurd (V.str.inj z) (show agS ≠ alS by decide +kernel)
def roomM (qs : List QD) : List (Str × Int) := qs.map fun q => (q.nm, q.room)
theorem room_lk {qs : List QD} (hn : (qs.map QD.nm).Nodup) {m : Mk} (h : m.1 < qs.length) (hm : m.2 = true) : lk (roomM qs) (nmQ qs m) = some (prQ qs m) := by
  have hq : qs[m.1]? = some qs[m.1] := List.getElem?_eq_getElem h
  have e1 : nmQ qs m = qs[m.1].nm := by unfold nmQ; rw [hq]
  have e2 : prQ qs m = qs[m.1].room := by unfold prQ; rw [hq]; dsimp only; rw [if_pos hm]
  rw [e1, e2]
  refine lk_mem (p := (qs[m.1].nm, qs[m.1].room)) ?_ (List.mem_map.mpr ⟨_, List.getElem_mem h, rfl⟩)
  unfold roomM
  rw [List.map_map]
  exact hn
def spPrice (K : PySem.W.Frag) : Sp := fun vs H Q _ => ∃ (v u : V) (fb : Bool) (ws : List Str) (qs : List QD) (r : List Mk), vs = [v, u] ∧ Dp K H v (netD fb ws qs) ∧ (qs.map QD.nm).Nodup ∧ qs.length ≤ 1000 ∧ Dp K H u (stepsD qs r) ∧ (∀ m ∈ r, m.1 < qs.length) ∧ r.length ≤ 1000 ∧
  ∀ H', Same H H' → Q (.int (priceQ qs r)) H'
theorem ok_ring_price {f : Addr} {fd : FuncData} {k : Nat} (F : Fun K "ring_price" "ring_price" s_ring_price f fd) (m_sum : mg "sum" = none) : FnOk P w K mg base CX0 (k + 1) f fd ["net", "ring"] (spPrice K) := by
  refine F.ok sc_ring_price (fun vs H Q E h => ?_) (fun cdv A outer s0 H vs Q E hr h => ?_)
  · obtain ⟨v, u, fb, ws, qs, r, rfl, _⟩ := h
    rfl
  · obtain ⟨v, u, fb, ws, qs, r, rfl, hD, hn, hl, hU, hlt, hrl, q⟩ := h
    have hu := hu_of hr
    refine ⟨_, (pss_cons (ps_set (i := 2) sc_ring_price.nd rfl (Or.inr rfl) (pe_dcX (pe_dc (own := [("queue", 3)]) (g := gName 3) (tt := tYes) (tk := tOp (rIxF K) (tVar 3) (tC (.int 0))) (tv := tOp (rIxF K) (tVar 3) (tC (.int 3))) (by rfl) sc_ring_price.nd (pi_seq (pe_ix ix_lt (pv 0) pe_int (fun _ _ => rfl))) (blkOk_by (own := [("queue", 3)]) (N := sc_ring_price_N) (sc := defScope s_ring_price) (by decide +kernel)) (fun _ _ _ _ _ => pg_name (i := 3) sc_ring_price.nd rfl (Or.inl rfl)) (fun _ _ _ _ _ => pts_nil) (fun _ _ _ _ _ => (pe_ix ix_lt (pv 3) pe_int (fun _ _ => rfl))) (fun _ _ _ _ _ => (pe_ix ix_lt (pv 3) pe_int (fun _ _ => rfl)))))) 
    (pss_one (ps_ret (pe_callB (cr_sum rfl) (by rfl) m_sum (by decide +kernel) (pa_cons (pe_lcX (pe_lc (own := [("name", 4), ("side", 5)]) (g := gTup K 2 (gCons (gName 4) (gCons (gName 5) gNil))) (by rfl) sc_ring_price.nd (pi_seq (pv 1)) (blkOk_by (own := [("name", 4), ("side", 5)]) (N := sc_ring_price_N) (sc := defScope s_ring_price) (by decide +kernel)) (fun _ _ _ _ _ => pg_tup rfl (pgs_cons (pg_name (i := 4) sc_ring_price.nd rfl (Or.inl rfl)) (pgs_cons (pg_name (i := 5) sc_ring_price.nd rfl (Or.inl rfl)) pgs_nil))) (fun _ _ _ _ _ => (pts_one (pt_cmpR op_eq (pv 5) pe_str (nomark _)))) (fun _ _ _ _ _ => (pe_dget hu (pv 2) (pv 4) (fun _ _ => rfl))))) pa_nil))))), ?_⟩
    obtain ⟨a0, a1, a2, xq, rfl, N0⟩ := netAt hD
    have i1 : atI [V.ref a1, V.ref a2] 1 = some (.ref a2) := atI_nat (j := 1) rfl
    obtain ⟨rr, xr, rfl, hrr, hxr⟩ := Dp.seq_of (f := true) (show Dp K H u (seqD true (r.map (stD qs))) from hU)
    refine dc_of ?_
    refine iSeq_at (fun R' q' => ⟨_, rfl, rIxF_at N0.h0 i1 q'⟩) N0.h2 fun J wk D hD0 => ?_
    refine dc_it wk (fun i H' => Same H H' ∧ H' D = some (.dK (kvM V.int (roomM (qs.take i))))) ⟨.upd hD0, upd_same⟩ (fun i H' _ p => p.1.sqF N0.h2) (fun i x H1 H1' hi p y => ?_) (fun H2 p => ?_)
    · obtain ⟨s1, h1⟩ := p
      obtain ⟨rfl, hx⟩ := y
      obtain ⟨qd, aq, e1, rfl, e2⟩ := (N0.same s1).hq i x hx
      refine ⟨rfl, ?_⟩
      dsimp only [tYes]
      refine iteT ?_
      refine ⟨_, rfl, rIxF_at e2 (atI_nat (j := 0) rfl) ?_⟩
      refine ⟨_, rfl, rIxF_at e2 (atI_nat (j := 3) rfl) ?_⟩
      have lk0 : (kvM V.int (roomM (qs.take i))).length < sizeLine := by
        rw [kvM_len]
        unfold roomM
        rw [List.length_map, List.length_take]
        exact szL (by omega)
      refine ⟨_, .inr qd.nm, rfl, h1, lk0, s1.mut hD0, ?_⟩
      rw [upd_same, put_kvM (f := V.int)]
      have ht : qs.take (i + 1) = qs.take i ++ [qd] := by rw [List.take_add_one, e1]; rfl
      have hno : qd.nm ∉ (roomM (qs.take i)).map (·.1) := fun hz => by
        unfold roomM at hz
        rw [List.map_map] at hz
        obtain ⟨q2, hq2, ee⟩ := List.mem_map.mp hz
        obtain ⟨k, hk1, hk2⟩ := List.mem_take_iff_getElem.mp hq2
        have ee : q2.nm = qd.nm := ee
        have := nd_ix hn (x := qd.nm) (by rw [List.getElem?_map, e1]; rfl) (by rw [List.getElem?_map, List.getElem?_eq_getElem (show k < qs.length by omega), hk2, ← ee]; rfl)
        omega
      unfold putM
      rw [lk_none hno, ht]
      unfold roomM
      rw [List.map_append]
      rfl
    · obtain ⟨s2, h2⟩ := p
      rw [N0.ll, List.take_length] at h2
      try dsimp only [gName, tSeq, tAsg]
      refine lc_pairF (fb := true) r (fun m => .str (nmQ qs m)) (fun m => .str (if m.2 = true then alS else agS)) (fun m => .int (prQ qs m)) (fun m => m.2) (fun R' q' => ⟨_, rfl, q'⟩) (s2.sqF hrr) (s2.dpa hxr) (by omega) (fun x y => rfl) (fun x y m H3 hm e3 hx hy Q' q' => ?_) (fun x y m H3 T hm hb e3 tr hx hy Q' q' => ?_) (fun D2 zs H3 s3 hD2 h3 h4 => ?_)
      · cases hx
        cases hy
        walk_at "ev"
        rw [side_al]
        exact q'
      · cases hx
        cases hy
        have dg : DGet H3 D (.str (nmQ qs m)) (some (.int (prQ qs m))) := by
          have := DGet.k (k := .inr (nmQ qs m)) (e3 _ _ h2)
          rw [val_kvM, room_lk hn (hlt m hm) hb] at this
          exact this
        exact ⟨_, rfl, _, rfl, D, _, rfl, dg, q' H3 _ (fun _ _ e => e) (.int _)⟩
      · have h5 : DpAll K (cutS [D2] H3) zs (((r.filter fun m => m.2).map (prQ qs)).map PyData.int) := by
          rw [List.map_map]
          exact h4
        have ey := dpa_ints_of h5
        subst ey
        exact ⟨D2, _, rfl, sql_of h3, q H3 (s2.trans s3)⟩
def spCheap (K : PySem.W.Frag) : Sp := fun vs H Q _ => ∃ (v : V) (fb : Bool) (ws : List Str) (qs : List QD) (g : List (List Mk)), vs = [v] ∧ Dp K H v (netD fb ws qs) ∧ NetR ws qs g ∧ ∀ H' u, Same H H' → Dp K H' u (optSt qs (cheapF qs g)) → Q u H'
theorem ok_cheapest_ring {f fR fP : Addr} {fd fdR fdP : FuncData} {k : Nat} (F : Fun K "cheapest_ring" "cheapest_ring" s_cheapest_ring f fd)
    (G_ring_costs : FnOk P w K mg base CX0 k fR fdR ["net"] (spRC K)) (g_ring_costs : mg "ring_costs" = some (.ref fR)) (F_ring_costs : Fun K "ring_costs" "ring_costs" s_ring_costs fR fdR) (b_ring_costs : Binds K fdR ["net"] []) (G_ring_price : FnOk P w K mg base CX0 k fP fdP ["net", "ring"] (spPrice K)) (g_ring_price : mg "ring_price" = some (.ref fP)) (F_ring_price : Fun K "ring_price" "ring_price" s_ring_price fP fdP) (b_ring_price : Binds K fdP ["net", "ring"] []) (m_min : mg "min" = none) (m_len : mg "len" = none) : FnOk P w K mg base CX0 (k + 1) f fd ["net"] (spCheap K) := by
  refine F.ok sc_cheapest_ring (fun vs H Q E h => ?_) (fun cdv A outer s0 H vs Q E hr h => ?_)
  · obtain ⟨v, fb, ws, qs, g, rfl, _⟩ := h
    rfl
  · obtain ⟨v, fb, ws, qs, g, rfl, hD, hR, q⟩ := h
    refine ⟨_, (pss_cons (ps_setLcX (ps_setLc (i := 1) (own := [("ring", 2), ("cost", 3)]) (g := gTup K 2 (gCons (gName 2) (gCons (gName 3) gNil))) rfl sc_cheapest_ring.nd rfl rfl (sw_true rfl rfl rfl (by decide +kernel)) (pi_seq (pe_call G_ring_costs hr (by rfl) g_ring_costs F_ring_costs.kp b_ring_costs .nil pass0 (pa_cons (pv 0) pa_nil))) (blkOk_by (own := [("ring", 2), ("cost", 3)]) (N := sc_cheapest_ring_N) (sc := defScope s_cheapest_ring) (by decide +kernel)) (fun _ _ _ _ _ => pg_tup rfl (pgs_cons (pg_name (i := 2) sc_cheapest_ring.nd rfl (Or.inl rfl)) (pgs_cons (pg_name (i := 3) sc_cheapest_ring.nd rfl (Or.inl rfl)) pgs_nil))) (fun _ _ _ _ _ => (pts_one (pt_cmpR op_le (pv 3) pe_int (nomark _)))) (fun _ _ _ _ _ => (pe_tup (pa_cons (pe_call G_ring_price hr (by rfl) g_ring_price F_ring_price.kp b_ring_price .nil pass0 (pa_cons (pv 0) (pa_cons (pv 2) pa_nil))) (pa_cons (pv 2) pa_nil)))))) 
    (pss_one (ps_ret (pe_ifExp (pt_cmpR op_gt (pe_callB call_len_seq (by rfl) m_len PySem.boot_len (pa_cons (pv 1) pa_nil)) pe_int (nomark _)) (pe_ix ix_lt (pe_callB (cr_minD rfl hr.units) (by rfl) m_min (by decide +kernel) (pa_cons (pv 1) pa_nil)) pe_int (fun _ _ => rfl)) pe_non)))), ?_⟩
    obtain ⟨hrow, hgl⟩ := hR.rows
    have q8 := hR.q6
    refine lc_of ?_
    refine .inl ⟨_, rfl, v, fb, ws, qs, g, rfl, hD, hR.nd, hR.ng, hR.w6, hR.sm, hR.q6, hR.rn, fun H1 l ys s1 hl0 hl1 hda => ⟨l, rfl, ⟨ys, sql_of hl1⟩, ?_⟩⟩
    have hD1 := s1.dp hD
    have hda1 : DpAll K H1 ys (g.map (fndD qs)) := cutS_le.dpa hda
    refine lcw (K := K) (Q := fun y H2 => gName 1 y _ H2 _) g (fndD qs) (prD qs) (fun r => decide (costQ qs r ≤ 0)) (fun r σ2 => ∃ u, σ2 = [some v, none, some u, some (.int (costQ qs r))] ∧ Dp K H1 u (stepsD qs r)) walk_list (fun H' e => e.sqL (sql_of hl1)) hda1 (by omega) (fun x z H2 R hz e1 hx r => ?_) (fun z H2 σ2 hz e1 hB Q' q' => ?_) (fun z H3 σ2 T hz ht e1 eT tr hB Q' q' => ?_) (fun D2 zs H' s3 hn3 h3 h4 => ?_)
    · have hx' : Dp K H1 x (seqD true [stepsD qs z, .int (costQ qs z)]) := hx
      obtain ⟨t, xt, rfl, hts, hta⟩ := Dp.seq_of hx'
      cases hta with
      | cons k1 hta =>
        cases hta with
        | cons k2 hta =>
          cases hta
          cases k2
          exact ⟨t, _, rfl, e1.sqT hts, rfl, _, _, rfl, _, _, rfl, rfl, r _ ⟨_, rfl, k1⟩ rfl⟩
    · obtain ⟨u, rfl, hu1⟩ := hB
      walk_at "ev"
      exact q' H2 fun _ _ e => e
    · obtain ⟨u, rfl, hu1⟩ := hB
      obtain ⟨z1, z2, z3⟩ := hrow z hz
      refine ⟨_, rfl, _, rfl, v, u, fb, ws, qs, z, rfl, e1.dp hD1, hR.ng.nn, by omega, e1.dp hu1, z3, by omega, fun H4 s4 => ?_⟩
      walk_at "ev"
      intro p hp
      exact q' _ _ (s4.trans (.upd hp)) (dp_tup (tr.mono s4) hp (.cons (.int _) (.cons ((cutS_mono s4).dp (eT.dp hu1)) .nil)))
    · have h4' : DpAll K H' zs ((badR qs g).map (prD qs)) := cutS_le.dpa h4
      have hb : ∀ r ∈ badR qs g, r ∈ g := fun r hr => (List.mem_filter.mp hr).1
      have lz := dpa_len h4'
      rw [List.length_map] at lz
      try dsimp only [gName, tSeq, tAsg]
      unfold cheapF at q
      refine ⟨_, rfl, D2, zs, rfl, .inl (sql_of h3), _, _, rfl, rfl, _, rfl, ?_⟩
      cases he : badR qs g with
      | nil =>
        rw [he] at lz h4' q
        rw [lz]
        refine iteF ?_
        exact q H' _ (s1.trans s3) .non
      | cons r rs =>
        rw [he] at lz h4' q
        rw [decide_eq_true (by rw [lz]; show (0 : Int) < ((rs.length + 1 : Nat) : Int); omega)]
        refine iteT ?_
        refine ⟨_, rfl, D2, zs, prD qs r, rs.map (prD qs), rfl, sql_of h3, h4', prD_alike (l := r :: rs), by have := prD_depth (qs := qs) (l := r :: rs); exact Nat.le_trans this (by decide), fun u hu2 => ?_⟩
        rw [minD_map] at hu2
        obtain ⟨t, xt, rfl, hts, hta⟩ := Dp.seq_of (f := true) (show Dp K H' u (seqD true [.int (priceQ qs (minR qs r rs)), stepsD qs (minR qs r rs)]) from hu2)
        cases hta with
        | cons k1 hta =>
          cases hta with
          | cons k2 hta =>
            cases hta
            exact rIxF_at (f := true) hts (atI_nat (j := 1) rfl) (q H' _ (s1.trans s3) k2)
def spFew (K : PySem.W.Frag) : Sp := fun vs H Q _ => ∃ (v : V) (fb : Bool) (ws : List Str) (qs : List QD) (g : List (List Mk)), vs = [v] ∧ Dp K H v (netD fb ws qs) ∧ NetR ws qs g ∧ ∀ H', Same H H' → Q (optI (fewF qs g)) H'
theorem ok_fewest_drops {f fC fP : Addr} {fd fdC fdP : FuncData} {k : Nat} (F : Fun K "fewest_drops" "fewest_drops" s_fewest_drops f fd)
    (G_cheapest_ring : FnOk P w K mg base CX0 k fC fdC ["net"] (spCheap K)) (g_cheapest_ring : mg "cheapest_ring" = some (.ref fC)) (F_cheapest_ring : Fun K "cheapest_ring" "cheapest_ring" s_cheapest_ring fC fdC) (b_cheapest_ring : Binds K fdC ["net"] []) (G_ring_price : FnOk P w K mg base CX0 k fP fdP ["net", "ring"] (spPrice K)) (g_ring_price : mg "ring_price" = some (.ref fP)) (F_ring_price : Fun K "ring_price" "ring_price" s_ring_price fP fdP) (b_ring_price : Binds K fdP ["net", "ring"] []) : FnOk P w K mg base CX0 (k + 1) f fd ["net"] (spFew K) := by
  refine F.ok sc_fewest_drops (fun vs H Q E h => ?_) (fun cdv A outer s0 H vs Q E hr h => ?_)
  · obtain ⟨v, fb, ws, qs, g, rfl, _⟩ := h
    rfl
  · obtain ⟨v, fb, ws, qs, g, rfl, hD, hR, q⟩ := h
    refine ⟨_, (pss_cons (ps_set (i := 1) sc_fewest_drops.nd rfl (Or.inl rfl) (pe_call G_cheapest_ring hr (by rfl) g_cheapest_ring F_cheapest_ring.kp b_cheapest_ring .nil pass0 (pa_cons (pv 0) pa_nil))) 
    (pss_one (ps_ret (pe_ifExp (pt_cmpR op_isN (pv 1) pe_non (nomark _)) pe_non (pe_call G_ring_price hr (by rfl) g_ring_price F_ring_price.kp b_ring_price .nil pass0 (pa_cons (pv 0) (pa_cons (pv 1) pa_nil))))))), ?_⟩
    obtain ⟨hrow, hgl⟩ := hR.rows
    have q8 := hR.q6
    refine ⟨_, rfl, v, fb, ws, qs, g, rfl, hD, hR, fun H1 u s1 hu1 => ?_⟩
    unfold fewF at q
    cases hc : cheapF qs g with
    | none =>
      rw [hc] at hu1 q
      have hu1 : Dp K H1 u .none := hu1
      cases hu1
      walk_at "ev"
      exact q H1 s1
    | some r =>
      have hm : r ∈ g := by
        unfold cheapF at hc
        cases hb : badR qs g with
        | nil =>
          rw [hb] at hc
          cases hc
        | cons r0 rs =>
          rw [hb] at hc
          have hc : minR qs r0 rs = r := Option.some.inj hc
          have h0 := minR_mem (qs := qs) rs r0
          rw [hc, ← hb] at h0
          exact (List.mem_filter.mp h0).1
      obtain ⟨z1, z2, z3⟩ := hrow r hm
      rw [hc] at hu1 q
      obtain ⟨t, xt, rfl, hts, hta⟩ := Dp.seq_of (f := true) (show Dp K H1 u (seqD true (r.map (stD qs))) from hu1)
      walk_at "ev"
      exact ⟨v, _, fb, ws, qs, r, rfl, s1.dp hD, hR.ng.nn, by omega, hu1, z3, by omega, fun H2 s2 => q H2 (s1.trans s2)⟩
end
/-- the least price of the bad rings -/
theorem few_fold {qs : List QD} : ∀ (rs : List (List Mk)) (r : List Mk), priceQ qs (minR qs r rs) = (rs.map (priceQ qs)).foldl min (priceQ qs r)
  | [], r => rfl
  | y :: rs, r => by
    show priceQ qs (minR qs (if PySem.W.dataLt (prD qs y) (prD qs r) = true then y else r) rs) = (rs.map (priceQ qs)).foldl min (min (priceQ qs r) (priceQ qs y))
    rw [few_fold rs]
    congr 1
    by_cases e : priceQ qs y = priceQ qs r
    · rw [e, Int.min_self]
      split <;> simp [e]
    · have h : PySem.W.dataLt (prD qs y) (prD qs r) = decide (priceQ qs y < priceQ qs r) := by
        unfold prD
        rw [PySem.W.dataLt_tuple, PySem.W.dataLt_cons (by simp [PySem.W.alike]), if_neg (by simpa [PyData.eqv] using e), PySem.W.dataLt_int]
      rw [h]
      by_cases l : priceQ qs y < priceQ qs r
      · rw [decide_eq_true l, if_pos rfl]
        omega
      · rw [decide_eq_false l, if_neg (by decide)]
        omega
theorem fewF_eq {qs : List QD} {g : List (List Mk)} : fewF qs g = match badR qs g with
    | [] => none
    | r :: rs => some ((rs.map (priceQ qs)).foldl min (priceQ qs r)) := by
  unfold fewF cheapF
  cases badR qs g with
  | nil => rfl
  | cons r rs => exact congrArg some (few_fold rs r)
end Jl

set_option Elab.async false
set_option linter.all false
set_option maxRecDepth 100000
set_option maxHeartbeats 1000000
set_option pp.maxSteps 300
namespace Jl
open PySem PySem.Spec PyProof.Rows L2
open Evl (sz_of sz_lt)

/-! ### least sums, and numbers that show that no ring comes below 0 -/
theorem fmin_le : ∀ {l : List Int} {b : Int}, l.foldl min b ≤ b ∧ ∀ x ∈ l, l.foldl min b ≤ x
  | [], b => ⟨Int.le_refl b, fun x h => absurd h List.not_mem_nil⟩
  | z :: l, b => by
    obtain ⟨h1, h2⟩ := fmin_le (l := l) (b := min b z)
    rw [List.foldl_cons]
    refine ⟨by omega, fun x hx => ?_⟩
    rcases List.mem_cons.mp hx with rfl | hx
    · omega
    · exact h2 x hx
theorem fmin_mem : ∀ {l : List Int} {b : Int}, l.foldl min b = b ∨ l.foldl min b ∈ l
  | [], b => .inl rfl
  | z :: l, b => by
    rw [List.foldl_cons]
    rcases fmin_mem (l := l) (b := min b z) with h | h
    · rw [h]
      by_cases e : b ≤ z
      · exact .inl (by omega)
      · exact .inr (by rw [show min b z = z by omega]; exact List.mem_cons_self)
    · exact .inr (List.mem_cons_of_mem _ h)
theorem le_fmin : ∀ {l : List Int} {b c : Int}, c ≤ b → (∀ x ∈ l, c ≤ x) → c ≤ l.foldl min b
  | [], b, c, h, _ => h
  | z :: l, b, c, h, h2 => by
    rw [List.foldl_cons]
    exact le_fmin (l := l) (b := min b z) (by have := h2 z List.mem_cons_self; omega) fun x hx => h2 x (List.mem_cons_of_mem _ hx)
theorem nodup_le : ∀ {l ws : List Str}, l.Nodup → (∀ x ∈ l, x ∈ ws) → l.length ≤ ws.length
  | [], _, _, _ => Nat.zero_le _
  | x :: l, ws, hn, hs => by
    have hx := hs x List.mem_cons_self
    rw [List.nodup_cons] at hn
    have h := nodup_le (l := l) (ws := ws.erase x) hn.2 fun z hz => (List.mem_erase_of_ne fun e => hn.1 (by rw [← e]; exact hz)).mpr (hs z (List.mem_cons_of_mem _ hz))
    rw [List.length_erase_of_mem hx] at h
    have : 0 < ws.length := List.length_pos_of_mem hx
    rw [List.length_cons]
    omega
/-- the least sums of at most so many arcs, from anywhere -/
def dmin (as : List Arc) : Nat → Str → Int
  | 0, _ => 0
  | k + 1, v => ((as.filter fun a => decide (a.to = v)).map fun a => dmin as k a.fr + a.wt).foldl min (dmin as k v)
theorem dmin_le {as : List Arc} {k : Nat} {v : Str} : dmin as (k + 1) v ≤ dmin as k v := fmin_le.1
theorem dmin_arc {as : List Arc} {k : Nat} {a : Arc} (h : a ∈ as) : dmin as (k + 1) a.to ≤ dmin as k a.fr + a.wt :=
  fmin_le.2 _ (List.mem_map.mpr ⟨a, List.mem_filter.mpr ⟨h, decide_eq_true rfl⟩, rfl⟩)
theorem dmin_mono {as : List Arc} {v : Str} : ∀ {j k : Nat}, j ≤ k → dmin as k v ≤ dmin as j v
  | j, 0, h => by
    have : j = 0 := by omega
    rw [this]
    exact Int.le_refl _
  | j, k + 1, h => by
    by_cases e : j = k + 1
    · rw [e]
      exact Int.le_refl _
    · exact Int.le_trans dmin_le (dmin_mono (by omega))
theorem dmin_new {as : List Arc} {k : Nat} {v : Str} (h : dmin as (k + 1) v < dmin as k v) : ∃ a ∈ as, a.to = v ∧ dmin as (k + 1) v = dmin as k a.fr + a.wt := by
  rcases fmin_mem (l := (as.filter fun a => decide (a.to = v)).map fun a => dmin as k a.fr + a.wt) (b := dmin as k v) with e | e
  · have e : dmin as (k + 1) v = dmin as k v := e
    omega
  · obtain ⟨a, ha, e⟩ := List.mem_map.mp e
    obtain ⟨h1, h2⟩ := List.mem_filter.mp ha
    exact ⟨a, h1, of_decide_eq_true h2, e.symm⟩
/-- what the arcs stand on -/
def ArcsOn (ws : List Str) (as : List Arc) : Prop := ∀ a ∈ as, a.fr ∈ ws ∧ a.to ∈ ws
/-- numbers that show it -/
def Pot (as : List Arc) (y : Str → Int) : Prop := ∀ a ∈ as, y a.to ≤ y a.fr + a.wt
theorem chain_of {ws : List Str} {as : List Arc} {y : Str → Int} (ho : ArcsOn ws as) (hy : Pot as y) : ∀ (m : Nat) (v : Str), v ∈ ws → (m = 0 ∨ dmin as m v < dmin as (m - 1) v) →
    ∃ l : List Str, (v :: l).Nodup ∧ (∀ x ∈ v :: l, x ∈ ws) ∧ l.length = m ∧ ∀ x ∈ l, ∃ q, q < m ∧ dmin as q x + y v - y x ≤ dmin as m v
  | 0, v, hv, _ => ⟨[], by simp, fun x hx => by rw [List.mem_singleton.mp hx]; exact hv, rfl, fun x hx => absurd hx List.not_mem_nil⟩
  | m + 1, v, hv, h => by
    have h : dmin as (m + 1) v < dmin as m v := h.resolve_left (by omega)
    obtain ⟨a, ha, hto, he⟩ := dmin_new h
    have hfr : m = 0 ∨ dmin as m a.fr < dmin as (m - 1) a.fr := by
      by_cases e : m = 0
      · exact .inl e
      · refine .inr ?_
        have h1 := dmin_arc (k := m - 1) ha
        rw [show m - 1 + 1 = m by omega, hto] at h1
        omega
    obtain ⟨l, l1, l2, l3, l4⟩ := chain_of ho hy m a.fr (ho a ha).1 hfr
    have hp := hy a ha
    rw [hto] at hp
    have h4 : ∀ x ∈ a.fr :: l, ∃ q, q < m + 1 ∧ dmin as q x + y v - y x ≤ dmin as (m + 1) v := fun x hx => by
      rcases List.mem_cons.mp hx with rfl | hx
      · exact ⟨m, by omega, by omega⟩
      · obtain ⟨q, hq, hx⟩ := l4 x hx
        exact ⟨q, by omega, by omega⟩
    refine ⟨a.fr :: l, List.nodup_cons.mpr ⟨fun hv2 => ?_, l1⟩, fun x hx => ?_, by rw [List.length_cons, l3], h4⟩
    · obtain ⟨q, hq, hx⟩ := h4 v hv2
      have := dmin_mono (as := as) (v := v) (j := q) (k := m) (by omega)
      omega
    · rcases List.mem_cons.mp hx with rfl | hx
      · exact hv
      · exact l2 x hx
theorem dmin_end {ws : List Str} {as : List Arc} {y : Str → Int} (ho : ArcsOn ws as) (hy : Pot as y) {m : Nat} (hm : ws.length ≤ m + 1) {v : Str} (hv : v ∈ ws) : dmin as (m + 1) v = dmin as m v := by
  by_cases h : dmin as (m + 1) v < dmin as m v
  · obtain ⟨l, l1, l2, l3, _⟩ := chain_of ho hy (m + 1) v hv (.inr h)
    have := nodup_le l1 l2
    rw [List.length_cons, l3] at this
    omega
  · have := dmin_le (as := as) (k := m) (v := v)
    omega
theorem dmin_fix {ws : List Str} {as : List Arc} {y : Str → Int} (ho : ArcsOn ws as) (hy : Pot as y) {m : Nat} (hm : ws.length ≤ m + 1) : Pot as (dmin as m) := fun a ha => by
  have h1 := dmin_arc (k := m) ha
  rw [dmin_end ho hy hm (ho a ha).2] at h1
  exact h1
/-! ### the sums as they go -/
def valS (s : LS) (v : Str) : Int := (lk s.sums v).getD 0
def FullS (ws : List Str) (s : LS) : Prop := ∀ v ∈ ws, ∃ x, lk s.sums v = some x
theorem lk_put {α : Type} {k z : Str} {v : α} : ∀ {m : List (Str × α)}, lk (putM m k v) z = if k = z then some v else lk m z := by
  intro m
  unfold putM
  by_cases h : (lk m k).isSome = true
  · rw [if_pos h]
    have key : ∀ {m : List (Str × α)}, (lk m k).isSome = true → lk (m.map fun p => if p.1 = k then (p.1, v) else p) z = if k = z then some v else lk m z := by
      intro m
      induction m with
      | nil =>
        intro h
        cases h
      | cons p m ih =>
        intro h
        rw [List.map_cons]
        unfold lk at h ⊢
        by_cases e : p.1 = k
        · rw [if_pos e] at h ⊢
          dsimp only
          by_cases e2 : p.1 = z
          · rw [if_pos e2, if_pos (e.symm.trans e2)]
          · rw [if_neg e2, if_neg e2, if_neg fun e3 => e2 (e.trans e3)]
            by_cases hs : (lk m k).isSome = true
            · rw [ih hs, if_neg fun e3 => e2 (e.trans e3)]
            · have : (m.map fun p => if p.1 = k then (p.1, v) else p) = m := by
                clear ih h
                induction m with
                | nil => rfl
                | cons q m ih2 =>
                  unfold lk at hs
                  by_cases e4 : q.1 = k
                  · rw [if_pos e4] at hs
                    exact absurd rfl hs
                  · rw [if_neg e4] at hs
                    rw [List.map_cons, if_neg e4, ih2 hs]
              rw [this]
        · rw [if_neg e] at h ⊢
          by_cases e2 : p.1 = z
          · rw [if_pos e2, if_pos e2, if_neg fun e3 => e (e2.trans e3.symm)]
          · rw [if_neg e2, if_neg e2]
            exact ih h
    exact key h
  · rw [if_neg h]
    have h0 : lk m k = none := by
      cases hk : lk m k with
      | none => rfl
      | some x =>
        rw [hk] at h
        exact absurd rfl h
    have key : ∀ {m : List (Str × α)}, lk m k = none → lk (m ++ [(k, v)]) z = if k = z then some v else lk m z := by
      intro m
      induction m with
      | nil =>
        intro _
        show (if k = z then some v else none) = _
        rfl
      | cons p m ih =>
        intro h
        rw [List.cons_append]
        unfold lk at h ⊢
        by_cases e : p.1 = k
        · rw [if_pos e] at h
          cases h
        · rw [if_neg e] at h
          by_cases e2 : p.1 = z
          · rw [if_pos e2, if_pos e2, if_neg fun e3 => e (e2.trans e3.symm)]
          · rw [if_neg e2, if_neg e2]
            exact ih h
    exact key h0
/-- what one arc does -/
theorem relaxA_cases {ws : List Str} {as : List Arc} {s : LS} {i : Nat} {a : Arc} (h : as[i]? = some a) (hf : FullS ws s) (ho : a.fr ∈ ws ∧ a.to ∈ ws) :
    (relaxA as s i = s ∧ valS s a.to ≤ valS s a.fr + a.wt) ∨ (valS s a.fr + a.wt < valS s a.to ∧ (relaxA as s i).low = some a.to ∧ FullS ws (relaxA as s i) ∧ ∀ v, valS (relaxA as s i) v = if a.to = v then valS s a.fr + a.wt else valS s v) := by
  obtain ⟨x, hx⟩ := hf a.fr ho.1
  obtain ⟨y, hy⟩ := hf a.to ho.2
  have vx : valS s a.fr = x := by unfold valS; rw [hx]; rfl
  have vy : valS s a.to = y := by unfold valS; rw [hy]; rfl
  have hb : better s a (x + a.wt) = decide (x + a.wt < y) := by unfold better; rw [hy]
  rw [vx, vy]
  by_cases hl : x + a.wt < y
  · refine .inr ⟨hl, ?_⟩
    rw [decide_eq_true hl] at hb
    rw [relaxA_yes h hx hb]
    refine ⟨rfl, fun v hv => ?_, fun v => ?_⟩
    · show ∃ z, lk (putM s.sums a.to (x + a.wt)) v = some z
      rw [lk_put]
      split
      · exact ⟨_, rfl⟩
      · exact hf v hv
    · show (lk (putM s.sums a.to (x + a.wt)) v).getD 0 = _
      rw [lk_put]
      split <;> rfl
  · rw [decide_eq_false hl] at hb
    exact .inl ⟨relaxA_no h hx hb, by omega⟩
/-- after some arcs of a round -/
theorem round_to {ws : List Str} {as : List Arc} (ho : ArcsOn ws as) {s : LS} (hf : FullS ws s) {B e : Str → Int} (hB : ∀ v ∈ ws, valS s v ≤ B v) (he : ∀ v ∈ ws, e v ≤ valS s v) (hp : Pot as e) : ∀ n, n ≤ as.length →
    FullS ws (roundN as s n) ∧ (∀ v ∈ ws, valS (roundN as s n) v ≤ B v) ∧ (∀ v ∈ ws, e v ≤ valS (roundN as s n) v) ∧ (∀ (j : Nat) (a : Arc), j < n → as[j]? = some a → valS (roundN as s n) a.to ≤ B a.fr + a.wt) ∧ ((roundN as s n).low = none → (roundN as s n).sums = s.sums ∧ ∀ (j : Nat) (a : Arc), j < n → as[j]? = some a → valS s a.to ≤ valS s a.fr + a.wt)
  | 0, _ => ⟨hf, hB, he, fun j a hj => absurd hj (Nat.not_lt_zero _), fun _ => ⟨rfl, fun j a hj => absurd hj (Nat.not_lt_zero _)⟩⟩
  | n + 1, hn => by
    obtain ⟨g1, g2, g3, g4, g5⟩ := round_to ho hf hB he hp n (by omega)
    have ha : as[n]? = some as[n] := List.getElem?_eq_getElem (by omega)
    have hm := ho as[n] (List.getElem_mem (by omega))
    have hpn := hp as[n] (List.getElem_mem (by omega))
    rw [round_next]
    rcases relaxA_cases ha g1 hm with ⟨e1, e2⟩ | ⟨e1, e2, e3, e4⟩
    · rw [e1]
      refine ⟨g1, g2, g3, fun j a hj h => ?_, fun hl => ?_⟩
      · by_cases ej : j = n
        · subst ej
          rw [ha] at h
          cases h
          have := g2 _ hm.1
          omega
        · exact g4 j a (by omega) h
      · obtain ⟨k1, k2⟩ := g5 hl
        refine ⟨k1, fun j a hj h => ?_⟩
        by_cases ej : j = n
        · subst ej
          rw [ha] at h
          cases h
          unfold valS at e2 ⊢
          rw [k1] at e2
          exact e2
        · exact k2 j a (by omega) h
    · have hB2 : ∀ v, v ∈ ws → valS (relaxA as (roundN as s n) n) v ≤ valS (roundN as s n) v := fun v hv => by
        rw [e4]
        split
        · rename_i ev
          rw [← ev]
          omega
        · exact Int.le_refl _
      refine ⟨e3, fun v hv => Int.le_trans (hB2 v hv) (g2 v hv), fun v hv => ?_, fun j a hj h => ?_, fun hl => ?_⟩
      · rw [e4]
        split
        · rename_i ev
          rw [← ev]
          have := g3 _ hm.1
          omega
        · exact g3 v hv
      · have hma := ho a (List.mem_of_getElem? h)
        by_cases ej : j = n
        · subst ej
          rw [ha] at h
          cases h
          rw [e4, if_pos rfl]
          have := g2 _ hm.1
          omega
        · exact Int.le_trans (hB2 _ hma.2) (g4 j a (by omega) h)
      · rw [e2] at hl
        cases hl
/-- numbers that show it: no sum is lowered for ever -/
theorem turns_none {ws : List Str} {as : List Arc} (ho : ArcsOn ws as) {y : Str → Int} (hy : Pot as y) {N : Nat} (hN : ws.length ≤ N + 1) : ∀ (r k : Nat) (s : LS), r + k = N + 1 → 1 ≤ r → FullS ws s → (∀ v ∈ ws, valS s v ≤ dmin as k v) → (∀ v ∈ ws, dmin as N v ≤ valS s v) → (turns as r s).low = none
  | 0, _, _, _, h, _, _, _ => absurd h (by omega)
  | r + 1, k, s, hrk, _, hf, hB, he => by
    have hfix := dmin_fix ho hy hN
    obtain ⟨g1, g2, g3, g4, g5⟩ := round_to ho hf hB he hfix as.length (Nat.le_refl _)
    unfold turns
    by_cases hl : (roundN as s as.length).low = none
    · rw [if_pos hl]
      exact hl
    · rw [if_neg hl]
      have hB1 : ∀ v ∈ ws, valS (roundN as s as.length) v ≤ dmin as (k + 1) v := fun v hv => by
        refine le_fmin (g2 v hv) fun x hx => ?_
        obtain ⟨a, ha, rfl⟩ := List.mem_map.mp hx
        obtain ⟨h1, h2⟩ := List.mem_filter.mp ha
        obtain ⟨j, hj, e⟩ := List.getElem_of_mem h1
        have := g4 j a hj (by rw [List.getElem?_eq_getElem hj, e])
        rw [of_decide_eq_true h2] at this
        exact this
      by_cases hr : r = 0
      · exfalso
        have hk : k = N := by omega
        subst hk
        apply hl
        have hv : ∀ v ∈ ws, valS s v = dmin as k v := fun v hv => Int.le_antisymm (hB v hv) (he v hv)
        have no : ∀ n, n ≤ as.length → roundN as s n = { s with low := none } := by
          intro n
          induction n with
          | zero => exact fun _ => rfl
          | succ n ih =>
            intro hn
            have ha : as[n]? = some as[n] := List.getElem?_eq_getElem (by omega)
            have hm := ho as[n] (List.getElem_mem (by omega))
            have hpn := hfix as[n] (List.getElem_mem (by omega))
            rw [round_next, ih (by omega)]
            have hf0 : FullS ws { s with low := none } := hf
            rcases relaxA_cases ha hf0 hm with ⟨e1, _⟩ | ⟨e1, _⟩
            · exact e1
            · have e1 : valS s as[n].fr + as[n].wt < valS s as[n].to := e1
              rw [hv _ hm.1, hv _ hm.2] at e1
              omega
        rw [no as.length (Nat.le_refl _)]
      · exact turns_none ho hy hN r (k + 1) _ (by omega) (by omega) g1 hB1 g3
/-- no sum lowered: the sums show it -/
theorem turns_pot {ws : List Str} {as : List Arc} (ho : ArcsOn ws as) : ∀ (r : Nat) (s : LS), FullS ws s → 1 ≤ r → (turns as r s).low = none → Pot as (valS (turns as r s)) ∧ FullS ws (turns as r s)
  | 0, _, _, h, _ => absurd h (by omega)
  | r + 1, s, hf, _, h => by
    unfold turns at h ⊢
    have key := fun (e : Str → Int) (he : ∀ v ∈ ws, e v ≤ valS s v) (hp : Pot as e) => round_to ho hf (B := valS s) (fun v _ => Int.le_refl _) he hp as.length (Nat.le_refl _)
    have full : ∀ n, n ≤ as.length → FullS ws (roundN as s n) ∧ ((roundN as s n).low = none → (roundN as s n).sums = s.sums ∧ ∀ (j : Nat) (a : Arc), j < n → as[j]? = some a → valS s a.to ≤ valS s a.fr + a.wt) := by
      intro n
      induction n with
      | zero => exact fun _ => ⟨hf, fun _ => ⟨rfl, fun j a hj => absurd hj (Nat.not_lt_zero _)⟩⟩
      | succ n ih =>
        intro hn
        obtain ⟨g1, g5⟩ := ih (by omega)
        have ha : as[n]? = some as[n] := List.getElem?_eq_getElem (by omega)
        have hm := ho as[n] (List.getElem_mem (by omega))
        rw [round_next]
        rcases relaxA_cases ha g1 hm with ⟨e1, e2⟩ | ⟨e1, e2, e3, e4⟩
        · rw [e1]
          refine ⟨g1, fun hl => ?_⟩
          obtain ⟨k1, k2⟩ := g5 hl
          refine ⟨k1, fun j a hj h => ?_⟩
          by_cases ej : j = n
          · subst ej
            rw [ha] at h
            cases h
            unfold valS at e2 ⊢
            rw [k1] at e2
            exact e2
          · exact k2 j a (by omega) h
        · refine ⟨e3, fun hl => ?_⟩
          rw [e2] at hl
          cases hl
    obtain ⟨f1, f2⟩ := full as.length (Nat.le_refl _)
    by_cases hl : (roundN as s as.length).low = none
    · rw [if_pos hl] at h ⊢
      obtain ⟨k1, k2⟩ := f2 hl
      refine ⟨fun a ha => ?_, f1⟩
      obtain ⟨j, hj, e⟩ := List.getElem_of_mem ha
      have := k2 j a hj (by rw [List.getElem?_eq_getElem hj, e])
      unfold valS at this ⊢
      rw [k1]
      exact this
    · rw [if_neg hl] at h ⊢
      by_cases hr : r = 0
      · subst hr
        exact absurd h hl
      · exact turns_pot ho r _ f1 (by omega) h
end Jl

set_option Elab.async false
set_option linter.all false
set_option maxRecDepth 100000
set_option maxHeartbeats 1000000
set_option pp.maxSteps 300
namespace Jl
open PySem PySem.Spec PyProof.Rows L2
open Evl (sz_of sz_lt)

/-! ### what the pile of rings comes to -/
inductive Ext (qs : List QD) : Gs → List Mk → Prop
  | close (a : Gs) (m : Mk) (hm : m ∈ touchN qs (lsG a) qs.length) (h1 : far qs m = hdG a) (h2 : a.row ≠ []) (h3 : m.1 ∉ a.row.map (·.1)) : Ext qs a (a.row ++ [m])
  | step (a : Gs) (m : Mk) (r : List Mk) (hm : m ∈ touchN qs (lsG a) qs.length) (h1 : far qs m ≠ hdG a) (h2 : gtS (far qs m) (hdG a) = true) (h3 : far qs m ∉ a.met) (h : Ext qs ⟨a.row ++ [m], a.met ++ [far qs m]⟩ r) : Ext qs a r
theorem one_mem {qs : List QD} {a : Gs} : ∀ {l : List Mk} {p : Ps},
    (∀ r, r ∈ (l.foldl (one qs a) p).1 ↔ r ∈ p.1 ∨ ∃ m ∈ l, far qs m = hdG a ∧ a.row ≠ [] ∧ m.1 ∉ a.row.map (·.1) ∧ r = a.row ++ [m]) ∧
    (∀ b, b ∈ (l.foldl (one qs a) p).2 ↔ b ∈ p.2 ∨ ∃ m ∈ l, far qs m ≠ hdG a ∧ gtS (far qs m) (hdG a) = true ∧ far qs m ∉ a.met ∧ b = ⟨a.row ++ [m], a.met ++ [far qs m]⟩)
  | [], p => ⟨fun r => ⟨.inl, fun h => h.elim id fun ⟨m, hm, _⟩ => absurd hm List.not_mem_nil⟩, fun b => ⟨.inl, fun h => h.elim id fun ⟨m, hm, _⟩ => absurd hm List.not_mem_nil⟩⟩
  | z :: l, p => by
    obtain ⟨g1, g2⟩ := one_mem (qs := qs) (a := a) (l := l) (p := one qs a p z)
    rw [List.foldl_cons]
    have h1 : ∀ r, r ∈ (one qs a p z).1 ↔ r ∈ p.1 ∨ (far qs z = hdG a ∧ a.row ≠ [] ∧ z.1 ∉ a.row.map (·.1) ∧ r = a.row ++ [z]) := fun r => by
      unfold one
      by_cases e : far qs z = hdG a
      · rw [if_pos e]
        by_cases c : a.row ≠ [] ∧ z.1 ∉ a.row.map (·.1)
        · rw [if_pos c, List.mem_append, List.mem_singleton]
          exact ⟨fun h => h.imp id fun h => ⟨e, c.1, c.2, h⟩, fun h => h.imp id fun h => h.2.2.2⟩
        · rw [if_neg c]
          exact ⟨.inl, fun h => h.elim id fun h => absurd ⟨h.2.1, h.2.2.1⟩ c⟩
      · rw [if_neg e]
        split
        · exact ⟨.inl, fun h => h.elim id fun h => absurd h.1 e⟩
        · exact ⟨.inl, fun h => h.elim id fun h => absurd h.1 e⟩
    have h2 : ∀ b, b ∈ (one qs a p z).2 ↔ b ∈ p.2 ∨ (far qs z ≠ hdG a ∧ gtS (far qs z) (hdG a) = true ∧ far qs z ∉ a.met ∧ b = ⟨a.row ++ [z], a.met ++ [far qs z]⟩) := fun b => by
      unfold one
      by_cases e : far qs z = hdG a
      · rw [if_pos e]
        split
        · exact ⟨.inl, fun h => h.elim id fun h => absurd e h.1⟩
        · exact ⟨.inl, fun h => h.elim id fun h => absurd e h.1⟩
      · rw [if_neg e]
        by_cases c : gtS (far qs z) (hdG a) = true ∧ far qs z ∉ a.met
        · rw [if_pos c, List.mem_append, List.mem_singleton]
          exact ⟨fun h => h.imp id fun h => ⟨e, c.1, c.2, h⟩, fun h => h.imp id fun h => h.2.2.2⟩
        · rw [if_neg c]
          exact ⟨.inl, fun h => h.elim id fun h => absurd ⟨h.2.1, h.2.2.1⟩ c⟩
    refine ⟨fun r => ?_, fun b => ?_⟩
    · rw [g1, h1]
      constructor
      · rintro ((h | h) | ⟨m, hm, h⟩)
        · exact .inl h
        · exact .inr ⟨z, List.mem_cons_self, h⟩
        · exact .inr ⟨m, List.mem_cons_of_mem _ hm, h⟩
      · rintro (h | ⟨m, hm, h⟩)
        · exact .inl (.inl h)
        · rcases List.mem_cons.mp hm with rfl | hm
          · exact .inl (.inr h)
          · exact .inr ⟨m, hm, h⟩
    · rw [g2, h2]
      constructor
      · rintro ((h | h) | ⟨m, hm, h⟩)
        · exact .inl h
        · exact .inr ⟨z, List.mem_cons_self, h⟩
        · exact .inr ⟨m, List.mem_cons_of_mem _ hm, h⟩
      · rintro (h | ⟨m, hm, h⟩)
        · exact .inl (.inl h)
        · rcases List.mem_cons.mp hm with rfl | hm
          · exact .inl (.inr h)
          · exact .inr ⟨m, hm, h⟩
theorem ext_iff {qs : List QD} {a : Gs} {r : List Mk} : Ext qs a r ↔ (∃ m ∈ touchN qs (lsG a) qs.length, far qs m = hdG a ∧ a.row ≠ [] ∧ m.1 ∉ a.row.map (·.1) ∧ r = a.row ++ [m]) ∨ ∃ m ∈ touchN qs (lsG a) qs.length, far qs m ≠ hdG a ∧ gtS (far qs m) (hdG a) = true ∧ far qs m ∉ a.met ∧ Ext qs ⟨a.row ++ [m], a.met ++ [far qs m]⟩ r := by
  constructor
  · intro h
    match h with
    | .close _ m hm h1 h2 h3 => exact .inl ⟨m, hm, h1, h2, h3, rfl⟩
    | .step _ m _ hm h1 h2 h3 h => exact .inr ⟨m, hm, h1, h2, h3, h⟩
  · rintro (⟨m, hm, h1, h2, h3, rfl⟩ | ⟨m, hm, h1, h2, h3, h⟩)
    · exact .close a m hm h1 h2 h3
    · exact .step a m r hm h1 h2 h3 h
theorem rn_mem {qs : List QD} {p : Ps} {g : List (List Mk)} (h : Rn qs p g) : ∀ r, r ∈ g ↔ r ∈ p.1 ∨ ∃ a ∈ p.2, Ext qs a r := by
  induction h with
  | done f => exact fun r => ⟨.inl, fun h => h.elim id fun ⟨a, ha, _⟩ => absurd ha List.not_mem_nil⟩
  | next f o a g _ ih =>
    intro r
    obtain ⟨s1, s2⟩ := one_mem (qs := qs) (a := a) (l := touchN qs (lsG a) qs.length) (p := (f, o))
    rw [ih]
    unfold stp
    rw [s1]
    constructor
    · rintro ((h | ⟨m, hm, h1, h2, h3, h4⟩) | ⟨b, hb, hx⟩)
      · exact .inl h
      · exact .inr ⟨a, List.mem_append_right _ (List.mem_singleton.mpr rfl), ext_iff.mpr (.inl ⟨m, hm, h1, h2, h3, h4⟩)⟩
      · rcases (s2 b).mp hb with hb | ⟨m, hm, h1, h2, h3, rfl⟩
        · exact .inr ⟨b, List.mem_append_left _ hb, hx⟩
        · exact .inr ⟨a, List.mem_append_right _ (List.mem_singleton.mpr rfl), ext_iff.mpr (.inr ⟨m, hm, h1, h2, h3, hx⟩)⟩
    · rintro (h | ⟨b, hb, hx⟩)
      · exact .inl (.inl h)
      · rcases List.mem_append.mp hb with hb | hb
        · exact .inr ⟨b, (s2 b).mpr (.inl hb), hx⟩
        · rw [List.mem_singleton] at hb
          subst hb
          rcases ext_iff.mp hx with h | ⟨m, hm, h1, h2, h3, hx⟩
          · exact .inl (.inr h)
          · exact .inr ⟨_, (s2 _).mpr (.inr ⟨m, hm, h1, h2, h3, rfl⟩), hx⟩
/-! ### rings as rows of workers -/
def fl (m : Mk) : Mk := (m.1, !m.2)
/-- along these workers -/
def path (qs : List QD) : List Str → List Mk → Prop
  | [_], [] => True
  | v :: u :: vs, m :: ms => link qs m v u ∧ path qs (u :: vs) ms
  | _, _ => False
theorem link_touch {qs : List QD} {m : Mk} {x y : Str} (hne : ∀ q ∈ qs, q.st ≠ q.en) (h : link qs m x y) : m ∈ touchN qs x qs.length ∧ far qs m = y := by
  obtain ⟨q, hq, h⟩ := h
  have hlt := (List.getElem?_eq_some_iff.mp hq).1
  have hn := hne q (List.mem_of_getElem? hq)
  obtain ⟨i, b⟩ := m
  refine ⟨List.mem_filterMap.mpr ⟨i, List.mem_range.mpr hlt, ?_⟩, ?_⟩
  · unfold tch
    rw [show qs[i]? = some q from hq]
    rcases h with ⟨h1, h2, _⟩ | ⟨h1, h2, _⟩
    · have h1 : b = true := h1
      subst h1
      exact if_pos h2
    · have h1 : b = false := h1
      subst h1
      show (if q.st = x then some (i, true) else if q.en = x then some (i, false) else none) = some (i, false)
      rw [if_neg (by rw [← h2]; exact hn), if_pos h2]
  · unfold far
    rw [show qs[(i, b).1]? = some q from hq]
    rcases h with ⟨h1, _, h2⟩ | ⟨h1, _, h2⟩
    · have h1 : b = true := h1
      subst h1
      exact h2
    · have h1 : b = false := h1
      subst h1
      exact h2
theorem link_fl {qs : List QD} {m : Mk} {x y : Str} (h : link qs m x y) : link qs (fl m) y x := by
  obtain ⟨q, hq, h⟩ := h
  refine ⟨q, hq, ?_⟩
  rcases h with ⟨h1, h2, h3⟩ | ⟨h1, h2, h3⟩
  · exact .inr ⟨by unfold fl; rw [h1]; rfl, h3, h2⟩
  · exact .inl ⟨by unfold fl; rw [h1]; rfl, h3, h2⟩
theorem link_same {qs : List QD} {m m' : Mk} {x y x' y' : Str} (e : m.1 = m'.1) (h : link qs m x y) (h' : link qs m' x' y') : (x = x' ∧ y = y') ∨ (x = y' ∧ y = x') := by
  obtain ⟨q, hq, h⟩ := h
  obtain ⟨q', hq', h'⟩ := h'
  rw [e, hq'] at hq
  cases hq
  rcases h with ⟨_, h2, h3⟩ | ⟨_, h2, h3⟩ <;> rcases h' with ⟨_, g2, g3⟩ | ⟨_, g2, g3⟩
  · exact .inl ⟨h2.symm.trans g2, h3.symm.trans g3⟩
  · exact .inr ⟨h2.symm.trans g3, h3.symm.trans g2⟩
  · exact .inr ⟨h2.symm.trans g3, h3.symm.trans g2⟩
  · exact .inl ⟨h2.symm.trans g2, h3.symm.trans g3⟩
theorem path_snoc {qs : List QD} {v u : Str} {m : Mk} (hm : link qs m v u) : ∀ {vs : List Str} {ms : List Mk}, path qs (vs ++ [v]) ms → path qs (vs ++ [v, u]) (ms ++ [m])
  | [], [], _ => ⟨hm, trivial⟩
  | [], _ :: _, h => absurd h id
  | [x], [], h => absurd h id
  | x :: y :: vs, [], h => absurd h id
  | [x], m0 :: ms, h => ⟨h.1, path_snoc hm (vs := []) h.2⟩
  | x :: y :: vs, m0 :: ms, h => ⟨h.1, path_snoc hm (vs := y :: vs) h.2⟩
theorem path_rev {qs : List QD} : ∀ {vs : List Str} {ms : List Mk}, path qs vs ms → path qs vs.reverse (ms.map fl).reverse
  | [v], [], _ => trivial
  | v :: u :: vs, m :: ms, h => by
    have h2 := path_rev h.2
    rw [List.reverse_cons] at h2
    have h3 := path_snoc (link_fl h.1) h2
    rw [List.map_cons, List.reverse_cons, List.reverse_cons, List.reverse_cons, List.append_assoc]
    exact h3
/-- a ring from w: the workers between, the steps -/
structure RingW (qs : List QD) (w : Str) (us : List Str) (r : List Mk) : Prop where
  pa : path qs (w :: us ++ [w]) r
  ne : us ≠ []
  nd : us.Nodup
  gt : ∀ u ∈ us, u ≠ w ∧ gtS u w = true
  la : ∀ (pre : List Mk) (m : Mk), r = pre ++ [m] → m.1 ∉ pre.map (·.1)
theorem ext_of {qs : List QD} (hne : ∀ q ∈ qs, q.st ≠ q.en) {w : Str} : ∀ (us : List Str) (ms : List Mk) (a : Gs), hdG a = w → path qs (lsG a :: us ++ [w]) ms → us.Nodup → (∀ u ∈ us, u ≠ w ∧ gtS u w = true ∧ u ∉ a.met) → (a.row = [] → us ≠ []) → (∀ (pre : List Mk) (m : Mk), a.row ++ ms = pre ++ [m] → m.1 ∉ pre.map (·.1)) → a.met ≠ [] → Ext qs a (a.row ++ ms)
  | [], [], a, _, h, _, _, _, _, _ => absurd h id
  | [], [m], a, hw, h, _, _, hr, hl, _ => by
    obtain ⟨h1, h2⟩ := link_touch hne h.1
    exact .close a m h1 (h2.trans hw.symm) (fun e => hr e rfl) (hl a.row m rfl)
  | [], m :: m' :: ms, a, _, h, _, _, _, _, _ => absurd h.2 id
  | u :: us, [], a, _, h, _, _, _, _, _ => absurd h id
  | u :: us, m :: ms, a, hw, h, hn, hg, hr, hl, hm => by
    obtain ⟨h1, h2⟩ := link_touch hne h.1
    obtain ⟨k1, k2, k3⟩ := hg u List.mem_cons_self
    rw [List.nodup_cons] at hn
    have hd2 : hdG ⟨a.row ++ [m], a.met ++ [u]⟩ = w := by
      rw [← hw]
      unfold hdG
      cases hmet : a.met with
      | nil => exact absurd hmet hm
      | cons x xs => rfl
    have ls2 : lsG ⟨a.row ++ [m], a.met ++ [u]⟩ = u := by
      unfold lsG
      simp
    have ih := ext_of hne us ms ⟨a.row ++ [m], a.met ++ [u]⟩ hd2 (by rw [ls2]; exact h.2) hn.2 (fun x hx => by
      obtain ⟨q1, q2, q3⟩ := hg x (List.mem_cons_of_mem _ hx)
      refine ⟨q1, q2, fun hz => ?_⟩
      rcases List.mem_append.mp hz with hz | hz
      · exact q3 hz
      · rw [List.mem_singleton] at hz
        rw [hz] at hx
        exact hn.1 hx) (fun e => absurd (congrArg List.length e) (by simp)) (fun pre m2 e => hl pre m2 (by rw [← e]; simp)) (by simp)
    have e : a.row ++ m :: ms = (a.row ++ [m]) ++ ms := by simp
    rw [e]
    refine .step a m _ h1 (by rw [h2, hw]; exact k1) (by rw [h2, hw]; exact k2) (by rw [h2]; exact k3) ?_
    rw [h2]
    exact ih
theorem ext_to {qs : List QD} {w : Str} {a : Gs} {r : List Mk} (h : Ext qs a r) : hdG a = w → a.met ≠ [] → ∃ us ms, r = a.row ++ ms ∧ path qs (lsG a :: us ++ [w]) ms ∧ us.Nodup ∧ (∀ u ∈ us, u ≠ w ∧ gtS u w = true ∧ u ∉ a.met) ∧ (a.row = [] → us ≠ []) ∧ (∀ (pre : List Mk) (m : Mk), r = pre ++ [m] → m.1 ∉ pre.map (·.1)) := by
  induction h with
  | close a m hm h1 h2 h3 =>
    intro hw _
    have hl := touch_link hm
    rw [h1, hw] at hl
    refine ⟨[], [m], rfl, ⟨hl, trivial⟩, List.nodup_nil, fun u hu => absurd hu List.not_mem_nil, fun e => absurd e h2, fun pre m2 e => ?_⟩
    obtain ⟨e1, e2⟩ := List.append_inj' e rfl
    cases e2
    rw [← e1]
    exact h3
  | step a m r hm h1 h2 h3 h ih =>
    intro hw hmet
    have hd2 : hdG ⟨a.row ++ [m], a.met ++ [far qs m]⟩ = w := by
      rw [← hw]
      unfold hdG
      cases hm2 : a.met with
      | nil => exact absurd hm2 hmet
      | cons x xs => rfl
    have ls2 : lsG ⟨a.row ++ [m], a.met ++ [far qs m]⟩ = far qs m := by
      unfold lsG
      simp
    obtain ⟨us, ms, e, hp, hn, hg, hr, hl⟩ := ih hd2 (by simp)
    rw [ls2] at hp
    refine ⟨far qs m :: us, m :: ms, by rw [e]; simp, ⟨touch_link hm, hp⟩, List.nodup_cons.mpr ⟨fun hz => ?_, hn⟩, fun u hu => ?_, fun _ => List.cons_ne_nil _ _, hl⟩
    · exact (hg _ hz).2.2 (List.mem_append_right _ (List.mem_singleton.mpr rfl))
    · rcases List.mem_cons.mp hu with rfl | hu
      · rw [hw] at h1 h2
        exact ⟨h1, h2, h3⟩
      · obtain ⟨q1, q2, q3⟩ := hg u hu
        exact ⟨q1, q2, fun z => q3 (List.mem_append_left _ z)⟩
/-- the rings that are listed -/
theorem ring_mem {ws : List Str} {qs : List QD} {g : List (List Mk)} (hne : ∀ q ∈ qs, q.st ≠ q.en) (h : Rn qs (startP ws) g) : ∀ r, r ∈ g ↔ ∃ w ∈ ws, ∃ us, RingW qs w us r := by
  intro r
  rw [rn_mem h]
  constructor
  · rintro (h | ⟨a, ha, hx⟩)
    · exact absurd h List.not_mem_nil
    · obtain ⟨w, hw, rfl⟩ := List.mem_map.mp ha
      obtain ⟨us, ms, e, hp, hn, hg, hr, hl⟩ := ext_to (w := w) hx rfl (List.cons_ne_nil _ _)
      have e : r = ms := e
      subst e
      exact ⟨w, hw, us, hp, hr rfl, hn, fun u hu => ⟨(hg u hu).1, (hg u hu).2.1⟩, hl⟩
  · rintro ⟨w, hw, us, hR⟩
    refine .inr ⟨⟨[], [w]⟩, List.mem_map.mpr ⟨w, hw, rfl⟩, ?_⟩
    exact ext_of hne us r ⟨[], [w]⟩ rfl hR.pa hR.nd (fun u hu => ⟨(hR.gt u hu).1, (hR.gt u hu).2, fun z => (hR.gt u hu).1 (List.mem_singleton.mp z)⟩) (fun _ => hR.ne) hR.la (List.cons_ne_nil _ _)
/-! ### rings the other way round -/
def revR (r : List Mk) : List Mk := (r.map fl).reverse
theorem fl_fl (m : Mk) : fl (fl m) = m := by
  obtain ⟨i, b⟩ := m
  cases b <;> rfl
theorem revR_revR (r : List Mk) : revR (revR r) = r := by
  unfold revR
  rw [List.map_reverse, List.reverse_reverse, List.map_map]
  have : fl ∘ fl = id := funext fl_fl
  rw [this, List.map_id]
/-- a later step of a ring over the queue of the first one -/
theorem path_in {qs : List QD} : ∀ {vs : List Str} {ms : List Mk} {m : Mk}, path qs vs ms → m ∈ ms → ∃ x y, link qs m x y ∧ x ∈ vs.dropLast ∧ y ∈ vs.tail
  | [_], [], _, _, h => absurd h List.not_mem_nil
  | v :: u :: vs, m0 :: ms, m, h, hm => by
    rcases List.mem_cons.mp hm with rfl | hm
    · exact ⟨v, u, h.1, by simp, by simp⟩
    · obtain ⟨x, y, h1, h2, h3⟩ := path_in h.2 hm
      refine ⟨x, y, h1, ?_, ?_⟩
      · rw [List.dropLast_cons₂]
        exact List.mem_cons_of_mem _ h2
      · exact List.mem_cons_of_mem _ h3
end Jl

set_option Elab.async false
set_option linter.all false
set_option maxRecDepth 100000
set_option maxHeartbeats 1000000
set_option pp.maxSteps 300
namespace Jl
open PySem PySem.Spec PyProof.Rows L2
open Evl (sz_of sz_lt)

theorem ring_rev {qs : List QD} {w : Str} {us : List Str} {r : List Mk} (h : RingW qs w us r) : RingW qs w us.reverse (revR r) := by
  refine ⟨?_, fun e => h.ne (List.reverse_eq_nil_iff.mp e), (List.reverse_perm us).nodup_iff.mpr h.nd, fun u hu => h.gt u (List.mem_reverse.mp hu), fun pre m e => ?_⟩
  · have h1 := path_rev h.pa
    have e1 : (w :: us ++ [w]).reverse = w :: us.reverse ++ [w] := by simp
    rw [e1] at h1
    exact h1
  · have er : r = fl m :: revR pre := by
      have := congrArg revR e
      rw [revR_revR] at this
      rw [this]
      unfold revR
      simp
    intro hm
    have hm2 : ∃ m2 ∈ revR pre, m2.1 = m.1 := by
      obtain ⟨m3, h3, e3⟩ := List.mem_map.mp hm
      refine ⟨fl m3, ?_, e3⟩
      unfold revR
      rw [List.mem_reverse]
      exact List.mem_map.mpr ⟨m3, h3, rfl⟩
    obtain ⟨m2, hm2, e2⟩ := hm2
    generalize revR pre = tl at er hm2
    subst er
    have hp := h.pa
    have hu := h.ne
    match us, hu, h, hp with
    | [v1], _, h, hp =>
      match tl, hm2, hp, h with
      | [m2'], hm2, hp, h =>
        rw [List.mem_singleton] at hm2
        subst hm2
        exact h.la [fl m] m2 rfl (by rw [e2]; exact List.mem_singleton.mpr rfl)
      | _ :: _ :: _, _, hp, _ => exact absurd hp.2.2 id
      | [], hm2, _, _ => exact absurd hm2 List.not_mem_nil
    | v1 :: v2 :: us', _, h, hp =>
      match tl, hm2, hp, h with
      | [], hm2, _, _ => exact absurd hm2 List.not_mem_nil
      | m3 :: tl', hm2, hp, h =>
        have k1 := (h.gt v1 List.mem_cons_self).1
        have k2 := (h.gt v2 (List.mem_cons_of_mem _ List.mem_cons_self)).1
        have hl1 : link qs (fl m) w v1 := hp.1
        have ef : (fl m).1 = m2.1 := e2.symm
        rcases List.mem_cons.mp hm2 with rfl | hm2
        · rcases link_same ef hl1 hp.2.1 with ⟨e4, _⟩ | ⟨e4, _⟩
          · exact k1 e4.symm
          · exact k2 e4.symm
        · obtain ⟨x, y, g1, g2, g3⟩ := path_in hp.2.2 hm2
          have g2 : x ∈ v2 :: us' := by
            have : (v2 :: us' ++ [w]).dropLast = v2 :: us' := List.dropLast_concat
            rw [← this]
            exact g2
          rcases link_same ef hl1 g1 with ⟨e4, _⟩ | ⟨_, e4⟩
          · exact (h.gt x (List.mem_cons_of_mem _ g2)).1 e4.symm
          · have hn := (List.nodup_cons.mp h.nd).1
            rw [e4] at hn
            exact hn g2
theorem rev_mem {ws : List Str} {qs : List QD} {g : List (List Mk)} (hne : ∀ q ∈ qs, q.st ≠ q.en) (h : Rn qs (startP ws) g) {r : List Mk} (hr : r ∈ g) : revR r ∈ g := by
  obtain ⟨w, hw, us, hR⟩ := (ring_mem hne h r).mp hr
  exact (ring_mem hne h _).mpr ⟨w, hw, _, ring_rev hR⟩
/-! ### starts and ends exchanged -/
def swQ (q : QD) : QD := ⟨q.nm, q.en, q.st, q.room, q.gap⟩
def sw (r : List Mk) : List Mk := r.map fl
def swG (a : Gs) : Gs := ⟨sw a.row, a.met⟩
def swP (p : Ps) : Ps := (p.1.map sw, p.2.map swG)
theorem sw_fst {r : List Mk} : (sw r).map (·.1) = r.map (·.1) := by
  unfold sw
  rw [List.map_map]
  rfl
theorem tch_sw {qs : List QD} (hne : ∀ q ∈ qs, q.st ≠ q.en) {v : Str} {i : Nat} : tch (qs.map swQ) v i = (tch qs v i).map fl := by
  unfold tch
  rw [List.getElem?_map]
  cases hq : qs[i]? with
  | none => rfl
  | some q =>
    have hn := hne q (List.mem_of_getElem? hq)
    show (if q.en = v then some (i, true) else if q.st = v then some (i, false) else none) = (if q.st = v then some (i, true) else if q.en = v then some (i, false) else none).map fl
    by_cases h1 : q.st = v
    · rw [if_pos h1, if_pos h1, if_neg (by rw [← h1]; exact fun e => hn e.symm)]
      rfl
    · rw [if_neg h1, if_neg h1]
      by_cases h2 : q.en = v
      · rw [if_pos h2, if_pos h2]
        rfl
      · rw [if_neg h2, if_neg h2]
        rfl
theorem touch_sw {qs : List QD} (hne : ∀ q ∈ qs, q.st ≠ q.en) {v : Str} {k : Nat} : touchN (qs.map swQ) v k = (touchN qs v k).map fl := by
  unfold touchN
  rw [List.map_filterMap]
  congr 1
  funext i
  exact tch_sw hne
theorem far_sw {qs : List QD} {m : Mk} : far (qs.map swQ) (fl m) = far qs m := by
  unfold far
  rw [show (fl m).1 = m.1 from rfl, List.getElem?_map]
  cases qs[m.1]? with
  | none => rfl
  | some q =>
    show (if (!m.2) = true then q.st else q.en) = if m.2 = true then q.en else q.st
    cases m.2 <;> rfl
theorem one_sw {qs : List QD} {a : Gs} {p : Ps} {m : Mk} : one (qs.map swQ) (swG a) (swP p) (fl m) = swP (one qs a p m) := by
  unfold one
  rw [far_sw, show hdG (swG a) = hdG a from rfl, show (swG a).met = a.met from rfl, show (swG a).row = sw a.row from rfl, sw_fst, show (fl m).1 = m.1 from rfl]
  have er : (sw a.row ≠ []) = (a.row ≠ []) := by
    unfold sw
    rw [ne_eq, List.map_eq_nil_iff]
  by_cases e : far qs m = hdG a
  · rw [if_pos e, if_pos e]
    by_cases c : a.row ≠ [] ∧ m.1 ∉ a.row.map (·.1)
    · rw [if_pos c, if_pos (by rw [er]; exact c)]
      unfold swP sw
      simp
    · rw [if_neg c, if_neg (by rw [er]; exact c)]
  · rw [if_neg e, if_neg e]
    by_cases c : gtS (far qs m) (hdG a) = true ∧ far qs m ∉ a.met
    · rw [if_pos c, if_pos c]
      unfold swP swG sw
      simp
    · rw [if_neg c, if_neg c]
theorem stp_sw {qs : List QD} (hne : ∀ q ∈ qs, q.st ≠ q.en) {f : List (List Mk)} {o : List Gs} {a : Gs} : stp (qs.map swQ) (f.map sw) (o.map swG) (swG a) = swP (stp qs f o a) := by
  unfold stp
  rw [List.length_map, show lsG (swG a) = lsG a from rfl, touch_sw hne, List.foldl_map]
  have : ∀ (l : List Mk) (p : Ps), l.foldl (fun x y => one (qs.map swQ) (swG a) x (fl y)) (swP p) = swP (l.foldl (one qs a) p) := by
    intro l
    induction l with
    | nil => exact fun _ => rfl
    | cons m l ih =>
      intro p
      rw [List.foldl_cons, List.foldl_cons, one_sw, ih]
  exact this _ (f, o)
theorem rn_sw {qs : List QD} (hne : ∀ q ∈ qs, q.st ≠ q.en) {p : Ps} {g : List (List Mk)} (h : Rn qs p g) : Rn (qs.map swQ) (swP p) (g.map sw) := by
  induction h with
  | done f => exact .done _
  | next f o a g _ ih =>
    have e : swP (f, o ++ [a]) = (f.map sw, o.map swG ++ [swG a]) := by
      unfold swP
      simp
    rw [e]
    refine .next _ _ _ _ ?_
    rw [stp_sw hne]
    exact ih
theorem start_sw {ws : List Str} : swP (startP ws) = startP ws := by
  unfold swP startP
  rw [List.map_map]
  rfl
theorem pr_sw {qs : List QD} {m : Mk} : prQ (qs.map swQ) m = prQ qs m := by
  unfold prQ
  rw [List.getElem?_map]
  cases qs[m.1]? <;> rfl
theorem isum_rev (l : List Int) : l.reverse.sum = l.sum := by
  have app : ∀ (a b : List Int), (a ++ b).sum = a.sum + b.sum := by
    intro a b
    induction a with
    | nil => rw [List.nil_append, List.sum_nil]; omega
    | cons x a ih => rw [List.cons_append, List.sum_cons, List.sum_cons, ih]; omega
  induction l with
  | nil => rfl
  | cons x l ih => rw [List.reverse_cons, app, ih, List.sum_cons, List.sum_cons, List.sum_nil]; omega
theorem cost_sw {qs : List QD} {r : List Mk} : costQ (qs.map swQ) (sw r) = costQ qs (revR r) := by
  unfold costQ sw revR
  rw [List.map_reverse, isum_rev]
  congr 1
  exact List.map_congr_left fun m _ => pr_sw
theorem slC_set {l1 l2 : List Int} (h : ∀ x, x ∈ l1 ↔ x ∈ l2) : minV l1 = minV l2 := by
  match l1, l2, h with
  | [], [], _ => rfl
  | [], y :: l2, h => exact absurd ((h y).mpr List.mem_cons_self) List.not_mem_nil
  | x :: l1, [], h => exact absurd ((h x).mp List.mem_cons_self) List.not_mem_nil
  | x :: l1, y :: l2, h =>
    have key : ∀ {a b : Int} {l m : List Int}, (∀ z, z ∈ a :: l → z ∈ b :: m) → m.foldl min b ≤ l.foldl min a := fun {a b l m} hs => by
      have hm : l.foldl min a ∈ a :: l := by
        rcases fmin_mem (l := l) (b := a) with e | e
        · rw [e]
          exact List.mem_cons_self
        · exact List.mem_cons_of_mem _ e
      rcases List.mem_cons.mp (hs _ hm) with e | e
      · rw [e]
        exact fmin_le.1
      · exact fmin_le.2 _ e
    show V.int _ = V.int _
    rw [Int.le_antisymm (key fun z hz => (h z).mpr hz) (key fun z hz => (h z).mp hz)]
theorem min_sw {ws : List Str} {qs : List QD} {g : List (List Mk)} (hne : ∀ q ∈ qs, q.st ≠ q.en) (h : Rn qs (startP ws) g) : minV ((g.map sw).map (costQ (qs.map swQ))) = minV (g.map (costQ qs)) := by
  refine slC_set fun x => ?_
  rw [List.map_map, List.mem_map, List.mem_map]
  constructor
  · rintro ⟨r, hr, rfl⟩
    exact ⟨revR r, rev_mem hne h hr, cost_sw.symm⟩
  · rintro ⟨r, hr, rfl⟩
    refine ⟨revR r, rev_mem hne h hr, ?_⟩
    show costQ (qs.map swQ) (sw (revR r)) = costQ qs r
    rw [cost_sw, revR_revR]
/-! ### nobody held, and numbers that show it -/
theorem ded_all : ∀ {xs acc : List Str}, (∀ x ∈ xs, x ∈ acc) → xs.foldl stepD acc = acc
  | [], _, _ => rfl
  | x :: xs, acc, h => by
    rw [List.foldl_cons]
    have e : stepD acc x = acc := if_pos (h x List.mem_cons_self)
    rw [e]
    exact ded_all fun y hy => h y (List.mem_cons_of_mem _ hy)
theorem ded_new : ∀ {xs acc : List Str}, (acc ++ xs).Nodup → xs.foldl stepD acc = acc ++ xs
  | [], acc, _ => (List.append_nil acc).symm
  | x :: xs, acc, h => by
    rw [List.foldl_cons]
    have hx : x ∉ acc := fun hx => by
      have := (List.nodup_append.mp h).2.2 x hx x List.mem_cons_self
      exact this rfl
    have e : stepD acc x = acc ++ [x] := if_neg hx
    rw [e, ded_new (by rw [List.append_assoc]; exact h), List.append_assoc]
    rfl
theorem arcs_on {ws : List Str} {qs : List QD} (g : NetG ws qs) {sc tl : Int} : ArcsOn ws (arcsF sc tl qs) := fun a ha => by
  obtain ⟨q, hq, h⟩ := List.mem_flatMap.mp ha
  obtain ⟨g1, g2, _⟩ := g.q1 q hq
  rcases mem2 h with rfl | rfl
  · exact ⟨g1, g2⟩
  · exact ⟨g2, g1⟩
theorem least_n {ws : List Str} {as : List Arc} (hn : ws.Nodup) (ho : ArcsOn ws as) : leastN as (zeroM ws) = ws.length := by
  unfold leastN zeroM dedS
  rw [List.map_map, show (fun p : Str × Int => p.1) ∘ (fun x => (x, (0 : Int))) = id from rfl, List.map_id, List.foldl_append, ded_new (acc := []) (by rw [List.nil_append]; exact hn), List.nil_append, ded_all fun x hx => by
    obtain ⟨a, ha, rfl⟩ := List.mem_map.mp hx
    exact (ho a ha).2]
theorem lk_zero {v : Str} : ∀ {ws : List Str}, v ∈ ws → lk (zeroM ws) v = some 0
  | x :: ws, h => by
    unfold zeroM
    rw [List.map_cons]
    unfold lk
    by_cases e : x = v
    · rw [if_pos e]
    · rw [if_neg e]
      rcases List.mem_cons.mp h with h | h
      · exact absurd h.symm e
      · exact lk_zero h
theorem grad_iff {ws : List Str} {qs : List QD} (hn : ws.Nodup) (hg : NetG ws qs) (h0 : ws ≠ []) (sc : Int) :
    ((gradF ws qs sc).low = none → Pot (arcsF sc 1 qs) (valS (gradF ws qs sc)) ∧ FullS ws (gradF ws qs sc)) ∧ ∀ y, Pot (arcsF sc 1 qs) y → (gradF ws qs sc).low = none := by
  have ho := arcs_on hg (sc := sc) (tl := 1)
  have hl : 1 ≤ ws.length := List.length_pos_iff.mpr h0
  have hf : FullS ws ⟨zeroM ws, [], none⟩ := fun v hv => ⟨0, lk_zero hv⟩
  have hv : ∀ v ∈ ws, valS ⟨zeroM ws, [], none⟩ v = 0 := fun v hv => by
    unfold valS
    rw [lk_zero hv]
    rfl
  unfold gradF leastF
  rw [least_n hn ho]
  refine ⟨turns_pot ho ws.length _ hf hl, fun y hy => ?_⟩
  refine turns_none ho hy (N := ws.length - 1) (by omega) ws.length 0 _ (by omega) hl hf (fun v h => by rw [hv v h]; exact Int.le_refl _) fun v h => ?_
  rw [hv v h]
  exact dmin_mono (as := arcsF sc 1 qs) (v := v) (Nat.zero_le _)
theorem pot_q {qs : List QD} {sc tl : Int} {y : Str → Int} : Pot (arcsF sc tl qs) y ↔ ∀ q ∈ qs, y q.en ≤ y q.st + (sc * q.room - tl) ∧ y q.st ≤ y q.en + (sc * (1 - q.gap) - tl) := by
  constructor
  · intro h q hq
    exact ⟨h _ (List.mem_flatMap.mpr ⟨q, hq, List.mem_cons_self⟩), h _ (List.mem_flatMap.mpr ⟨q, hq, List.mem_cons_of_mem _ List.mem_cons_self⟩)⟩
  · intro h a ha
    obtain ⟨q, hq, h2⟩ := List.mem_flatMap.mp ha
    rcases mem2 h2 with rfl | rfl
    · exact (h q hq).1
    · exact (h q hq).2
theorem pot_sw {qs : List QD} {sc tl : Int} {y : Str → Int} (h : Pot (arcsF sc tl qs) y) : Pot (arcsF sc tl (qs.map swQ)) fun v => -y v := by
  rw [pot_q] at h ⊢
  intro q hq
  obtain ⟨z, hz, rfl⟩ := List.mem_map.mp hq
  obtain ⟨h1, h2⟩ := h z hz
  show -y z.st ≤ -y z.en + _ ∧ -y z.en ≤ -y z.st + _
  exact ⟨by show -y z.st ≤ -y z.en + (sc * z.room - tl); omega, by show -y z.en ≤ -y z.st + (sc * (1 - z.gap) - tl); omega⟩
theorem netG_sw {ws : List Str} {qs : List QD} (g : NetG ws qs) : NetG ws (qs.map swQ) := by
  refine ⟨fun q hq => ?_, ?_⟩
  · obtain ⟨z, hz, rfl⟩ := List.mem_map.mp hq
    obtain ⟨g1, g2, g3⟩ := g.q1 z hz
    exact ⟨g2, g1, fun e => g3 e.symm⟩
  · rw [List.map_map]
    exact g.nn
theorem sw_sw {qs : List QD} : (qs.map swQ).map swQ = qs := by
  rw [List.map_map]
  exact List.map_id qs
theorem never_sw {ws : List Str} {qs : List QD} (hn : ws.Nodup) (hg : NetG ws qs) (h0 : ws ≠ []) : neverF ws (qs.map swQ) = neverF ws qs := by
  unfold neverF
  have key : ∀ qs, NetG ws qs → (gradF ws qs ws.length).low = none → (gradF ws (qs.map swQ) ws.length).low = none := fun qs hg h =>
    (grad_iff hn (netG_sw hg) h0 _).2 _ (pot_sw ((grad_iff hn hg h0 _).1 h).1)
  refine decide_eq_decide.mpr ⟨fun h => ?_, key qs hg⟩
  have := key _ (netG_sw hg) h
  rwa [sw_sw] at this
end Jl

set_option Elab.async false
set_option linter.all false
set_option maxRecDepth 100000
set_option maxHeartbeats 1000000
set_option pp.maxSteps 300
namespace Jl
open PySem PySem.Spec PyProof.Rows L2
open Evl (sz_of sz_lt)

/-! ### rings of arcs, and numbers that show that none comes below 0 -/
/-- arcs backwards: each one ends where the one ahead of it begins -/
def BackW : Str → List Arc → Prop
  | _, [] => True
  | v, a :: es => a.to = v ∧ BackW a.fr es
def endW : Str → List Arc → Str
  | v, [] => v
  | _, a :: es => endW a.fr es
def sumW (es : List Arc) : Int := (es.map (·.wt)).sum
/-- no simple ring of arcs comes below 0 -/
def NoNeg (as : List Arc) : Prop := ∀ (v : Str) (es : List Arc), es ≠ [] → (∀ a ∈ es, a ∈ as) → BackW v es → endW v es = v → (es.map (·.fr)).Nodup → 0 ≤ sumW es
theorem back_take : ∀ {es : List Arc} {v : Str} (k : Nat), BackW v es → BackW v (es.take k)
  | [], _, _, _ => by rw [List.take_nil]; trivial
  | a :: es, v, 0, _ => trivial
  | a :: es, v, k + 1, h => ⟨h.1, back_take k h.2⟩
theorem sum_cons {a : Arc} {es : List Arc} : sumW (a :: es) = a.wt + sumW es := List.sum_cons
/-- where one stands after so many arcs back -/
def nodeW (v : Str) (es : List Arc) (k : Nat) : Str := endW v (es.take k)
theorem chain_nn {ws : List Str} {as : List Arc} (ho : ArcsOn ws as) (hn : NoNeg as) : ∀ (m : Nat) (v : Str), v ∈ ws → (m = 0 ∨ dmin as m v < dmin as (m - 1) v) →
    ∃ es : List Arc, es.length = m ∧ (∀ a ∈ es, a ∈ as) ∧ BackW v es ∧ (v :: es.map (·.fr)).Nodup ∧ ∀ k, k ≤ m → dmin as m v = dmin as (m - k) (nodeW v es k) + sumW (es.take k)
  | 0, v, _, _ => ⟨[], rfl, fun a ha => absurd ha List.not_mem_nil, trivial, by simp, fun k hk => by
      have : k = 0 := by omega
      rw [this]
      show dmin as 0 v = dmin as 0 v + 0
      omega⟩
  | m + 1, v, hv, h => by
    have h : dmin as (m + 1) v < dmin as m v := h.resolve_left (by omega)
    obtain ⟨a, ha, hto, he⟩ := dmin_new h
    have hfr : m = 0 ∨ dmin as m a.fr < dmin as (m - 1) a.fr := by
      by_cases e : m = 0
      · exact .inl e
      · refine .inr ?_
        have h1 := dmin_arc (k := m - 1) ha
        rw [show m - 1 + 1 = m by omega, hto] at h1
        omega
    obtain ⟨es, l1, l2, l3, l4, l5⟩ := chain_nn ho hn m a.fr (ho a ha).1 hfr
    have h5 : ∀ k, k ≤ m + 1 → dmin as (m + 1) v = dmin as (m + 1 - k) (nodeW v (a :: es) k) + sumW ((a :: es).take k) := fun k hk => by
      cases k with
      | zero =>
        show dmin as (m + 1) v = dmin as (m + 1) v + 0
        omega
      | succ k =>
        have := l5 k (by omega)
        rw [List.take_succ_cons, sum_cons, show m + 1 - (k + 1) = m - k by omega]
        show dmin as (m + 1) v = dmin as (m - k) (nodeW a.fr es k) + _
        omega
    refine ⟨a :: es, by rw [List.length_cons, l1], fun x hx => ?_, ⟨hto, l3⟩, List.nodup_cons.mpr ⟨fun hv2 => ?_, l4⟩, h5⟩
    · rcases List.mem_cons.mp hx with rfl | hx
      · exact ha
      · exact l2 x hx
    · obtain ⟨j, hj, ej⟩ := List.getElem_of_mem hv2
      have hjl : j < m + 1 := by
        rw [List.length_map, List.length_cons, l1] at hj
        exact hj
      have nd : ∀ (es : List Arc) (v : Str) (j : Nat) (hj : j < es.length), nodeW v es (j + 1) = (es[j]).fr := by
        intro es
        induction es with
        | nil => exact fun _ _ hj => absurd hj (Nat.not_lt_zero _)
        | cons b es ih =>
          intro v j hj
          cases j with
          | zero => rfl
          | succ j => exact ih b.fr j (by simpa using hj)
      have hnode : nodeW v (a :: es) (j + 1) = v := by
        rw [nd (a :: es) v j (by rw [List.length_cons, l1]; omega)]
        rw [List.getElem_map] at ej
        exact ej
      have hk := h5 (j + 1) (by omega)
      rw [hnode] at hk
      have hmon := dmin_mono (as := as) (v := v) (j := m + 1 - (j + 1)) (k := m) (by omega)
      have hneg : sumW ((a :: es).take (j + 1)) < 0 := by omega
      have := hn v ((a :: es).take (j + 1)) (by simp) (fun x hx => by
        rcases List.mem_cons.mp (List.mem_of_mem_take hx) with rfl | hx
        · exact ha
        · exact l2 x hx) (back_take _ ⟨hto, l3⟩) hnode (by
        rw [List.map_take]
        exact l4.sublist (List.take_sublist _ _))
      omega
theorem dmin_nn {ws : List Str} {as : List Arc} (ho : ArcsOn ws as) (hn : NoNeg as) {m : Nat} (hm : ws.length ≤ m + 1) : Pot as (dmin as m) := fun a ha => by
  have h1 := dmin_arc (k := m) ha
  have hv := (ho a ha).2
  by_cases h : dmin as (m + 1) a.to < dmin as m a.to
  · obtain ⟨es, l1, l2, l3, l4, _⟩ := chain_nn ho hn (m + 1) a.to hv (.inr h)
    have hs : ∀ x ∈ a.to :: es.map (·.fr), x ∈ ws := fun x hx => by
      rcases List.mem_cons.mp hx with rfl | hx
      · exact hv
      · obtain ⟨b, hb, rfl⟩ := List.mem_map.mp hx
        exact (ho b (l2 b hb)).1
    have := nodup_le l4 hs
    rw [List.length_cons, List.length_map, l1] at this
    omega
  · omega
theorem pot_of_nn {ws : List Str} {as : List Arc} (ho : ArcsOn ws as) (hn : NoNeg as) : ∃ y, Pot as y := ⟨_, dmin_nn ho hn (m := ws.length) (by omega)⟩
/-- the other way round: a ring of arcs never comes below 0 -/
theorem pot_ring {as : List Arc} {y : Str → Int} (hy : Pot as y) : ∀ (es : List Arc) (v : Str), (∀ a ∈ es, a ∈ as) → BackW v es → y v ≤ y (endW v es) + sumW es
  | [], v, _, _ => by
    show y v ≤ y v + 0
    omega
  | a :: es, v, h, hb => by
    have h1 := hy a (h a List.mem_cons_self)
    have h2 := pot_ring hy es a.fr (fun b hb => h b (List.mem_cons_of_mem _ hb)) hb.2
    rw [hb.1] at h1
    rw [sum_cons]
    show y v ≤ y (endW a.fr es) + _
    omega
/-! ### rings of a net as rings of arcs -/
theorem back_app : ∀ {xs ys : List Arc} {v : Str}, BackW v (xs ++ ys) ↔ BackW v xs ∧ BackW (endW v xs) ys
  | [], ys, v => ⟨fun h => ⟨trivial, h⟩, fun h => h.2⟩
  | x :: xs, ys, v => by
    show x.to = v ∧ BackW x.fr (xs ++ ys) ↔ (x.to = v ∧ BackW x.fr xs) ∧ BackW (endW x.fr xs) ys
    rw [back_app, and_assoc]
theorem end_app : ∀ {xs ys : List Arc} {v : Str}, endW v (xs ++ ys) = endW (endW v xs) ys
  | [], _, _ => rfl
  | x :: xs, ys, v => end_app (xs := xs) (v := x.fr)
theorem isum_app (a b : List Int) : (a ++ b).sum = a.sum + b.sum := by
  induction a with
  | nil => rw [List.nil_append, List.sum_nil]; omega
  | cons x a ih => rw [List.cons_append, List.sum_cons, List.sum_cons, ih]; omega
theorem sumW_app {xs ys : List Arc} : sumW (xs ++ ys) = sumW xs + sumW ys := by
  unfold sumW
  rw [List.map_append, isum_app]
/-- a ring of arcs, begun elsewhere -/
theorem ring_rot {v : Str} {xs ys : List Arc} (hb : BackW v (xs ++ ys)) (he : endW v (xs ++ ys) = v) : BackW (endW v xs) (ys ++ xs) ∧ endW (endW v xs) (ys ++ xs) = endW v xs := by
  rw [back_app] at hb
  rw [end_app] at he
  refine ⟨back_app.mpr ⟨hb.2, ?_⟩, ?_⟩
  · rw [he]
    exact hb.1
  · rw [end_app, he]
/-- an arc of the net -/
theorem arc_link {qs : List QD} {sc tl : Int} {a : Arc} (h : a ∈ arcsF sc tl qs) : ∃ m : Mk, link qs m a.fr a.to ∧ a.wt = sc * prQ qs m - tl ∧ m.1 < qs.length := by
  obtain ⟨q, hq, h⟩ := List.mem_flatMap.mp h
  obtain ⟨i, hi, e⟩ := List.getElem_of_mem hq
  have hq' : qs[i]? = some q := by rw [List.getElem?_eq_getElem hi, e]
  rcases mem2 h with rfl | rfl
  · exact ⟨(i, true), ⟨q, hq', .inl ⟨rfl, rfl, rfl⟩⟩, by unfold prQ; rw [hq']; rfl, hi⟩
  · exact ⟨(i, false), ⟨q, hq', .inr ⟨rfl, rfl, rfl⟩⟩, by unfold prQ; rw [hq']; rfl, hi⟩
/-- arcs backwards as a path of the steps the other way round -/
theorem back_path {qs : List QD} {sc tl : Int} : ∀ {es : List Arc} {v : Str}, (∀ a ∈ es, a ∈ arcsF sc tl qs) → BackW v es → ∃ ms : List Mk, ms.length = es.length ∧ path qs (v :: es.map (·.fr)).reverse ms.reverse ∧ sumW es = sc * (ms.map (prQ qs)).sum - tl * es.length
  | [], v, _, _ => ⟨[], rfl, trivial, by show (0 : Int) = sc * 0 - tl * 0; omega⟩
  | a :: es, v, h, hb => by
    obtain ⟨ms, h1, h2, h3⟩ := back_path (fun b hb => h b (List.mem_cons_of_mem _ hb)) hb.2
    obtain ⟨m, hl, hw, _⟩ := arc_link (h a List.mem_cons_self)
    refine ⟨m :: ms, by rw [List.length_cons, List.length_cons, h1], ?_, ?_⟩
    · rw [hb.1] at hl
      rw [List.reverse_cons] at h2
      have := path_snoc hl h2
      rw [List.map_cons, List.reverse_cons, List.reverse_cons, List.reverse_cons, List.append_assoc]
      exact this
    · rw [sum_cons, h3, hw, List.map_cons, List.sum_cons, List.length_cons, Int.mul_add]
      have : tl * ((es.length + 1 : Nat) : Int) = tl * (es.length : Int) + tl := by
        rw [Int.natCast_add, Int.mul_add]
        omega
      rw [this]
      omega
end Jl

set_option Elab.async false
set_option linter.all false
set_option maxRecDepth 100000
set_option maxHeartbeats 1000000
set_option pp.maxSteps 300
namespace Jl
open PySem PySem.Spec PyProof.Rows L2
open Evl (sz_of sz_lt)

/-! ### no ring of arcs below 0: no bad ring -/
theorem first_not {qs : List QD} {w v1 v2 : Str} {us : List Str} {m : Mk} {tl : List Mk} (hp : path qs (w :: v1 :: v2 :: us ++ [w]) (m :: tl)) (hn : (v1 :: v2 :: us).Nodup) (hw : w ∉ v1 :: v2 :: us) : ∀ m2 ∈ tl, m2.1 ≠ m.1 := by
  intro m2 hm2 e2
  match tl, hm2, hp with
  | [], hm2, _ => exact absurd hm2 List.not_mem_nil
  | m3 :: tl', hm2, hp =>
    have k1 : v1 ≠ w := fun e => hw (by rw [e]; exact List.mem_cons_self)
    have k2 : v2 ≠ w := fun e => hw (by rw [e]; exact List.mem_cons_of_mem _ List.mem_cons_self)
    have hl1 : link qs m w v1 := hp.1
    have ef : m.1 = m2.1 := e2.symm
    rcases List.mem_cons.mp hm2 with rfl | hm2
    · rcases link_same ef hl1 hp.2.1 with ⟨e4, _⟩ | ⟨e4, _⟩
      · exact k1 e4.symm
      · exact k2 e4.symm
    · obtain ⟨x, y, g1, g2, g3⟩ := path_in hp.2.2 hm2
      have g2 : x ∈ v2 :: us := by
        have : (v2 :: us ++ [w]).dropLast = v2 :: us := List.dropLast_concat
        rw [← this]
        exact g2
      rcases link_same ef hl1 g1 with ⟨e4, _⟩ | ⟨_, e4⟩
      · exact hw (by rw [e4]; exact List.mem_cons_of_mem _ g2)
      · have hn := (List.nodup_cons.mp hn).1
        rw [e4] at hn
        exact hn g2
theorem str_ext' {a b : Str} (h : a.cps.toList = b.cps.toList) : a = b := by
  obtain ⟨x⟩ := a
  obtain ⟨y⟩ := b
  have : x = y := Array.toList_inj.mp h
  rw [this]
theorem gtS_tot {a b : Str} (h : a ≠ b) : gtS a b = true ∨ gtS b a = true := by
  unfold gtS
  rw [decide_eq_true_eq, decide_eq_true_eq]
  by_cases h1 : b.cps.toList < a.cps.toList
  · exact .inl h1
  · by_cases h2 : a.cps.toList < b.cps.toList
    · exact .inr h2
    · exact absurd (str_ext' (List.le_antisymm (List.not_lt.mp h1) (List.not_lt.mp h2))) h
theorem gtS_trans {a b c : Str} (h1 : gtS a b = true) (h2 : gtS b c = true) : gtS a c = true := by
  unfold gtS at *
  rw [decide_eq_true_eq] at *
  exact List.lt_trans h2 h1
theorem least_of : ∀ {l : List Str}, l ≠ [] → ∃ w ∈ l, ∀ u ∈ l, u = w ∨ gtS u w = true
  | [x], _ => ⟨x, List.mem_cons_self, fun u hu => .inl (List.mem_singleton.mp hu)⟩
  | x :: y :: l, _ => by
    obtain ⟨w, hw, h⟩ := least_of (l := y :: l) (List.cons_ne_nil _ _)
    by_cases e : x = w
    · refine ⟨w, List.mem_cons_of_mem _ hw, fun u hu => ?_⟩
      rcases List.mem_cons.mp hu with rfl | hu
      · exact .inl e
      · exact h u hu
    · rcases gtS_tot e with g | g
      · refine ⟨w, List.mem_cons_of_mem _ hw, fun u hu => ?_⟩
        rcases List.mem_cons.mp hu with rfl | hu
        · exact .inr g
        · exact h u hu
      · refine ⟨x, List.mem_cons_self, fun u hu => ?_⟩
        rcases List.mem_cons.mp hu with rfl | hu
        · exact .inl rfl
        · rcases h u hu with rfl | h
          · exact .inr g
          · exact .inr (gtS_trans h g)
/-- rings of arcs are rings of the net, or one queue there and back -/
theorem noneg_of {ws : List Str} {qs : List QD} {sc : Int} (hG : NetG ws qs) (hR : ∀ w us r, w ∈ ws → RingW qs w us r → (r.length : Int) ≤ sc * costQ qs r) (hQ : ∀ q ∈ qs, 2 ≤ sc * (q.room - q.gap + 1)) : NoNeg (arcsF sc 1 qs) := by
  intro v es hne ha hb he hn
  obtain ⟨w, hw, hleast⟩ := least_of (l := es.map (·.fr)) (fun e => hne (List.map_eq_nil_iff.mp e))
  obtain ⟨a, hae, hfr⟩ := List.mem_map.mp hw
  obtain ⟨xs0, ys, e0⟩ := List.append_of_mem hae
  have e1 : es = (xs0 ++ [a]) ++ ys := by rw [e0, List.append_assoc]; rfl
  have hend : endW v (xs0 ++ [a]) = w := by
    rw [end_app]
    exact hfr
  rw [e1] at hb he
  obtain ⟨hb2, he2⟩ := ring_rot hb he
  rw [hend] at hb2 he2
  have hsum : sumW (ys ++ (xs0 ++ [a])) = sumW es := by
    rw [e1, sumW_app, sumW_app, sumW_app, sumW_app]
    omega
  have hmap : (ys ++ (xs0 ++ [a])).map (·.fr) = (ys ++ xs0).map (·.fr) ++ [w] := by
    rw [← List.append_assoc, List.map_append, List.map_cons, List.map_nil, hfr]
  have hperm : (ys ++ (xs0 ++ [a])).Perm es := by
    rw [e1]
    exact List.perm_append_comm
  have hnd : ((ys ++ xs0).map (·.fr) ++ [w]).Nodup := by
    rw [← hmap]
    exact (hperm.map _).nodup_iff.mpr hn
  have hle : ∀ u ∈ (ys ++ xs0).map (·.fr), u = w ∨ gtS u w = true := fun u hu => hleast u ((hperm.map _).mem_iff.mp (by rw [hmap]; exact List.mem_append_left _ hu))
  have hmem : ∀ b ∈ ys ++ (xs0 ++ [a]), b ∈ arcsF sc 1 qs := fun b hb => ha b (hperm.mem_iff.mp hb)
  have hww : w ∈ ws := by
    rw [← hfr]
    exact (arcs_on hG (sc := sc) (tl := 1) a (ha a hae)).1
  rw [← hsum]
  obtain ⟨ms, l1, l2, l3⟩ := back_path hmem hb2
  have hlen : (ys ++ (xs0 ++ [a])).length = ((ys ++ xs0).map (·.fr)).length + 1 := by
    rw [← List.length_map (f := fun b : Arc => b.fr), hmap, List.length_append]
    rfl
  rw [l3]
  rw [hmap] at l2
  clear hmap l3 hsum hperm hmem hb2 he2
  generalize (ys ++ xs0).map (·.fr) = us at l2 hlen hnd hle
  rw [hlen] at l1 ⊢
  have hwu : w ∉ us := fun h => (List.nodup_append.mp hnd).2.2 w h w (List.mem_singleton.mpr rfl) rfl
  have hun : us.Nodup := (List.nodup_append.mp hnd).1
  have erev : (w :: (us ++ [w])).reverse = w :: us.reverse ++ [w] := by simp
  rw [erev] at l2
  have hcost : (ms.map (prQ qs)).sum = costQ qs ms.reverse := by
    unfold costQ
    rw [List.map_reverse, isum_rev]
  rw [hcost]
  generalize hr : ms.reverse = r at l2 hcost ⊢
  have hrl : r.length = us.length + 1 := by rw [← hr, List.length_reverse, l1]
  have goal : ((r.length : Nat) : Int) ≤ sc * costQ qs r → 0 ≤ sc * costQ qs r - 1 * ((us.length + 1 : Nat) : Int) := fun h => by
    rw [hrl] at h
    omega
  have hvn : us.reverse.Nodup := (List.reverse_perm us).nodup_iff.mpr hun
  have hvw : w ∉ us.reverse := fun h => hwu (List.mem_reverse.mp h)
  have hvg : ∀ u ∈ us.reverse, u ≠ w ∧ gtS u w = true := fun u hu => by
    have hu' := List.mem_reverse.mp hu
    have hne2 : u ≠ w := fun e => hwu (by rw [← e]; exact hu')
    exact ⟨hne2, (hle u hu').resolve_left hne2⟩
  have hvl : us.reverse.length = us.length := List.length_reverse ..
  generalize us.reverse = vs at l2 hvn hvw hvg hvl
  have hring : vs ≠ [] → (∀ (pre : List Mk) (m : Mk), r = pre ++ [m] → m.1 ∉ pre.map (·.1)) → 0 ≤ sc * costQ qs r - 1 * ((us.length + 1 : Nat) : Int) := fun h1 h2 =>
    goal (hR w vs r hww ⟨l2, h1, hvn, hvg, h2⟩)
  match vs, l2, hvl, hvn, hvw, hvg, hring with
  | [], l2, _, _, _, _, _ =>
    match r, l2 with
    | [m], l2 => exact absurd rfl (far_mem hG l2.1).2
    | _ :: _ :: _, l2 => exact absurd l2.2 id
    | [], l2 => exact absurd l2 id
  | [u], l2, hvl, _, hvw, _, hring =>
    match r, l2, hring with
    | [], l2, _ => exact absurd l2 id
    | [_], l2, _ => exact absurd l2.2 id
    | _ :: _ :: _ :: _, l2, _ => exact absurd l2.2.2 id
    | [m1, m2], l2, hring =>
      by_cases hd : m1.1 = m2.1
      · obtain ⟨q, hq, h1⟩ := l2.1
        obtain ⟨q', hq', h2⟩ := l2.2.1
        have eq' : q' = q := by
          rw [← hd, hq] at hq'
          exact (Option.some.inj hq').symm
        subst eq'
        have hqm := List.mem_of_getElem? hq
        have hn3 := (hG.q1 _ hqm).2.2
        have h5 := hQ _ hqm
        have hus1 : us.length = 1 := hvl.symm
        rw [hus1]
        have ec : costQ qs [m1, m2] = prQ qs m1 + prQ qs m2 := by
          unfold costQ
          rw [List.map_cons, List.map_cons, List.map_nil, List.sum_cons, List.sum_cons, List.sum_nil]
          omega
        have p1 : prQ qs m1 = if m1.2 = true then q'.room else 1 - q'.gap := by unfold prQ; rw [hq]
        have p2 : prQ qs m2 = if m2.2 = true then q'.room else 1 - q'.gap := by unfold prQ; rw [hq']
        rw [ec, p1, p2]
        have e6 : sc * (q'.room - q'.gap + 1) = sc * (q'.room + (1 - q'.gap)) := by congr 1; omega
        have e7 : sc * (q'.room - q'.gap + 1) = sc * (1 - q'.gap + q'.room) := by congr 1; omega
        rcases h1 with ⟨b1, s1, t1⟩ | ⟨b1, s1, t1⟩ <;> rcases h2 with ⟨b2, s2, t2⟩ | ⟨b2, s2, t2⟩
        · exact absurd (s1.trans t2.symm) hn3
        · rw [b1, b2, if_pos rfl, if_neg (by decide)]
          omega
        · rw [b1, b2, if_neg (by decide), if_pos rfl]
          omega
        · exact absurd (t1.trans s2.symm) hn3
      · refine hring (List.cons_ne_nil _ _) fun pre m e => ?_
        match pre, e with
        | [p], e =>
          cases e
          intro h
          rw [List.map_cons, List.map_nil, List.mem_singleton] at h
          exact hd h.symm
        | [], e => exact absurd (congrArg List.length e) (by simp)
        | _ :: _ :: _, e => exact absurd (congrArg List.length e) (by simp)
  | v1 :: v2 :: vs', l2, _, hvn, hvw, _, hring =>
    refine hring (List.cons_ne_nil _ _) fun pre m e => ?_
    intro hmp
    obtain ⟨m2, hm2, e2⟩ := List.mem_map.mp hmp
    have h1 := path_rev l2
    have e8 : (w :: v1 :: v2 :: vs' ++ [w]).reverse = w :: (v1 :: v2 :: vs').reverse ++ [w] := by simp
    have e9 : (r.map fl).reverse = fl m :: revR pre := by
      rw [e]
      unfold revR
      simp
    rw [e8, e9] at h1
    have hn2 : (v1 :: v2 :: vs').reverse.Nodup := (List.reverse_perm _).nodup_iff.mpr hvn
    have hw2 : w ∉ (v1 :: v2 :: vs').reverse := fun h => hvw (List.mem_reverse.mp h)
    have hl2 : (v1 :: v2 :: vs').reverse.length = vs'.length + 2 := by rw [List.length_reverse]; rfl
    generalize (v1 :: v2 :: vs').reverse = zs at h1 hn2 hw2 hl2
    match zs, hl2, h1, hn2, hw2 with
    | [], hl2, _, _, _ => exact absurd hl2 (by simp)
    | [_], hl2, _, _, _ => exact absurd hl2 (by simp)
    | z1 :: z2 :: zs', _, h1, hn2, hw2 =>
      refine first_not h1 hn2 hw2 (fl m2) ?_ e2
      unfold revR
      rw [List.mem_reverse]
      exact List.mem_map.mpr ⟨m2, hm2, rfl⟩
theorem pot_link {qs : List QD} {sc tl : Int} {y : Str → Int} (hy : Pot (arcsF sc tl qs) y) {m : Mk} {v u : Str} (h : link qs m v u) : y u ≤ y v + (sc * prQ qs m - tl) := by
  obtain ⟨q, hq, h⟩ := h
  obtain ⟨h1, h2⟩ := pot_q.mp hy q (List.mem_of_getElem? hq)
  have p1 : prQ qs m = if m.2 = true then q.room else 1 - q.gap := by unfold prQ; rw [hq]
  rw [p1]
  rcases h with ⟨b1, rfl, rfl⟩ | ⟨b1, rfl, rfl⟩
  · rw [b1, if_pos rfl]
    exact h1
  · rw [b1, if_neg (by decide)]
    exact h2
/-- and back: such numbers go round each ring -/
theorem pot_path {qs : List QD} {sc tl : Int} {y : Str → Int} (hy : Pot (arcsF sc tl qs) y) : ∀ {vs : List Str} {v : Str} {ms : List Mk} {u : Str}, path qs (v :: vs ++ [u]) ms → y u ≤ y v + (sc * costQ qs ms - tl * ms.length)
  | [], v, [], u, h => absurd h id
  | [], v, [m], u, h => by
    have := pot_link hy h.1
    have e : costQ qs [m] = prQ qs m := by
      unfold costQ
      rw [List.map_cons, List.map_nil, List.sum_cons, List.sum_nil]
      omega
    rw [e]
    show y u ≤ y v + (sc * prQ qs m - tl * 1)
    omega
  | [], v, m :: m' :: ms, u, h => absurd h.2 id
  | x :: vs, v, [], u, h => absurd h id
  | x :: vs, v, m :: ms, u, h => by
    have h1 := pot_link hy h.1
    have h2 := pot_path hy (vs := vs) (v := x) h.2
    have e : costQ qs (m :: ms) = prQ qs m + costQ qs ms := by
      unfold costQ
      rw [List.map_cons, List.sum_cons]
    have e2 : tl * ((ms.length + 1 : Nat) : Int) = tl * (ms.length : Int) + tl := by
      rw [Int.natCast_add, Int.mul_add]
      omega
    rw [e, Int.mul_add, List.length_cons, e2]
    omega
end Jl

set_option Elab.async false
set_option linter.all false
set_option maxRecDepth 100000
set_option maxHeartbeats 1000000
set_option pp.maxSteps 300
namespace Jl
open PySem PySem.Spec PyProof.Rows L2
open Evl (sz_of sz_lt)

/-! ### nobody is ever held just if no ring is bad -/
theorem ring_len {ws : List Str} {qs : List QD} (hG : NetG ws qs) {w : Str} {us : List Str} {r : List Mk} (hw : w ∈ ws) (h : RingW qs w us r) : r.length ≤ ws.length ∧ 2 ≤ r.length := by
  have len : ∀ {vs : List Str} {ms : List Mk}, path qs vs ms → vs.length = ms.length + 1 := by
    intro vs
    induction vs with
    | nil => exact fun h => absurd h id
    | cons v vs ih =>
      intro ms h
      match vs, ms, h with
      | [], [], _ => rfl
      | [], _ :: _, h => exact absurd h id
      | u :: vs, [], h => exact absurd h id
      | u :: vs, m :: ms, h =>
        have := ih h.2
        rw [List.length_cons, this, List.length_cons]
  have mem : ∀ {vs : List Str} {ms : List Mk} {v : Str}, path qs (v :: vs) ms → ∀ x ∈ vs, x ∈ ws := by
    intro vs
    induction vs with
    | nil => exact fun _ x hx => absurd hx List.not_mem_nil
    | cons u vs ih =>
      intro ms v h x hx
      match ms, h with
      | m :: ms, h =>
        rcases List.mem_cons.mp hx with rfl | hx
        · exact (far_mem hG h.1).1
        · exact ih h.2 x hx
      | [], h => exact absurd h id
  have h1 := len h.pa
  have h2 := List.length_pos_iff.mpr h.ne
  have e : (w :: us ++ [w]).length = us.length + 2 := by simp
  have hn : (w :: us).Nodup := List.nodup_cons.mpr ⟨fun hz => (h.gt w hz).1 rfl, h.nd⟩
  have hs : ∀ x ∈ w :: us, x ∈ ws := fun x hx => by
    rcases List.mem_cons.mp hx with rfl | hx
    · exact hw
    · exact mem h.pa x (List.mem_append_left _ hx)
  have := nodup_le hn hs
  rw [List.length_cons] at this
  omega
theorem two_ws {ws : List Str} {qs : List QD} (hG : NetG ws qs) {q : QD} (hq : q ∈ qs) : 2 ≤ ws.length := by
  obtain ⟨h1, h2, h3⟩ := hG.q1 q hq
  have := nodup_le (l := [q.st, q.en]) (ws := ws) (by simp [h3]) fun x hx => by
    rcases mem2 hx with rfl | rfl
    · exact h1
    · exact h2
  exact this
theorem low_rings {ws : List Str} {qs : List QD} {g : List (List Mk)} (hn : ws.Nodup) (hG : NetG ws qs) (h0 : ws ≠ []) (hg : Rn qs (startP ws) g) (sc : Int) : (gradF ws qs sc).low = none ↔ (∀ r ∈ g, (r.length : Int) ≤ sc * costQ qs r) ∧ ∀ q ∈ qs, 2 ≤ sc * (q.room - q.gap + 1) := by
  have hne : ∀ q ∈ qs, q.st ≠ q.en := fun q hq => (hG.q1 q hq).2.2
  obtain ⟨g1, g2⟩ := grad_iff hn hG h0 sc
  constructor
  · intro h
    obtain ⟨hy, _⟩ := g1 h
    refine ⟨fun r hr => ?_, fun q hq => ?_⟩
    · obtain ⟨w, hw, us, hR⟩ := (ring_mem hne hg r).mp hr
      have := pot_path hy hR.pa
      omega
    · obtain ⟨h1, h2⟩ := pot_q.mp hy q hq
      have e : sc * (q.room - q.gap + 1) = sc * q.room + sc * (1 - q.gap) := by
        rw [← Int.mul_add]
        congr 1
        omega
      rw [e]
      omega
  · rintro ⟨h1, h2⟩
    obtain ⟨y, hy⟩ := pot_of_nn (arcs_on hG (sc := sc) (tl := 1)) (noneg_of hG (fun w us r hw hR => h1 r ((ring_mem hne hg r).mpr ⟨w, hw, us, hR⟩)) h2)
    exact g2 y hy
end Jl

set_option Elab.async false
set_option linter.all false
set_option maxRecDepth 100000
set_option maxHeartbeats 1000000
set_option pp.maxSteps 300
namespace Jl
open PySem PySem.Spec PyProof.Rows L2
open Evl (sz_of sz_lt)
local macro_rules | `(tactic| walk_at "at") => `(tactic| first | exact box0 | exact box1 | exact box2)
local macro_rules | `(tactic| walk_at "sq") => `(tactic| first | (show SqL _ _ _ _; assumption) | (show SqT _ _ _ _; assumption) | (show _ = some _; assumption))
local macro_rules | `(tactic| walk_at "side") => `(tactic| first
  | (show (0 : Int) < _; decide)
  | (show (0 : Int) < _; omega)
  | exact ⟨by decide, by decide, by decide⟩
  | exact sz_of (Nat.le_of_ble_eq_true rfl)
  | exact rfl
  | exact Or.inl (by decide)
  | exact Or.inr (by decide)
  | exact Or.inr ⟨by omega, by omega⟩
  | exact Or.inl ⟨by omega, by omega⟩
  | exact ⟨by decide, by decide +kernel⟩)
local macro_rules | `(tactic| walk_at "ev1") => `(tactic| first
  | refine ⟨_, rfl, ?_⟩
  | refine ⟨_, _, rfl, rfl, ?_⟩
  | refine ⟨_, _, _, _, rfl, rfl, (by walk_at "sq"), (by walk_at "at"), ?_⟩
  | refine ⟨_, _, rfl, (by walk_at "sq"), ?_⟩
  | refine ⟨_, _, rfl, Or.inl (by walk_at "sq"), ?_⟩
  | refine ⟨_, _, rfl, Or.inr (by walk_at "sq"), ?_⟩
  | refine Or.inl ⟨_, rfl, ?_⟩
  | refine Or.inr ⟨_, rfl, ?_⟩
  | refine ⟨(by walk_at "side"), ?_⟩
  | refine ⟨.inl ⟨rfl, _, (by walk_at "sq")⟩, ?_⟩
  | refine ⟨_, _, rfl, ?_⟩)
local macro_rules | `(tactic| walk_at "nrm") => `(tactic| dsimp only [tNil, tCons, tC, tCB])
local macro_rules | `(tactic| walk_at "ev") => `(tactic| repeat (walk_at "ev1"))

abbrev sc_w_twin_web_N : List Str := ["_law_box_here", "_law_high", "_law_size_so", "_law_tags", "_law_found", "_law_quiet", "_law_k", "_law_least", "_law_space", "_law_gap"]
abbrev s_w_twin_web : Stmt := topS 36
theorem sc_w_twin_web : FnScope ["_law_box_here", "_law_high", "_law_size_so", "_law_tags", "_law_found", "_law_quiet", "_law_k", "_law_least", "_law_space", "_law_gap"] ["_law_box_here", "_law_high"] (defScope s_w_twin_web) := ⟨rfl, rfl, rfl, by decide +kernel, rfl, by decide +kernel, by decide +kernel⟩
def bdQ (q : QD) : Prop := 0 ≤ q.gap ∧ q.gap ≤ 10 ^ 60 ∧ 0 ≤ q.room ∧ q.room ≤ 10 ^ 60
theorem seq_byC {t u : TS} {D : Ends} {σ : L2.St} {H : Hp} (M : L2.St → Hp → Prop) (h1 : ∀ σ H, M σ H → u D σ H) (h2 : ∀ D' : Ends, (∀ σ H, M σ H → D'.nx σ H) → t D' σ H) : tSeq t u D σ H := h2 { D with nx := u D } h1
structure NW (ws : List Str) (qs : List QD) : Prop where
  wn : ws.Nodup
  w1 : 1 ≤ ws.length
  wl : ws.length ≤ 60
  ql : qs.length ≤ 60
  qw : ∀ q ∈ qs, q.st ∈ ws ∧ q.en ∈ ws
  ok : ∀ x ∈ ws, PyData.strOk x = true
  bd : ∀ q ∈ qs, bdQ q
def tgT : List Str := [Str.ofString "s", Str.ofString "m", Str.ofString "n", Str.ofString "o", Str.ofString "t"]
def nmT : List Str := [Str.ofString "m", Str.ofString "q1", Str.ofString "s"]
def nmR : List Str := nmT ++ [Str.ofString "r"]
theorem tg_all {z : Nat} {x : Str} (h : x ∈ Str.ofString "t" :: tgT.take z) : x ∈ tgT := by
  rcases List.mem_cons.mp h with rfl | h
  · exact (by decide +kernel : Str.ofString "t" ∈ tgT)
  · exact List.mem_of_mem_take h
/-- the bounds of drawn rows -/
def bdT (h : Int) (q : QD) : Prop := 1 ≤ q.gap ∧ q.gap ≤ q.room ∧ q.room ≤ h
theorem tw_in {z i : Nat} (h : i < z) (hz : z ≤ 3) : tgT.getD i default ∈ Str.ofString "t" :: tgT.take z := by
  refine List.mem_cons_of_mem _ ?_
  have : (tgT.take z)[i]? = some (tgT.getD i default) := by
    rw [List.getElem?_take_of_lt h, List.getD_eq_getElem?_getD, List.getElem?_eq_getElem (show i < tgT.length by show i < 5; omega)]
    rfl
  exact List.mem_of_getElem? this
theorem tw_nd : ∀ z : Nat, 1 ≤ z → z ≤ 3 → (Str.ofString "t" :: tgT.take z).Nodup ∧ (∀ x ∈ Str.ofString "t" :: tgT.take z, PyData.strOk x = true) ∧ (Str.ofString "t" :: tgT.take z).length ≤ 4 ∧ Str.ofString "s" ∈ tgT.take z
  | 1, _, _ => by decide +kernel
  | 2, _, _ => by decide +kernel
  | 3, _, _ => by decide +kernel
  | 0, h, _ => absurd h (by decide)
  | n + 4, _, h => absurd h (by omega)
theorem q_alike {q2 : List QD} : PySem.W.AllAlike (q2.map (QD.d true)) := fun d hd d' hd' => by
  obtain ⟨r, _, rfl⟩ := List.mem_map.mp hd
  obtain ⟨r', _, rfl⟩ := List.mem_map.mp hd'
  simp [QD.d, seqD, PySem.W.alike, PySem.W.alikeAll]
theorem q_sortable {q2 : List QD} : PySem.W.Sortable (q2.map (QD.d true)) := .inl fun d hd => by
  obtain ⟨r, hr, rfl⟩ := List.mem_map.mp hd
  exact ⟨_, _, rfl⟩
theorem q_depth {q : QD} : (QD.d true q).depth ≤ 1 := by
  simp [QD.d, seqD, PyData.depth, PyData.depthAll]
theorem qd_inj {q q' : QD} (h : QD.d true q = QD.d true q') : q = q' := by
  cases q
  cases q'
  simp [QD.d, seqD] at h
  obtain ⟨h1, h2, h3, h4, h5⟩ := h
  subst h1 h2 h3 h4 h5
  rfl
theorem perm_rows {l : List PyData} {q2 : List QD} (h : l.Perm (q2.map (QD.d true))) : ∃ q3 : List QD, l = q3.map (QD.d true) ∧ q3.length = q2.length ∧ ∀ q ∈ q3, q ∈ q2 := by
  have hl : ∀ d ∈ l, ∃ q ∈ q2, QD.d true q = d := fun d hd => List.mem_map.mp (h.mem_iff.mp hd)
  have len := h.length_eq
  rw [List.length_map] at len
  rw [← len]
  clear h len
  induction l with
  | nil => exact ⟨[], rfl, rfl, fun q hq => absurd hq List.not_mem_nil⟩
  | cons d l ih =>
    obtain ⟨q, hq, e⟩ := hl d List.mem_cons_self
    obtain ⟨q3, h1, h2, h3⟩ := ih fun d hd => hl d (List.mem_cons_of_mem _ hd)
    refine ⟨q :: q3, by rw [List.map_cons, e, ← h1], by rw [List.length_cons, List.length_cons, h2], fun x hx => ?_⟩
    rcases List.mem_cons.mp hx with rfl | hx
    · exact hq
    · exact h3 x hx
/-- the rows of the one way, as they come -/
def TwQ (z : Nat) (qs : List QD) : Prop := (∀ q ∈ qs, (q.st ∈ Str.ofString "t" :: tgT.take z ∧ q.en ∈ Str.ofString "t" :: tgT.take z) ∧ bdT (10 ^ 8) q) ∧ (∀ q ∈ qs, q.st ≠ q.en) ∧ qs.map QD.nm = nmT.take qs.length
theorem tg_ne : ∀ i, i < 3 → tgT.getD i default ≠ tgT.getD (i + 1) default ∧ tgT.getD i default ≠ Str.ofString "t" := by decide +kernel
theorem st_ne : Str.ofString "s" ≠ Str.ofString "t" := by decide +kernel
theorem nm_nd : ∀ z, 1 ≤ z → z ≤ 3 → (nmT.take z ++ [Str.ofString "r"]).Nodup := by
  intro z h1 h2
  have h : z = 1 ∨ z = 2 ∨ z = 3 := by omega
  rcases h with rfl | rfl | rfl <;> decide +kernel
theorem nmT_ok : ∀ x ∈ nmT, PyData.strOk x = true := by decide +kernel
theorem rs_ok : PyData.strOk (Str.ofString "r") = true := by decide +kernel
def nameD : PyData → Str
  | .tuple (.str x :: _) => x
  | _ => default
theorem name_d (q : QD) : nameD (QD.d true q) = q.nm := rfl
theorem TwQ.push {z i : Nat} {qs : List QD} {q : QD} (h : TwQ z qs) (hl : qs.length = i) (i3 : i < 3) (h1 : (q.st ∈ Str.ofString "t" :: tgT.take z ∧ q.en ∈ Str.ofString "t" :: tgT.take z) ∧ bdT (10 ^ 8) q) (h2 : q.st ≠ q.en) (h3 : q.nm = nmT.getD i default) : TwQ z (qs ++ [q]) := by
  refine ⟨fun x hx => ?_, fun x hx => ?_, ?_⟩
  · rcases List.mem_append.mp hx with hx | hx
    · exact h.1 x hx
    · rw [List.mem_singleton.mp hx]
      exact h1
  · rcases List.mem_append.mp hx with hx | hx
    · exact h.2.1 x hx
    · rw [List.mem_singleton.mp hx]
      exact h2
  · rw [List.map_append, List.length_append, h.2.2, hl]
    show nmT.take i ++ [q.nm] = nmT.take (i + 1)
    rw [h3, List.take_add_one, List.getElem?_eq_getElem (show i < nmT.length from i3), List.getD_eq_getElem?_getD, List.getElem?_eq_getElem (show i < nmT.length from i3)]
    rfl
section
variable {P : Program} {w : World} {K : PySem.W.Frag} {mg : Str → Option Value} {base : Heap}
def NWb (h : Int) (ws : List Str) (qs : List QD) : Prop := NW ws qs ∧ 1 ≤ qs.length ∧ (∀ q ∈ qs, bdT h q) ∧ sortedS ws = true ∧ NetG ws qs ∧ ws.length ≤ 4 ∧ qs.length ≤ 4 ∧ (∀ q ∈ qs, PyData.strOk q.nm = true ∧ q.nm ∈ nmR) ∧ ∀ x ∈ ws, x ∈ tgT
def spTwin (K : PySem.W.Frag) : Sp := fun vs H Q _ => ∃ (b : Addr) (h : Int) (bx : List V) (N : Nat), vs = [.ref b, .int h] ∧ H b = some (.lst bx) ∧ BoxL bx N ∧ N < 2 ^ 50 ∧ 1 ≤ h ∧ h ≤ 10 ^ 6 ∧
  ∀ (H' : Hp) (v : V) (ws : List Str) (qs : List QD) (bx' : List V), NWb (10 ^ 8) ws qs → Dp K (cutS [b] H') v (netD true ws qs) → TupW (cutS [b] H') v (ws.map V.str) → H' b = some (.lst bx') → BoxL bx' (N + 300) → Same (cutS [b] H) (cutS [b] H') → Q v H'
theorem ok_twin {f fT : Addr} {fd fdT : FuncData} {k : Nat} (F : Fun K "_law_twin_web" "_law_twin_web" s_w_twin_web f fd)
    (G_w_take : FnOk P w K mg base CX0 k fT fdT ["_law_box_here", "_law_below"] spTake2) (g_w_take : mg "_law_take" = some (.ref fT)) (F_w_take : Fun K "_law_take" "_law_take" s_w_take fT fdT) (b_w_take : Binds K fdT ["_law_box_here", "_law_below"] [])
    (m_range : mg "range" = none) (m_max : mg "max" = none) (m_sorted : mg "sorted" = none) (m_tuple : mg "tuple" = none) : FnOk P w K mg base CX0 (k + 1) f fd ["_law_box_here", "_law_high"] (spTwin K) := by
  refine F.ok sc_w_twin_web (fun vs H Q E h => ?_) (fun cdv A outer s0 H vs Q E hr h => ?_)
  · obtain ⟨b, h, bx, N, rfl, _⟩ := h
    rfl
  · obtain ⟨b, h, bx, N, rfl, hb, hB, hN, h1, h2, q⟩ := h
    refine ⟨_, (pss_cons (ps_par (i := 2) (j := 3) (by rfl) sc_w_twin_web.nd rfl rfl (by decide) rfl rfl (pa_cons (pe_op op_add pe_int (pe_call G_w_take hr (by rfl) g_w_take F_w_take.kp b_w_take .nil pass0 (pa_cons (pv 0) (pa_cons pe_int pa_nil)))) (pa_cons (pe_lst (pa_cons pe_str (pa_cons pe_str (pa_cons pe_str (pa_cons pe_str (pa_cons pe_str pa_nil)))))) pa_nil)) (by rfl)) 
    (pss_cons (ps_par (i := 4) (j := 5) (by rfl) sc_w_twin_web.nd rfl rfl (by decide) rfl rfl (pa_cons (pe_lst pa_nil) (pa_cons pe_int pa_nil)) (by rfl)) 
    (pss_cons (ps_forX (ps_for PassesOwn.never rfl (pi_range1 (by rfl) m_range (pa_cons (pv 2) pa_nil)) (pg_name (i := 6) sc_w_twin_web.nd rfl (Or.inl rfl)) 
      (pss_cons (ps_set (i := 8) sc_w_twin_web.nd rfl (Or.inl rfl) (pe_op op_add pe_int (pe_call G_w_take hr (by rfl) g_w_take F_w_take.kp b_w_take .nil pass0 (pa_cons (pv 0) (pa_cons (pv 1) pa_nil))))) 
      (pss_cons (ps_set (i := 9) sc_w_twin_web.nd rfl (Or.inl rfl) (pe_op op_add pe_int (pe_call G_w_take hr (by rfl) g_w_take F_w_take.kp b_w_take .nil pass0 (pa_cons (pv 0) (pa_cons (pv 8) pa_nil))))) 
      (pss_cons (ps_set (i := 5) sc_w_twin_web.nd rfl (Or.inl rfl) (pe_op op_sub (pe_op op_add (pv 5) (pv 9)) pe_int)) 
      (pss_one (ps_expr (pe_bm PySem.F.plainAttrs_list PySem.F.slot_list_append PySem.F.type_list_append mt_append (pv 4) (pa_cons (pe_tup (pa_cons (pe_ix ix_list (pe_lst (pa_cons pe_str (pa_cons pe_str (pa_cons pe_str pa_nil)))) (pv 6) (fun _ _ => rfl)) (pa_cons (pe_ix ix_list (pv 3) (pv 6) (fun _ _ => rfl)) (pa_cons (pe_ifExp (pt_cmpR op_lt (pe_op op_add (pv 6) pe_int) (pv 2) (nomark _)) (pe_ix ix_list (pv 3) (pe_op op_add (pv 6) pe_int) (fun _ _ => rfl)) pe_str) (pa_cons (pv 8) (pa_cons (pv 9) pa_nil)))))) pa_nil))))))))) 
    (pss_cons (ps_set (i := 7) sc_w_twin_web.nd rfl (Or.inl rfl) (pe_callB (call_max2 rfl) (by rfl) m_max (by decide +kernel) (pa_cons pe_int (pa_cons (pe_op op_sub (pe_op op_add (pv 5) (pe_call G_w_take hr (by rfl) g_w_take F_w_take.kp b_w_take .nil pass0 (pa_cons (pv 0) (pa_cons pe_int pa_nil)))) pe_int) pa_nil)))) 
    (pss_cons (ps_expr (pe_bm PySem.F.plainAttrs_list PySem.F.slot_list_append PySem.F.type_list_append mt_append (pv 4) (pa_cons (pe_tup (pa_cons pe_str (pa_cons pe_str (pa_cons pe_str (pa_cons (pv 7) (pa_cons (pe_op op_add pe_int (pe_call G_w_take hr (by rfl) g_w_take F_w_take.kp b_w_take .nil pass0 (pa_cons (pv 0) (pa_cons (pv 7) pa_nil)))) pa_nil)))))) pa_nil))) 
    (pss_one (ps_ret (pe_tup (pa_cons (pe_callTy call_tupF (by rfl) m_tuple (by decide +kernel) (pa_cons (pe_callB cr_sortedS (by rfl) m_sorted (by decide +kernel) (pa_cons (pe_op op_cat (pe_lst (pa_cons pe_str pa_nil)) (pe_slice sl_list (pv 3) po_none (po_some (pv 2)))) pa_nil)) pa_nil)) (pa_cons (pe_callTy call_tuple_of (by rfl) m_tuple (by decide +kernel) (pa_cons (pe_callB (cr_sortedD rfl hr.units) (by rfl) m_sorted (by decide +kernel) (pa_cons (pv 4) pa_nil)) pa_nil)) pa_nil)))))))))), ?_⟩
    walk_at "ev"
    refine ⟨b, 3, bx, N, rfl, hb, hB, by omega, by decide, small8000 ⟨by decide, by decide⟩, fun r bx1 r0 r1 hB1 => ?_⟩
    have hb1 : (upd H b (.lst bx1)) b = some (.lst bx1) := upd_same
    have S1 : Same (cutS [b] H) (cutS [b] (upd H b (.lst bx1))) := by
      rw [cutS_upd List.mem_cons_self]
      exact fun _ _ e => e
    generalize upd H b (.lst bx1) = H1 at hb1 S1 ⊢
    obtain ⟨z, hz⟩ : ∃ z : Nat, 1 + r = (z : Int) := ⟨(1 + r).toNat, by omega⟩
    have z1 : 1 ≤ z := by omega
    have z3 : z ≤ 3 := by omega
    walk_at "ev"
    intro p3 hp3
    have n3 : p3 ≠ b := fun z => by
      rw [z, hb1] at hp3
      cases hp3
    have hb3 : (upd H1 p3 (.lst (tgT.map V.str))) b = some (.lst bx1) := (Same.upd hp3) _ _ hb1
    have S3 := S1.trans (cutS_mono (.upd (o := .lst (tgT.map V.str)) hp3))
    have h3 : (upd H1 p3 (.lst (tgT.map V.str))) p3 = some (.lst (tgT.map V.str)) := upd_same
    show tNil _ (upd H1 p3 (.lst (tgT.map V.str))) _
    generalize upd H1 p3 (.lst (tgT.map V.str)) = H3 at hb3 S3 h3 ⊢
    clear hb1 S1 hp3
    dsimp only [tNil]
    rw [hz]
    walk_at "ev"
    intro p4 hp4
    have n4 : p4 ≠ b := fun z => by
      rw [z, hb3] at hp4
      cases hp4
    have w0 : WSt K b p4 p3 H (tgT.map V.str) [] [] (upd H3 p4 (.lst [])) bx1 (N + 1) :=
      ⟨(Same.upd hp4) _ _ hb3, hB1, upd_same, .nil, S3.trans (cutS_cons hp4), (cutS_cons (S := [b]) (o := .lst []) hp4) _ _ (cutS_at h3 (not1 n3))⟩
    show tCons _ _ _ (upd H3 p4 (.lst [])) _
    generalize upd H3 p4 (.lst []) = H4 at w0 ⊢
    clear hb3 S3 h3 hp4
    walk_at "ev"
    dsimp only [List.set]
    refine seq_byC (fun σ Hc => ∃ (x6 x8 x9 : Option V) (fs : List V) (qs : List QD) (bxc : List V) (u : Int), σ = [some (.ref b), some (.int h), some (.int (z : Int)), some (.ref p3), some (.ref p4), some (.int u), x6, none, x8, x9] ∧ WSt K b p4 p3 H (tgT.map V.str) fs (qs.map (QD.d true)) Hc bxc (N + 20) ∧ qs.length = z ∧ 0 ≤ u ∧ u ≤ 10 ^ 7 ∧ TwQ z qs) (fun σ Hc hh => ?_) (fun D' hD' => ?_)
    · obtain ⟨x6, x8, x9, fs, qs, bxc, u, rfl, w, hql, u0, u1, hqq⟩ := hh
      have hF2 : SqL K Hc p4 fs := sql_of w.hf
      walk_at "ev"
      refine ⟨b, 3, bxc, _, rfl, w.hb, w.hB, by omega, by decide, small8000 ⟨by decide, by decide⟩, fun r3 bx2 r30 r31 hB2 => ?_⟩
      have w1 := w.take n4 hB2
      generalize upd Hc b (.lst bx2) = Ha at w1 ⊢
      clear hF2 w hB2
      have hF3 : SqL K Ha p4 fs := sql_of w1.hf
      walk_at "ev"
      obtain ⟨L, hL, L1, L2⟩ : ∃ L : Int, (if u + r3 - 1 > 1 then u + r3 - 1 else 1) = L ∧ 1 ≤ L ∧ L ≤ 10 ^ 8 := ⟨_, rfl, by split <;> omega, by split <;> omega⟩
      rw [hL]
      clear hL u0 u1
      walk_at "ev"
      refine ⟨b, L, bx2, _, rfl, w1.hb, w1.hB, by omega, by omega, small8000 (by omega), fun r4 bx3 r40 r41 hB3 => ?_⟩
      have w2 := w1.take n4 hB3
      generalize upd Ha b (.lst bx3) = Hb at w2 ⊢
      clear hF3 w1 hB3
      walk_at "ev"
      intro pt hpt
      have w7 := w2.same (.upd (o := .tup [V.str (Str.ofString "r"), V.str (Str.ofString "s"), V.str (Str.ofString "t"), V.int L, V.int (1 + r4)]) hpt)
      have hpt2 : cutS [p4, b] (upd Hb pt (.tup [V.str (Str.ofString "r"), V.str (Str.ofString "s"), V.str (Str.ofString "t"), V.int L, V.int (1 + r4)])) pt = some (.tup [V.str (Str.ofString "r"), V.str (Str.ofString "s"), V.str (Str.ofString "t"), V.int L, V.int (1 + r4)]) :=
        cutS_new (Trk.cons (Trk.cons Trk.nil w2.hb) w2.hf) hpt
      have fl : fs.length = qs.length := by rw [dpa_len w7.hd, List.length_map]
      have w8 := w7.push n4 (v := .ref pt) (d := QD.d true ⟨Str.ofString "r", Str.ofString "s", Str.ofString "t", L, 1 + r4⟩) (.tup (sqt_of hpt2) (.cons (.str _) (.cons (.str _) (.cons (.str _) (.cons (.int _) (.cons (.int _) .nil))))))
      refine ⟨p4, fs, .ref pt, rfl, rfl, w7.hf, sz_lt (by omega), ?_⟩
      obtain ⟨tw1, tw2, tw3, tw4⟩ := tw_nd z z1 z3
      obtain ⟨q2, hq2, hq2l, hq2n, hq2e, hq2q⟩ : ∃ q2 : List QD, (qs.map (QD.d true)) ++ [QD.d true ⟨Str.ofString "r", Str.ofString "s", Str.ofString "t", L, 1 + r4⟩] = q2.map (QD.d true) ∧ q2.length = z + 1 ∧ (q2.map QD.nm).Nodup ∧ (∀ q ∈ q2, q.st ≠ q.en ∧ PyData.strOk q.nm = true ∧ q.nm ∈ nmR) ∧ ∀ q ∈ q2, (q.st ∈ Str.ofString "t" :: tgT.take z ∧ q.en ∈ Str.ofString "t" :: tgT.take z) ∧ bdT (10 ^ 8) q := by
        refine ⟨qs ++ [⟨Str.ofString "r", Str.ofString "s", Str.ofString "t", L, 1 + r4⟩], by rw [List.map_append]; rfl, by rw [List.length_append, hql]; rfl, ?_, fun x hx => ?_, fun x hx => ?_⟩
        · rw [List.map_append, hqq.2.2, hql]
          exact nm_nd z z1 z3
        · rcases List.mem_append.mp hx with hx | hx
          · have h0 : x.nm ∈ qs.map QD.nm := List.mem_map.mpr ⟨x, hx, rfl⟩
            rw [hqq.2.2] at h0
            exact ⟨hqq.2.1 x hx, nmT_ok _ (List.mem_of_mem_take h0), List.mem_append_left _ (List.mem_of_mem_take h0)⟩
          · rw [List.mem_singleton.mp hx]
            exact ⟨st_ne, rs_ok, List.mem_append_right _ List.mem_cons_self⟩
        rcases List.mem_append.mp hx with hx | hx
        · exact hqq.1 x hx
        · rw [List.mem_singleton.mp hx]
          exact ⟨⟨List.mem_cons_of_mem _ tw4, List.mem_cons_self⟩, by show 1 ≤ 1 + r4; omega, by show 1 + r4 ≤ L; omega, L2⟩
      rw [hq2] at w8
      clear hpt2 w7 hqq hq2
      dsimp only [List.set]
      generalize fs ++ [V.ref pt] = fs2 at w8 ⊢
      generalize upd (upd Hb pt (.tup [V.str (Str.ofString "r"), V.str (Str.ofString "s"), V.str (Str.ofString "t"), V.int L, V.int (1 + r4)])) p4 (.lst fs2) = Hc at w8 ⊢
      clear hpt w2
      walk_at "ev"
      intro p5 hp5
      have w9 := w8.same (.upd (o := .lst [V.str (Str.ofString "t")]) hp5)
      have h5 : (upd Hc p5 (.lst [V.str (Str.ofString "t")])) p5 = some (.lst [V.str (Str.ofString "t")]) := upd_same
      have hT9 : SqL K (upd Hc p5 (.lst [V.str (Str.ofString "t")])) p3 (tgT.map V.str) := sql_of (cutS_le _ _ w9.h9)
      walk_at "ev"
      intro p6 hp6
      rw [cutV_map]
      have wA := w9.same (.upd (o := .lst ((tgT.take z).map V.str)) hp6)
      have h6 : (upd (upd Hc p5 (.lst [V.str (Str.ofString "t")])) p6 (.lst ((tgT.take z).map V.str))) p6 = some (.lst ((tgT.take z).map V.str)) := upd_same
      have h5 := (Same.upd (o := .lst ((tgT.take z).map V.str)) hp6) _ _ h5
      have tl : (tgT.take z).length ≤ 4 := by
        rw [List.length_cons] at tw3
        omega
      refine ⟨p5, p6, _, _, rfl, rfl, h5, h6, by rw [List.length_map]; exact Nat.le_of_lt (szL (by show 1 + _ < _; omega)), fun p7 hp7 => ?_⟩
      have wB := wA.same (.upd (o := .lst ([V.str (Str.ofString "t")] ++ (tgT.take z).map V.str)) hp7)
      have h7 : (upd (upd (upd Hc p5 (.lst [V.str (Str.ofString "t")])) p6 (.lst ((tgT.take z).map V.str))) p7 (.lst ([V.str (Str.ofString "t")] ++ (tgT.take z).map V.str))) p7 = some (.lst ([V.str (Str.ofString "t")] ++ (tgT.take z).map V.str)) := upd_same
      refine ⟨p7, Str.ofString "t" :: tgT.take z, rfl, sql_of h7, by omega, fun us p10 hu1 hu2 hp10 => ?_⟩
      generalize upd (upd (upd Hc p5 (.lst [V.str (Str.ofString "t")])) p6 (.lst ((tgT.take z).map V.str))) p7 (.lst ([V.str (Str.ofString "t")] ++ (tgT.take z).map V.str)) = H9 at wB hp10 ⊢
      clear h7 hp7 h6 h5 wA hp6 hp5 w9 hT9 w8
      have w10 := wB.same (.upd (o := .lst (us.map V.str)) hp10)
      refine ⟨p10, _, rfl, sql_of upd_same, fun p11 ob hp11 hoc hod => ?_⟩
      have w11 := w10.same (.upd (o := .frz ob (.tup (us.map V.str))) hp11)
      have n11 : p11 ≠ b := fun z => by
        rw [z, w10.hb] at hp11
        cases hp11
      have g11 : cutS [b] _ p11 = some (.frz ob (.tup (us.map V.str))) := cutS_at (upd_same (H := upd H9 p10 (.lst (us.map V.str))) (a := p11) (o := .frz ob (.tup (us.map V.str)))) (not1 n11)
      generalize upd (upd H9 p10 (.lst (us.map V.str))) p11 (.frz ob (.tup (us.map V.str))) = H11 at w11 g11 ⊢
      have fl2 := dpa_len w11.hd
      have hall := all_of_dpa w11.hd
      generalize hzp : fs2.zip (q2.map (QD.d true)) = zp at hall
      have zf : zp.map (·.1) = fs2 := by rw [← hzp]; exact zip_fst fl2
      have zs : zp.map (·.2) = q2.map (QD.d true) := by rw [← hzp]; exact zip_snd fl2
      refine ⟨_, rfl, p4, zp, rfl, by rw [zf]; exact sql_of w11.hf, fun x hx => cutS_le.dp (hall x hx), ?_, ?_, ?_, fun p12 hp12 => ?_⟩
      · rw [zs]
        exact q_alike
      · rw [zs]
        exact q_sortable
      · intro x hx
        have : x.2 ∈ q2.map (QD.d true) := by
          rw [← zs]
          exact List.mem_map.mpr ⟨x, hx, rfl⟩
        obtain ⟨q', _, e⟩ := List.mem_map.mp this
        rw [← e]
        exact Nat.le_trans q_depth (by decide)
      · generalize hso : zp.mergeSort (PySem.W.dataLe false (·.2)) = so
        have hperm : so.Perm zp := by
          rw [← hso]
          exact List.mergeSort_perm _ _
        obtain ⟨q3, hq3⟩ : ∃ q3 : List QD, so.map (·.2) = q3.map (QD.d true) ∧ q3.length = q2.length ∧ ∀ q ∈ q3, q ∈ q2 := by
          have hp2 := hperm.map (·.2)
          rw [zs] at hp2
          exact perm_rows hp2
        obtain ⟨hq3, hq3l, hq3m⟩ := hq3
        have hq3n : (q3.map QD.nm).Nodup := by
          have hp2 := (hperm.map (·.2)).map nameD
          rw [zs, hq3, List.map_map, List.map_map] at hp2
          exact hp2.nodup_iff.mpr hq2n
        have hd3 : DpAll K (cutS [p4, b] H11) (so.map (·.1)) (q3.map (QD.d true)) := by
          rw [← hq3]
          exact dpa_of_all fun x hx => hall x (hperm.mem_iff.mp hx)
        refine ⟨p12, _, rfl, .inl ⟨sql_of upd_same, fun p13 hp13 => ?_⟩⟩
        have w12 := w11.same (.upd (o := .lst (so.map (·.1))) hp12)
        have w13 := w12.same (.upd (o := .tup (so.map (·.1))) hp13)
        have n13 : p13 ≠ b := fun z => by
          rw [z, w12.hb] at hp13
          cases hp13
        have s13 : Same H11 (upd (upd H11 p12 (.lst (so.map (·.1)))) p13 (.tup (so.map (·.1)))) := (Same.upd hp12).trans (.upd hp13)
        have g13 : cutS [b] (upd (upd H11 p12 (.lst (so.map (·.1)))) p13 (.tup (so.map (·.1)))) p13 = some (.tup (so.map (·.1))) := cutS_at upd_same (not1 n13)
        have g11' := cutS_mono (S := [b]) s13 _ _ g11
        have hd4 := (cutS_mono s13).dpa hd3
        generalize upd (upd H11 p12 (.lst (so.map (·.1)))) p13 (.tup (so.map (·.1))) = H13 at w13 g13 g11' hd4 ⊢
        refine ⟨by show 2 ≤ sizeLine; decide, fun p14 hp14 => ?_⟩
        have w14 := w13.same (.upd (o := .tup [.ref p11, .ref p13]) hp14)
        have n14 : p14 ≠ b := fun z => by
          rw [z, w13.hb] at hp14
          cases hp14
        have e14 : Same (cutS [b] H13) (cutS [b] (upd H13 p14 (.tup [.ref p11, .ref p13]))) := cutS_mono (.upd hp14)
        have hmem : ∀ x, x ∈ us ↔ x ∈ Str.ofString "t" :: tgT.take z := fun x => hu1.mem_iff
        have hul := hu1.length_eq
        refine q _ (.ref p14) us q3 bx3 ⟨⟨hu1.nodup_iff.mpr tw1, by rw [hul, List.length_cons]; omega, by omega, by omega, fun x hx => ?_, fun x hx => tw2 x ((hmem x).mp hx), fun x hx => ?_⟩, by omega, fun x hx => (hq2q x (hq3m x hx)).2, hu2, ⟨fun x hx => ⟨(hmem _).mpr (hq2q x (hq3m x hx)).1.1, (hmem _).mpr (hq2q x (hq3m x hx)).1.2, (hq2e x (hq3m x hx)).1⟩, hq3n⟩, by omega, by omega, fun x hx => (hq2e x (hq3m x hx)).2, fun x hx => tg_all ((hmem x).mp hx)⟩ ?_ ⟨p14, p11, p13, ob, rfl, cutS_at upd_same (not1 n14), e14 _ _ g11', hoc, hod⟩ w14.hb (w14.hB.mono (by omega)) (w14.hS.trans cutS_tail)
        · obtain ⟨q1, q2⟩ := (hq2q x (hq3m x hx)).1
          exact ⟨(hmem _).mpr q1, (hmem _).mpr q2⟩
        · obtain ⟨b1, b2, b3⟩ := (hq2q x (hq3m x hx)).2
          exact ⟨by omega, by omega, by omega, by omega⟩
        · exact .tup (sqt_of (cutS_at upd_same (not1 n14))) (.cons (.tup (.inl (.inr ⟨ob, e14 _ _ g11'⟩)) dpa_strs) (.cons (.tup (sqt_of (e14 _ _ g13)) (e14.dpa (cutS_tail.dpa hd4))) .nil))
    · refine for_of ?_
      walk_at "ev"
      refine ⟨by omega, by omega, ?_⟩
      rw [Int.toNat_natCast]
      refine forR_it (walk_range (lo := 0) (n := z)) (fun i σ Hc => ∃ (x6 x8 x9 : Option V) (fs : List V) (qs : List QD) (bxc : List V) (u : Int), σ = [some (.ref b), some (.int h), some (.int (z : Int)), some (.ref p3), some (.ref p4), some (.int u), x6, none, x8, x9] ∧ WSt K b p4 p3 H (tgT.map V.str) fs (qs.map (QD.d true)) Hc bxc (N + 1 + 2 * i) ∧ qs.length = i ∧ 0 ≤ u ∧ u ≤ i * 10 ^ 6 ∧ TwQ z qs) ⟨_, _, _, [], [], bx1, 0, rfl, w0, rfl, by decide, by decide, ⟨fun _ hx => absurd hx List.not_mem_nil, fun _ hx => absurd hx List.not_mem_nil, rfl⟩⟩ (fun _ _ _ _ _ => trivial) (fun i x σ Hc Hc' hi hh y => ?_) (fun σ Hc hh => ?_)
      · obtain ⟨x6, x8, x9, fs, qs, bxc, u, rfl, w, hql, u0, u1, hqq⟩ := hh
        obtain ⟨rfl, rfl⟩ := y
        have e0 : (0 + (i : Int)) = ((i : Nat) : Int) := Int.zero_add _
        dsimp only
        rw [e0]
        walk_at "ev"
        refine ⟨b, h, bxc, _, rfl, w.hb, w.hB, by omega, by omega, small8000 (by omega), fun r1 bx2 r10 r11 hB2 => ?_⟩
        have w1 := w.take n4 hB2
        generalize upd Hc' b (.lst bx2) = Ha at w1 ⊢
        walk_at "ev"
        refine ⟨b, 1 + r1, bx2, _, rfl, w1.hb, w1.hB, by omega, by omega, small8000 (by omega), fun r2 bx3 r20 r21 hB3 => ?_⟩
        have w2 := w1.take n4 hB3
        generalize upd Ha b (.lst bx3) = Hb at w2 ⊢
        have hF2 : SqL K Hb p4 fs := sql_of w2.hf
        walk_at "ev"
        intro p5 hp5
        have w3 := w2.same (.upd (o := .lst (nmT.map V.str)) hp5)
        have h5 : (upd Hb p5 (.lst (nmT.map V.str))) p5 = some (.lst (nmT.map V.str)) := upd_same
        have i3 : i < 3 := by omega
        have a1 : atI (nmT.map V.str) ((i : Nat) : Int) = some (.str (nmT.getD i default)) := atI_nat (by rw [List.getElem?_map, List.getD_eq_getElem?_getD, List.getElem?_eq_getElem (show i < nmT.length from i3)]; rfl)
        have a2 : ∀ j, j < 5 → atI (tgT.map V.str) ((j : Nat) : Int) = some (.str (tgT.getD j default)) := fun j hj => atI_nat (by rw [List.getElem?_map, List.getD_eq_getElem?_getD, List.getElem?_eq_getElem (show j < tgT.length from hj)]; rfl)
        refine ⟨_, rfl, p5, _, _, _, rfl, rfl, sql_of h5, a1, ?_⟩
        have hT3 : SqL K (upd Hb p5 (.lst (nmT.map V.str))) p3 (tgT.map V.str) := sql_of (cutS_le _ _ w3.h9)
        show tCons _ _ _ (upd Hb p5 (.lst (nmT.map V.str))) _
        generalize upd Hb p5 (.lst (nmT.map V.str)) = Hc at w3 hT3 ⊢
        clear h5 hp5 w2 w1 w hF2 hB2 hB3
        refine ⟨_, rfl, _, rfl, p3, _, _, _, rfl, rfl, hT3, a2 i (by omega), ?_⟩
        have fin : ∀ en : Str, en ∈ Str.ofString "t" :: tgT.take z → tgT.getD i default ≠ en → ∀ (pt : Addr), Hc pt = none → rAppend (.ref p4) [.ref pt] (upd Hc pt (.tup [.str (nmT.getD i default), .str (tgT.getD i default), .str en, .int (1 + r1), .int (1 + r2)])) fun _ H' => ∃ (x6 x8 x9 : Option V) (fs : List V) (qs : List QD) (bxc : List V) (u' : Int), [some (V.ref b), some (.int h), some (.int (z : Int)), some (.ref p3), some (.ref p4), some (.int (u + (1 + r2) - 1)), some (.int (i : Nat)), none, some (.int (1 + r1)), some (.int (1 + r2))] = [some (.ref b), some (.int h), some (.int (z : Int)), some (.ref p3), some (.ref p4), some (.int u'), x6, none, x8, x9] ∧ WSt K b p4 p3 H (tgT.map V.str) fs (qs.map (QD.d true)) H' bxc (N + 1 + 2 * (i + 1)) ∧ qs.length = i + 1 ∧ 0 ≤ u' ∧ u' ≤ ((i + 1 : Nat) : Int) * 10 ^ 6 ∧ TwQ z qs := fun en hen hne pt hpt => by
          have w7 := w3.same (.upd (o := .tup [V.str (nmT.getD i default), V.str (tgT.getD i default), V.str en, V.int (1 + r1), V.int (1 + r2)]) hpt)
          have hpt2 : cutS [p4, b] (upd Hc pt (.tup [V.str (nmT.getD i default), V.str (tgT.getD i default), V.str en, V.int (1 + r1), V.int (1 + r2)])) pt = some (.tup [V.str (nmT.getD i default), V.str (tgT.getD i default), V.str en, V.int (1 + r1), V.int (1 + r2)]) :=
            cutS_new (Trk.cons (Trk.cons Trk.nil w3.hb) w3.hf) hpt
          have fl : fs.length = qs.length := by rw [dpa_len w7.hd, List.length_map]
          have w8 := w7.push n4 (v := .ref pt) (d := QD.d true ⟨nmT.getD i default, tgT.getD i default, en, 1 + r1, 1 + r2⟩) (.tup (sqt_of hpt2) (.cons (.str _) (.cons (.str _) (.cons (.str _) (.cons (.int _) (.cons (.int _) .nil))))))
          refine ⟨p4, fs, .ref pt, rfl, rfl, w7.hf, sz_lt (by omega), ?_⟩
          refine ⟨_, _, _, fs ++ [.ref pt], qs ++ [⟨nmT.getD i default, tgT.getD i default, en, 1 + r1, 1 + r2⟩], bx3, _, rfl, ?_, ?_, by omega, by omega, ?_⟩
          · rw [List.map_append]
            exact w8.mono (by omega)
          · rw [List.length_append, hql]
            rfl
          · exact hqq.push hql i3 ⟨⟨tw_in hi z3, hen⟩, by show 1 ≤ 1 + r2; omega, by show 1 + r2 ≤ 1 + r1; omega, by show 1 + r1 ≤ 10 ^ 8; omega⟩ hne rfl
        walk_at "ev"
        by_cases hlt : i + 1 < z
        · rw [show decide ((i : Int) + 1 < (z : Int)) = true from decide_eq_true (by omega)]
          refine iteT ?_
          walk_at "ev"
          have a3 : atI (tgT.map V.str) ((i : Int) + 1) = some (.str (tgT.getD (i + 1) default)) := by
            have := a2 (i + 1) (by omega)
            rwa [show ((i + 1 : Nat) : Int) = (i : Int) + 1 by omega] at this
          refine ⟨p3, _, _, _, rfl, rfl, hT3, a3, ?_⟩
          walk_at "ev"
          intro pt hpt
          exact fin _ (tw_in hlt z3) (tg_ne i i3).1 pt hpt
        · rw [show decide ((i : Int) + 1 < (z : Int)) = false from decide_eq_false (by omega)]
          refine iteF ?_
          walk_at "ev"
          intro pt hpt
          exact fin _ List.mem_cons_self (tg_ne i i3).2 pt hpt
      · obtain ⟨x6, x8, x9, fs, qs, bxc, u, rfl, w, hql, u0, u1, hqq⟩ := hh
        exact hD' _ _ ⟨_, _, _, fs, qs, bxc, u, rfl, w.mono (by omega), hql, u0, by omega, hqq⟩
end
end Jl

set_option Elab.async false
set_option linter.all false
set_option maxRecDepth 100000
set_option maxHeartbeats 1000000
set_option pp.maxSteps 300
namespace Jl
open PySem PySem.Spec PyProof.Rows L2
open Evl (sz_of sz_lt)
local macro_rules | `(tactic| walk_at "at") => `(tactic| first | exact box0 | exact box1 | exact box2)
local macro_rules | `(tactic| walk_at "sq") => `(tactic| first | (show SqL _ _ _ _; assumption) | (show SqT _ _ _ _; assumption) | (show _ = some _; assumption))
local macro_rules | `(tactic| walk_at "side") => `(tactic| first
  | (show (0 : Int) < _; decide)
  | (show (0 : Int) < _; omega)
  | exact ⟨by decide, by decide, by decide⟩
  | exact sz_of (Nat.le_of_ble_eq_true rfl)
  | exact rfl
  | exact Or.inl (by decide)
  | exact Or.inr (by decide)
  | exact Or.inr ⟨by omega, by omega⟩
  | exact Or.inl ⟨by omega, by omega⟩
  | exact ⟨by decide, by decide +kernel⟩)
local macro_rules | `(tactic| walk_at "ev1") => `(tactic| first
  | refine ⟨_, rfl, ?_⟩
  | refine ⟨_, _, rfl, rfl, ?_⟩
  | refine ⟨_, _, _, _, rfl, rfl, (by walk_at "sq"), (by walk_at "at"), ?_⟩
  | refine ⟨_, _, rfl, (by walk_at "sq"), ?_⟩
  | refine ⟨_, _, rfl, Or.inl (by walk_at "sq"), ?_⟩
  | refine ⟨_, _, rfl, Or.inr (by walk_at "sq"), ?_⟩
  | refine Or.inl ⟨_, rfl, ?_⟩
  | refine Or.inr ⟨_, rfl, ?_⟩
  | refine ⟨(by walk_at "side"), ?_⟩
  | refine ⟨.inl ⟨rfl, _, (by walk_at "sq")⟩, ?_⟩
  | refine ⟨_, _, rfl, ?_⟩)
local macro_rules | `(tactic| walk_at "nrm") => `(tactic| dsimp only [tNil, tCons, tC, tCB])
local macro_rules | `(tactic| walk_at "ev") => `(tactic| repeat (walk_at "ev1"))
/-! ### a display of a tuple, tuple of a text: tuples whose object is known -/
section
variable {X : Cx} {es : List Expr} {t : TA} {pos : Pos}
def tTupF (t : TA) : TE := fun σ H Q => t σ H fun xs H1 => xs.length ≤ sizeLine ∧ ∀ (p : Addr) (ob : Obj), H1 p = none → ob.cls = .type "tuple" → ob.dict = none → Q (.ref p) (upd H1 p (.frz ob (.tup xs)))
theorem pe_tupF {x1} (h : PA X es t) : PE X (.Tuple es x1 pos) (tTupF t) := by
  refine ⟨fun pins s σ H Q I hq => ?_⟩
  refine wpAny_Tuple_spliced (thn (h.run pos pins s σ H _ I hq) fun us s1 ⟨xs, H1, I1, r, z, q⟩ => ⟨by rw [← r.length]; exact z, ?_⟩)
  have hf : H1 s1.heap.objs.size = none := I1.hok.fresh (Nat.le_refl _)
  have hget : (s1.heap.push { cls := .type "tuple", data := .seq us.toArray }).get? s1.heap.objs.size = some { cls := .type "tuple", data := .seq us.toArray } := Heap.get?_push_size _ rfl
  exact ⟨.ref s1.heap.objs.size, _, I1.laid (o := .frz { cls := .type "tuple", data := .seq us.toArray } (.tup xs)) (t' := s1.toks) (fun b u e => Heap.get?_push_of_some _ e) (Nat.le_refl _) ⟨hget, z, us, r, ⟨_, hget, rfl, _, rfl⟩⟩, rfl, q _ _ hf rfl rfl⟩
def chS (x : Str) : List Str := x.cps.toList.map fun c => ⟨#[c]⟩
def rTupS : List V → Hp → VK → Prop := fun xs H Q => ∃ x : Str, xs = [.str x] ∧ x.cps.size ≤ sizeLine ∧ ∀ (l : Addr) (ob : Obj), H l = none → ob.cls = .type "tuple" → ob.dict = none → Q (.ref l) (upd H l (.frz ob (.tup ((chS x).map V.str))))
theorem cr_tupS (hc : X.calm = true) : CallR X (.type "tuple") rTupS := fun pins s σ H xs us Q I r h => by
  obtain ⟨x, rfl, hz, q⟩ := h
  obtain ⟨u, rfl, rx⟩ := vals1 r
  obtain ⟨t, rfl⟩ := rx
  refine call_tuple_str (I.ok.hd hc) x t (fun h' tk acc hk hi => ?_) hz
  obtain ⟨h1, h2⟩ := hi
  have hl : acc.toList.length = x.cps.size := by rw [Array.length_toList]; exact h1
  have hv : Vals ((chS x).map V.str) acc.toList := by
    have g := vals_from (f := fun i => V.str ((chS x).getD i default)) (us := acc.toList) 0 fun i v hv => by
      rw [Nat.zero_add]
      obtain ⟨c, u, hc, e⟩ := h2 i v (by simpa using hv)
      refine ⟨u, ?_⟩
      rw [e]
      congr 1
      unfold chS
      rw [List.getD_eq_getElem?_getD, List.getElem?_map, show x.cps.toList[i]? = some c by simpa using hc]
      rfl
    have e : (List.range acc.toList.length).map (fun i => V.str ((chS x).getD (0 + i) default)) = (chS x).map V.str := by
      refine List.ext_getElem (by unfold chS; simp [hl]) fun i h1 h2 => ?_
      have h3 : i < (chS x).length := by rw [List.length_map] at h2; exact h2
      rw [List.getElem_map, List.getElem_map, List.getElem_range, Nat.zero_add, List.getD_eq_getElem?_getD, List.getElem?_eq_getElem h3]
      rfl
    rw [← e]
    exact g
  have hget : (h'.push { cls := .type "tuple", data := .seq acc }).get? h'.objs.size = some { cls := .type "tuple", data := .seq acc } := Heap.get?_push_size _ rfl
  have ez : (chS x).length = x.cps.size := by unfold chS; simp
  have I1 : L2.Inv X pins σ H { s with heap := h', toks := tk } := I.kept (t' := tk) hk
  exact ⟨.ref h'.objs.size, _, I1.laid (o := .frz { cls := .type "tuple", data := .seq acc } (.tup ((chS x).map V.str))) (t' := tk) (fun b o e => Heap.get?_push_of_some _ e) (Nat.le_refl _) ⟨hget, by rw [List.length_map, ez]; exact hz, acc.toList, hv, ⟨_, hget, rfl, 0, by simp⟩⟩, rfl, q _ _ (I1.hok.fresh (Nat.le_refl _)) rfl rfl⟩
end
/-! ### two rows side by side -/
inductive A2 {α β : Type} (R : α → β → Prop) : List α → List β → Prop
  | nil : A2 R [] []
  | cons {x y xs ys} (h : R x y) (t : A2 R xs ys) : A2 R (x :: xs) (y :: ys)
section
variable {α β : Type} {R R' : α → β → Prop}
theorem a2_len : ∀ {xs : List α} {ys : List β}, A2 R xs ys → xs.length = ys.length
  | _, _, .nil => rfl
  | _, _, .cons _ h => by rw [List.length_cons, List.length_cons, a2_len h]
theorem a2_app : ∀ {xs xs' : List α} {ys ys' : List β}, A2 R xs ys → A2 R xs' ys' → A2 R (xs ++ xs') (ys ++ ys')
  | _, _, _, _, .nil, h => h
  | _, _, _, _, .cons a b, h => .cons a (a2_app b h)
theorem a2_imp (i : ∀ x y, R x y → R' x y) : ∀ {xs : List α} {ys : List β}, A2 R xs ys → A2 R' xs ys
  | _, _, .nil => .nil
  | _, _, .cons a b => .cons (i _ _ a) (a2_imp i b)
theorem a2_get : ∀ {xs : List α} {ys : List β} {i : Nat} {x : α} {y : β}, A2 R xs ys → xs[i]? = some x → ys[i]? = some y → R x y
  | _, _, _, _, _, .nil, h, _ => by simp at h
  | _, _, 0, _, _, .cons a _, h, g => by
    simp at h g
    rw [← h, ← g]
    exact a
  | _, _, i + 1, _, _, .cons _ b, h, g => a2_get (i := i) b (by simpa using h) (by simpa using g)
end
theorem a2_dpa {K : PySem.W.Frag} {H : Hp} {α : Type} {h : α → PyData} : ∀ {xs : List V} {zs : List α}, A2 (fun u z => Dp K H u (h z)) xs zs → DpAll K H xs (zs.map h)
  | _, _, .nil => .nil
  | _, _, .cons a b => .cons a (a2_dpa b)
theorem dpa_a2 {K : PySem.W.Frag} {H : Hp} {α : Type} {h : α → PyData} : ∀ {xs : List V} {zs : List α}, DpAll K H xs (zs.map h) → A2 (fun u z => Dp K H u (h z)) xs zs
  | _, [], .nil => .nil
  | _, z :: zs, .cons a b => .cons a (dpa_a2 b)
/-- the cut is a list that is being made -/
def LstT (T : List Addr) (H : Hp) : Prop := ∀ a ∈ T, ∃ acc : List V, H a = some (.lst acc)
theorem LstT.same {T : List Addr} {H H' : Hp} (h : LstT T H) (e : Same H H') : LstT T H' := fun a ha => by
  obtain ⟨acc, e2⟩ := h a ha
  exact ⟨acc, e _ _ e2⟩
theorem LstT.one {D : Addr} {acc : List V} {H : Hp} (h : H D = some (.lst acc)) : LstT [D] H := fun a ha => ⟨acc, by rw [List.mem_singleton.mp ha]; exact h⟩
theorem LstT.cons {D : Addr} {acc : List V} {T : List Addr} {H : Hp} (h : H D = some (.lst acc)) (g : LstT T H) : LstT (D :: T) H := fun a ha => by
  rcases List.mem_cons.mp ha with rfl | ha
  · exact ⟨acc, h⟩
  · exact g a ha
theorem LstT.not {T : List Addr} {H : Hp} {a : Addr} {o : HO} (g : LstT T H) (h : H a = some o) (hn : ∀ acc, o ≠ .lst acc) : a ∉ T := fun ha => by
  obtain ⟨acc, e⟩ := g a ha
  rw [h] at e
  exact hn acc (Option.some.inj e)
mutual
def tupD : PyData → Bool
  | .list _ => false
  | .dict _ => false
  | .tuple ds => tupA ds
  | _ => true
def tupA : List PyData → Bool
  | [] => true
  | d :: ds => tupD d && tupA ds
end
theorem sqt_cutL {K : PySem.W.Frag} {H : Hp} {a : Addr} {T : List Addr} {xs : List V} (h : SqT K H a xs) (hF : LstT T H) : SqT K (cutS T H) a xs := by
  rcases h with (h | ⟨o, h⟩) | h
  · exact .inl (.inl (cutS_at h (hF.not h fun _ => nofun)))
  · exact .inl (.inr ⟨o, cutS_at h (hF.not h fun _ => nofun)⟩)
  · exact .inr h
mutual
theorem dpT_cut {K : PySem.W.Frag} {H : Hp} {T : List Addr} (hF : LstT T H) : ∀ (d : PyData) (v : V), tupD d = true → Dp K H v d → Dp K (cutS T H) v d
  | .none, _, _, h => by cases h; exact .non
  | .bool b, _, _, h => by cases h; exact .bl b
  | .int i, _, _, h => by cases h; exact .int i
  | .str x, _, _, h => by cases h; exact .str x
  | .list ds, _, z, _ => by simp [tupD] at z
  | .dict ds, _, z, _ => by simp [tupD] at z
  | .tuple ds, _, z, h => by
    rw [tupD] at z
    cases h with
    | tup hs ha => exact .tup (sqt_cutL hs hF) (dpaT_cut hF ds _ z ha)
theorem dpaT_cut {K : PySem.W.Frag} {H : Hp} {T : List Addr} (hF : LstT T H) : ∀ (ds : List PyData) (vs : List V), tupA ds = true → DpAll K H vs ds → DpAll K (cutS T H) vs ds
  | [], _, _, h => by cases h; exact .nil
  | d :: ds, _, z, h => by
    rw [tupA, Bool.and_eq_true] at z
    cases h with
    | cons h1 h2 => exact .cons (dpT_cut hF d _ z.1 h1) (dpaT_cut hF ds _ z.2 h2)
end
theorem tupA_map {α : Type} {f : α → PyData} : ∀ {zs : List α}, (∀ z ∈ zs, tupD (f z) = true) → tupA (zs.map f) = true
  | [], _ => by simp [tupA]
  | z :: zs, h => by
    rw [List.map_cons, tupA, h z List.mem_cons_self, tupA_map fun y hy => h y (List.mem_cons_of_mem _ hy)]
    rfl
theorem tup_net {ws : List Str} {qs : List QD} : tupD (netD true ws qs) = true := by
  have e1 : tupA (ws.map PyData.str) = true := tupA_map fun z _ => by simp [tupD]
  have e2 : tupA (qs.map (QD.d true)) = true := tupA_map fun z _ => by simp [QD.d, seqD, tupD, tupA]
  show tupD (.tuple [.tuple (ws.map PyData.str), .tuple (qs.map (QD.d true))]) = true
  simp [tupD, tupA, e1, e2]
/-- a comprehension by any walk: what is made stands in R2 to what it is made of -/
theorem lcg {K : PySem.W.Frag} {J : It} {g : TG} {te : TE} {tt : TT} {vs : List Nat} {σ : L2.St} {H0 : Hp} {Q : VK} {n : Nat} {G : Hp → Prop} {Y : Nat → Hp → V → Hp → Prop} {α : Type} (zs : List α) (Rel : V → α → Prop) (R2 : Hp → V → α → Prop) (t : α → Bool) (B : α → L2.St → Prop)
    (w : Walk J n G Y) (hn : n = zs.length) (hG : ∀ H', Same H0 H' → G H') (hY : ∀ i H x H', Y i H x H' → H' = H ∧ ∀ z, zs[i]? = some z → Rel x z) (hl : zs.length ≤ 4000000) (hm : ∀ H H' u z, Same H H' → R2 H u z → R2 H' u z)
    (hg : ∀ (x : V) (z : α) (H1 : Hp) (R : L2.St → Hp → Prop), z ∈ zs → Same H0 H1 → Rel x z → (∀ σ2, B z σ2 → wipe σ2 vs = wipe σ vs → R σ2 H1) → g x (wipe σ vs) H1 R)
    (hte : ∀ (z : α) (H1 : Hp) (σ2 : L2.St), z ∈ zs → Same H0 H1 → B z σ2 → ∀ Q' : Bool → Hp → Prop, (∀ H2, Same H1 H2 → Q' (t z) H2) → tt σ2 H1 Q')
    (he : ∀ (z : α) (H2 : Hp) (σ2 : L2.St) (T : List Addr), z ∈ zs → t z = true → Same H0 H2 → Same H0 (cutS T H2) → Trk T H2 → B z σ2 → LstT T H2 → ∀ Q' : VK, (∀ H3 u, Same H2 H3 → R2 (cutS T H3) u z → Q' u H3) → te σ2 H2 Q')
    (q : ∀ D ys H', Same H0 H' → H0 D = none → H' D = some (.lst ys) → A2 (R2 (cutS [D] H')) ys (zs.filter t) → Q (.ref D) H') :
    ∀ D, H0 D = none → ∃ W : Nat → Nat → Hp → Prop, (∃ m, W 0 m (upd H0 D (.lst []))) ∧ ∀ i m H, W i m H →
      (J.stop i H ∧ Q (.ref D) H) ∨ (J.go i H ∧ ∃ Nx : Hp → Prop, (∀ H', Nx H' → ∃ m', m' < m ∧ W (i + 1) m' H') ∧ ∀ x H', J.yld i H x H' → g x (wipe σ vs) H' fun σ2 H2 => wipe σ2 vs = wipe σ vs ∧ tt σ2 H2 fun b H3 =>
        if b = true then te σ2 H3 fun y H4 => ∃ acc, H4 D = some (.lst acc) ∧ acc.length < sizeLine ∧ Nx (upd H4 D (.lst (acc ++ [y]))) else Nx H3) := fun D hD => by
  subst hn
  refine lc_it w (Qd := fun H => Q (.ref D) H) (fun i H1 => ∃ ys, Same H0 H1 ∧ H1 D = some (.lst ys) ∧ A2 (R2 (cutS [D] H1)) ys ((zs.take i).filter t)) ⟨[], .upd hD, upd_same, .nil⟩ (fun i H1 _ p => ?_) (fun i x H1 H1' hi p y => ?_) (fun H1 p => ?_)
  · obtain ⟨ys, e1, _⟩ := p
    exact hG _ e1
  · obtain ⟨ys, e1, e2, e3⟩ := p
    obtain ⟨rfl, hx⟩ := hY _ _ _ _ y
    have hz := List.getElem?_eq_getElem hi
    have hzm := List.getElem_mem hi
    have hxd := hx _ hz
    generalize zs[i] = z at hz hzm hxd
    refine hg x z H1' _ hzm e1 hxd fun σ2 hB hw => ⟨hw, ?_⟩
    refine hte z H1' σ2 hzm e1 hB _ fun H2 s12 => ?_
    have e2' := s12 _ _ e2
    have yl : ys.length ≤ i := by
      rw [a2_len e3]
      exact Nat.le_trans (List.length_filter_le _ _) (by rw [List.length_take]; omega)
    have ht2 : zs.take (i + 1) = zs.take i ++ [z] := by rw [List.take_add_one, hz]; rfl
    by_cases hg : t z = true
    · rw [if_pos hg]
      have eT : Same H0 (cutS [D] H2) := fun a o ha => by
        rw [cutS_out (not1 (ne_of_none ha hD))]
        exact (e1.trans s12) a o ha
      refine he z H2 σ2 [D] hzm hg (e1.trans s12) eT (Trk.cons Trk.nil e2') hB (.one e2') _ fun H3 u s2 hy => ?_
      refine ⟨ys, s2 _ _ e2', szL (by omega), ys ++ [u], ((e1.trans s12).trans s2).mut hD, upd_same, ?_⟩
      rw [cutS_upd List.mem_cons_self, ht2, List.filter_append, show [z].filter t = [z] by simp [hg]]
      exact a2_app (a2_imp (fun _ _ => hm _ _ _ _ (cutS_mono (s12.trans s2))) e3) (.cons hy .nil)
    · rw [if_neg hg]
      refine ⟨ys, e1.trans s12, e2', ?_⟩
      rw [ht2, List.filter_append, show [z].filter t = [] by simp [hg], List.append_nil]
      exact a2_imp (fun _ _ => hm _ _ _ _ (cutS_mono s12)) e3
  · obtain ⟨ys, e1, e2, e3⟩ := p
    refine q D ys H1 e1 hD e2 ?_
    rw [List.take_length] at e3
    exact e3
/-! ### places of texts -/
def ixS : List Str → Str → Nat
  | [], _ => 0
  | x :: xs, z => if x = z then 0 else ixS xs z + 1
theorem ixS_get : ∀ {ws : List Str} {z : Str}, z ∈ ws → ws[ixS ws z]? = some z ∧ ∀ m, m < ixS ws z → ws[m]? ≠ some z
  | x :: ws, z, h => by
    unfold ixS
    by_cases e : x = z
    · rw [if_pos e, e]
      exact ⟨rfl, fun m hm => absurd hm (by omega)⟩
    · rw [if_neg e]
      rcases List.mem_cons.mp h with h | h
      · exact absurd h.symm e
      · obtain ⟨g1, g2⟩ := ixS_get h
        refine ⟨by rw [List.getElem?_cons_succ]; exact g1, fun m hm => ?_⟩
        cases m with
        | zero =>
          rw [List.getElem?_cons_zero]
          exact fun q => e (Option.some.inj q)
        | succ m =>
          rw [List.getElem?_cons_succ]
          exact g2 m (by omega)
theorem ixS_map {f : Str → Int} {ws : List Str} {z : Str} (h : z ∈ ws) : atI (ws.map fun w => V.int (f w)) ((ixS ws z : Nat) : Int) = some (.int (f z)) := atI_nat (by rw [List.getElem?_map, (ixS_get h).1]; rfl)
/-! ### a net whose workers are a tuple whose object is known -/
structure WebO (K : PySem.W.Frag) (H : Hp) (v : V) (ws : List Str) (qs : List QD) : Prop where
  dp : Dp K H v (netD true ws qs)
  tw : ∃ (a0 a1 : Addr) (v2 : V) (ob : Obj), v = .ref a0 ∧ SqT K H a0 [.ref a1, v2] ∧ H a1 = some (.frz ob (.tup (ws.map V.str))) ∧ ob.cls = .type "tuple" ∧ ob.dict = none
theorem WebO.same {K : PySem.W.Frag} {H H' : Hp} {v : V} {ws : List Str} {qs : List QD} (w : WebO K H v ws qs) (e : Same H H') : WebO K H' v ws qs := ⟨e.dp w.dp, by
  obtain ⟨a0, a1, v2, ob, h1, h2, h3, h4, h5⟩ := w.tw
  exact ⟨a0, a1, v2, ob, h1, e.sqT h2, e _ _ h3, h4, h5⟩⟩
theorem WebO.of {K : PySem.W.Frag} {H : Hp} {v : V} {ws : List Str} {qs : List QD} (h : Dp K H v (netD true ws qs)) (t : TupW H v (ws.map V.str)) : WebO K H v ws qs := ⟨h, by
  obtain ⟨a0, a1, a2, ob, h1, h2, h3, h4, h5⟩ := t
  exact ⟨a0, a1, _, ob, h1, sqt_of h2, h3, h4, h5⟩⟩
theorem yat_map {α : Type} {g : α → V} {zs : List α} {i : Nat} {x : V} {z : α} (h : (zs.map g)[i]? = some x) (hz : zs[i]? = some z) : x = g z := by
  rw [List.getElem?_map, hz] at h
  exact (Option.some.inj h).symm
/-- [e for x in a row if t] -/
theorem lcs {K : PySem.W.Frag} {tl te : TE} {tt : TT} {j : Nat} {vs : List Nat} {σ : L2.St} {H H0 : Hp} {Q : VK} {a : Addr} {fb : Bool} {xs : List V} {α : Type} (zs : List α) (Rel : V → α → Prop) (R2 : Hp → V → α → Prop) (t : α → Bool)
    (ht : ∀ R' : VK, R' (.ref a) H0 → tl σ H R') (hs : SqF fb K H0 a xs) (hx : ∀ (i : Nat) (x : V) (z : α), xs[i]? = some x → zs[i]? = some z → Rel x z) (hn : xs.length = zs.length) (hl : zs.length ≤ 4000000) (hm : ∀ H H' u z, Same H H' → R2 H u z → R2 H' u z)
    (hw : ∀ x, wipe ((wipe σ vs).set j (some x)) vs = wipe σ vs)
    (hte : ∀ (x : V) (z : α) (H1 : Hp), z ∈ zs → Same H0 H1 → Rel x z → ∀ Q' : Bool → Hp → Prop, (∀ H2, Same H1 H2 → Q' (t z) H2) → tt ((wipe σ vs).set j (some x)) H1 Q')
    (he : ∀ (x : V) (z : α) (H2 : Hp) (T : List Addr), z ∈ zs → t z = true → Same H0 H2 → Same H0 (cutS T H2) → Trk T H2 → Rel x z → LstT T H2 → ∀ Q' : VK, (∀ H3 u, Same H2 H3 → R2 (cutS T H3) u z → Q' u H3) → te ((wipe σ vs).set j (some x)) H2 Q')
    (q : ∀ D ys H', Same H0 H' → H0 D = none → H' D = some (.lst ys) → A2 (R2 (cutS [D] H')) ys (zs.filter t) → Q (.ref D) H') : tLcX (iSeq K tl) (gName j) tt te vs σ H Q := by
  refine lc_of ?_
  refine iSeq_at ht hs fun J w => ?_
  exact lcg (K := K) (Q := Q) zs Rel R2 t (fun z σ2 => ∃ x, σ2 = (wipe σ vs).set j (some x) ∧ Rel x z) w hn (fun H' e => e.sqF hs) (fun i H x H' y => ⟨y.1, fun z hz => hx i x z y.2 hz⟩) hl hm (fun x z H1 R hz e1 hr r => r _ ⟨x, rfl, hr⟩ (hw x)) (fun z H1 σ2 hz e1 hB Q' q' => by
    obtain ⟨x, rfl, hr⟩ := hB
    exact hte x z H1 hz e1 hr Q' q') (fun z H2 σ2 T hz ht e1 e2 tr hB hT Q' q' => by
    obtain ⟨x, rfl, hr⟩ := hB
    exact he x z H2 T hz ht e1 e2 tr hr hT Q' q') q
theorem a2_bl {α : Type} {tf : α → Bool} : ∀ {ys : List V} {zs : List α}, A2 (fun u z => u = V.bl (tf z)) ys zs → ys = (zs.map tf).map V.bl
  | _, _, .nil => rfl
  | _, _, .cons a b => by rw [a, a2_bl b]; rfl
/-- all([e for x in a row]) -/
theorem all_lcs {K : PySem.W.Frag} {tl te : TE} {j : Nat} {vs : List Nat} {σ : L2.St} {H H0 : Hp} {Q : VK} {a : Addr} {fb : Bool} {xs : List V} {α : Type} (zs : List α) (Rel : V → α → Prop) (tf : α → Bool)
    (ht : ∀ R' : VK, R' (.ref a) H0 → tl σ H R') (hs : SqF fb K H0 a xs) (hx : ∀ (i : Nat) (x : V) (z : α), xs[i]? = some x → zs[i]? = some z → Rel x z) (hn : xs.length = zs.length) (hl : zs.length ≤ 4000000)
    (hw : ∀ x, wipe ((wipe σ vs).set j (some x)) vs = wipe σ vs)
    (he : ∀ (x : V) (z : α) (H2 : Hp), z ∈ zs → Same H0 H2 → Rel x z → ∀ Q' : VK, (∀ H3, Same H2 H3 → Q' (.bl (tf z)) H3) → te ((wipe σ vs).set j (some x)) H2 Q')
    (q : ∀ H', Same H0 H' → Q (.bl (zs.all tf)) H') : tCB (rAll K) (tCons (tLcX (iSeq K tl) (gName j) tYes te vs) tNil) σ H Q := by
  refine lcs (K := K) zs Rel (fun _ u z => u = V.bl (tf z)) (fun _ => true) ht hs hx hn hl (fun _ _ _ _ _ h => h) hw (fun x z H1 hz e1 hr Q' q' => q' H1 fun _ _ e => e) (fun x z H2 T hz _ e1 e2 tr hr _ Q' q' => he x z H2 hz e1 hr Q' fun H3 e3 => q' H3 _ e3 rfl) fun D ys H' s1 h0 h1 h2 => ?_
  rw [List.filter_eq_self.mpr fun _ _ => rfl] at h2
  have e := a2_bl h2
  subst e
  refine ⟨D, _, rfl, sql_of h1, ?_⟩
  have e : (zs.map tf).all id = zs.all tf := by rw [List.all_map]; rfl
  rw [e]
  exact q H' s1
theorem asg_of {te : TE} {i : Nat} {u : TS} {D : Ends} {σ : L2.St} {H : Hp} (h : te σ H fun v H1 => u D (σ.set i (some v)) H1) : tSeq (tAsg te (gName i)) u D σ H := h
/-- [e for x in range(..) if t] -/
theorem lcr {K : PySem.W.Frag} {wi : TI} {te : TE} {tt : TT} {j : Nat} {vs : List Nat} {σ : L2.St} {H H0 : Hp} {Q : VK} (lo : Int) (n : Nat) (R2 : Hp → V → Nat → Prop) (t : Nat → Bool)
    (hgo : ∀ R : It → Hp → Prop, R (Itr lo n) H0 → wi σ H R) (hl : n ≤ 4000000) (hm : ∀ H H' u z, Same H H' → R2 H u z → R2 H' u z)
    (hw : ∀ x, wipe ((wipe σ vs).set j (some x)) vs = wipe σ vs)
    (hte : ∀ (i : Nat) (H1 : Hp), i < n → Same H0 H1 → ∀ Q' : Bool → Hp → Prop, (∀ H2, Same H1 H2 → Q' (t i) H2) → tt ((wipe σ vs).set j (some (.int (lo + (i : Nat))))) H1 Q')
    (he : ∀ (i : Nat) (H2 : Hp) (T : List Addr), i < n → t i = true → Same H0 H2 → Same H0 (cutS T H2) → Trk T H2 → LstT T H2 → ∀ Q' : VK, (∀ H3 u, Same H2 H3 → R2 (cutS T H3) u i → Q' u H3) → te ((wipe σ vs).set j (some (.int (lo + (i : Nat))))) H2 Q')
    (q : ∀ D ys H', Same H0 H' → H0 D = none → H' D = some (.lst ys) → A2 (R2 (cutS [D] H')) ys ((List.range n).filter t) → Q (.ref D) H') : tLcX wi (gName j) tt te vs σ H Q := by
  refine lc_of (hgo _ ?_)
  exact lcg (K := K) (Q := Q) (List.range n) (fun x (i : Nat) => x = .int (lo + (i : Nat))) R2 t (fun i σ2 => σ2 = (wipe σ vs).set j (some (.int (lo + (i : Nat))))) walk_range (by rw [List.length_range]) (fun _ _ => trivial) (fun i H x H' y => ⟨y.1, fun z hz => by
      have hi := (List.getElem?_eq_some_iff.mp hz).1
      rw [List.length_range] at hi
      rw [List.getElem?_range hi] at hz
      cases hz
      exact y.2⟩) (by rw [List.length_range]; exact hl) hm (fun x z H1 R hz e1 hr r => by
      subst hr
      exact r _ rfl (hw _)) (fun z H1 σ2 hz e1 hB Q' q' => by
      subst hB
      exact hte z H1 (List.mem_range.mp hz) e1 Q' q') (fun z H2 σ2 T hz ht e1 e2 tr hB hT Q' q' => by
      subst hB
      exact he z H2 T (List.mem_range.mp hz) ht e1 e2 tr hT Q' q') q
/-- [e for x in a new tuple if t] -/
theorem lcsD {K : PySem.W.Frag} {tl te : TE} {tt : TT} {j : Nat} {vs : List Nat} {σ : L2.St} {H : Hp} {Q : VK} {xs : List V} {α : Type} (zs : List α) (Rel : V → α → Prop) (R2 : Hp → V → α → Prop) (t : α → Bool)
    (ht : ∀ R' : VK, (∀ a H0, Same H H0 → SqT K H0 a xs → R' (.ref a) H0) → tl σ H R') (hx : ∀ (i : Nat) (x : V) (z : α), xs[i]? = some x → zs[i]? = some z → Rel x z) (hn : xs.length = zs.length) (hl : zs.length ≤ 4000000) (hm : ∀ H H' u z, Same H H' → R2 H u z → R2 H' u z)
    (hw : ∀ x, wipe ((wipe σ vs).set j (some x)) vs = wipe σ vs)
    (hte : ∀ (x : V) (z : α) (H1 : Hp), z ∈ zs → Same H H1 → Rel x z → ∀ Q' : Bool → Hp → Prop, (∀ H2, Same H1 H2 → Q' (t z) H2) → tt ((wipe σ vs).set j (some x)) H1 Q')
    (he : ∀ (x : V) (z : α) (H2 : Hp) (T : List Addr), z ∈ zs → t z = true → Same H H2 → Same H (cutS T H2) → Trk T H2 → Rel x z → LstT T H2 → ∀ Q' : VK, (∀ H3 u, Same H2 H3 → R2 (cutS T H3) u z → Q' u H3) → te ((wipe σ vs).set j (some x)) H2 Q')
    (q : ∀ D ys H', Same H H' → H D = none → H' D = some (.lst ys) → A2 (R2 (cutS [D] H')) ys (zs.filter t) → Q (.ref D) H') : tLcX (iSeq K tl) (gName j) tt te vs σ H Q := by
  refine lc_of (.inr (ht _ fun a H0 s h => ⟨a, rfl, ⟨xs, h⟩, ?_⟩))
  exact lcg (K := K) (Q := Q) zs Rel R2 t (fun z σ2 => ∃ x, σ2 = (wipe σ vs).set j (some x) ∧ Rel x z) (walk_tup (K := K) (a := a) (xs := xs)) hn (fun H' e => e.sqT h) (fun i H x H' y => ⟨y.1, fun z hz => hx i x z y.2 hz⟩) hl hm (fun x z H1 R hz e1 hr r => r _ ⟨x, rfl, hr⟩ (hw x)) (fun z H1 σ2 hz e1 hB Q' q' => by
    obtain ⟨x, rfl, hr⟩ := hB
    exact hte x z H1 hz (s.trans e1) hr Q' q') (fun z H2 σ2 T hz ht e1 e2 tr hB hT Q' q' => by
    obtain ⟨x, rfl, hr⟩ := hB
    exact he x z H2 T hz ht (s.trans e1) (s.trans e2) tr hr hT Q' q') fun D ys H' s1 h0 h1 h2 => q D ys H' (s.trans s1) (s.free h0) h1 h2
/-- all([e for x in a new tuple]) -/
theorem all_lcsD {K : PySem.W.Frag} {tl te : TE} {j : Nat} {vs : List Nat} {σ : L2.St} {H : Hp} {Q : VK} {xs : List V} {α : Type} (zs : List α) (Rel : V → α → Prop) (tf : α → Bool)
    (ht : ∀ R' : VK, (∀ a H0, Same H H0 → SqT K H0 a xs → R' (.ref a) H0) → tl σ H R') (hx : ∀ (i : Nat) (x : V) (z : α), xs[i]? = some x → zs[i]? = some z → Rel x z) (hn : xs.length = zs.length) (hl : zs.length ≤ 4000000)
    (hw : ∀ x, wipe ((wipe σ vs).set j (some x)) vs = wipe σ vs)
    (he : ∀ (x : V) (z : α) (H2 : Hp), z ∈ zs → Same H H2 → Rel x z → ∀ Q' : VK, (∀ H3, Same H2 H3 → Q' (.bl (tf z)) H3) → te ((wipe σ vs).set j (some x)) H2 Q')
    (q : ∀ H', Same H H' → Q (.bl (zs.all tf)) H') : tCB (rAll K) (tCons (tLcX (iSeq K tl) (gName j) tYes te vs) tNil) σ H Q := by
  refine lcsD (K := K) zs Rel (fun _ u z => u = V.bl (tf z)) (fun _ => true) ht hx hn hl (fun _ _ _ _ _ h => h) hw (fun x z H1 hz e1 hr Q' q' => q' H1 fun _ _ e => e) (fun x z H2 T hz _ e1 e2 tr hr _ Q' q' => he x z H2 hz e1 hr Q' fun H3 e3 => q' H3 _ e3 rfl) fun D ys H' s1 h0 h1 h2 => ?_
  rw [List.filter_eq_self.mpr fun _ _ => rfl] at h2
  have e := a2_bl h2
  subst e
  refine ⟨D, _, rfl, sql_of h1, ?_⟩
  have e : (zs.map tf).all id = zs.all tf := by rw [List.all_map]; rfl
  rw [e]
  exact q H' s1
section
variable {K : PySem.W.Frag} {σ : L2.St}
theorem asg_ic {te : TE} {i : Nat} {u : TS} {D : Ends} {H : Hp} {d : PyData} (h : IsC K [] H te d σ) (q : ∀ H' v, Same H H' → Dp K H' v d → u D (σ.set i (some v)) H') : tSeq (tAsg te (gName i)) u D σ H := h H _ (fun _ _ e => e) Trk.nil fun H' v s1 h1 => q H' v s1 (by rwa [cutS_nil] at h1)
theorem call_ac {t : TA} {ds : List PyData} {sp : Sp} {E : XK} {H : Hp} {Q : VK} (h : AreC K [] H t ds σ) (q : ∀ H' vs, Same H H' → DpAll K H' vs ds → sp (vs ++ []) H' Q E) : tCall sp [] E t σ H Q := h H _ (fun _ _ e => e) Trk.nil fun H' vs s1 h1 => q H' vs s1 (by rwa [cutS_nil] at h1)
theorem same_ac {E : XK} {H : Hp} {t : TA} {d : PyData} {Q : VK} (h : AreC K [] H t [d, d] σ) (ok : okD 5 d) (q : ∀ H', Same H H' → Q (.bl true) H') : tCall (spSame K 5) [] E t σ H Q := call_ac h fun H' vs s1 hd => by
  cases hd with
  | cons h1 hd =>
    cases hd with
    | cons h2 hd =>
      cases hd
      exact ⟨_, _, d, rfl, h1, h2, ok, fun H2 s2 => q H2 (s1.trans s2)⟩
end
theorem webO_cut {K : PySem.W.Frag} {H : Hp} {T : List Addr} {v : V} {ws : List Str} {qs : List QD} (w : WebO K H v ws qs) (hT : LstT T H) : WebO K (cutS T H) v ws qs := by
  refine ⟨dpT_cut hT _ _ tup_net w.dp, ?_⟩
  obtain ⟨a0, a1, v2, ob, h1, h2, h3, h4, h5⟩ := w.tw
  refine ⟨a0, a1, v2, ob, h1, sqt_cutL h2 hT, ?_, h4, h5⟩
  exact cutS_at h3 (hT.not h3 fun _ => nofun)
end Jl

set_option Elab.async false
set_option linter.all false
set_option maxRecDepth 100000
set_option maxHeartbeats 1000000
set_option pp.maxSteps 300
namespace Jl
open PySem PySem.Spec PyProof.Rows L2
open Evl (sz_of sz_lt)
local macro_rules | `(tactic| walk_at "at") => `(tactic| first | exact box0 | exact box1 | exact box2)
local macro_rules | `(tactic| walk_at "sq") => `(tactic| first | (show SqL _ _ _ _; assumption) | (show SqT _ _ _ _; assumption) | (show _ = some _; assumption))
local macro_rules | `(tactic| walk_at "side") => `(tactic| first
  | (show (0 : Int) < _; decide)
  | (show (0 : Int) < _; omega)
  | exact ⟨by decide, by decide, by decide⟩
  | exact sz_of (Nat.le_of_ble_eq_true rfl)
  | exact rfl
  | exact Or.inl (by decide)
  | exact Or.inr (by decide)
  | exact Or.inr ⟨by omega, by omega⟩
  | exact Or.inl ⟨by omega, by omega⟩
  | exact ⟨by decide, by decide +kernel⟩)
local macro_rules | `(tactic| walk_at "ev1") => `(tactic| first
  | refine ⟨_, rfl, ?_⟩
  | refine ⟨_, _, rfl, rfl, ?_⟩
  | refine ⟨_, _, _, _, rfl, rfl, (by walk_at "sq"), (by walk_at "at"), ?_⟩
  | refine ⟨_, _, rfl, (by walk_at "sq"), ?_⟩
  | refine ⟨_, _, rfl, Or.inl (by walk_at "sq"), ?_⟩
  | refine ⟨_, _, rfl, Or.inr (by walk_at "sq"), ?_⟩
  | refine Or.inl ⟨_, rfl, ?_⟩
  | refine Or.inr ⟨_, rfl, ?_⟩
  | refine ⟨(by walk_at "side"), ?_⟩
  | refine ⟨.inl ⟨rfl, _, (by walk_at "sq")⟩, ?_⟩
  | refine ⟨_, _, rfl, ?_⟩)
local macro_rules | `(tactic| walk_at "nrm") => `(tactic| dsimp only [tNil, tCons, tC, tCB])
local macro_rules | `(tactic| walk_at "ev") => `(tactic| repeat (walk_at "ev1"))
theorem shaped_of {d : PyData} (h1 : d.canLay0 = true) (h2 : d.depth ≤ 60) : SeqAt.shaped d = true := by
  unfold SeqAt.shaped
  rw [h1, decide_eq_true (show d.depth ≤ 64 by omega)]
  rfl
theorem eqv_nil3 {ds : List PyData} : PyData.eqv (.list ds) (.list []) = ds.isEmpty := by
  cases ds with
  | nil => simp [PyData.eqv, PyData.eqvAll]
  | cons d ds => simp [PyData.eqv, PyData.eqvAll]
theorem shaped_nil3 : SeqAt.shaped (.list []) = true := by
  unfold SeqAt.shaped
  simp [PyData.canLay0, PyData.canLayAll0, PyData.depth, PyData.depthAll]
/-- xs == [], xs != [] of a list of data -/
def OkE (d : PyData) : Prop := d.canLay0 = true ∧ d.depth ≤ 30
theorem okE_int {i : Int} : OkE (.int i) := ⟨by simp [PyData.canLay0], by simp [PyData.depth]⟩
theorem okE_q {q : QD} (h1 : PyData.strOk q.nm = true) (h2 : PyData.strOk q.st = true) (h3 : PyData.strOk q.en = true) : OkE (q.d true) := by
  refine ⟨can_seq (f := true) fun d hd => ?_, Nat.le_trans (dep_seq (f := true) (n := 0) fun d hd => ?_) (by decide)⟩
  · rcases mem5 hd with rfl | rfl | rfl | rfl | rfl
    · rw [PyData.canLay0]; exact h1
    · rw [PyData.canLay0]; exact h2
    · rw [PyData.canLay0]; exact h3
    · rw [PyData.canLay0]
    · rw [PyData.canLay0]
  · rcases mem5 hd with rfl | rfl | rfl | rfl | rfl <;> simp [PyData.depth]
theorem eq_nilD {K : PySem.W.Frag} {σ : L2.St} {H : Hp} {Q : VK} {i : Nat} {D : Addr} {ys : List V} {ds : List PyData} (hi : σ[i]? = some (some (.ref D))) (hD : SqL K H D ys) (hd : DpAll K H ys ds) (hs : ∀ d ∈ ds, OkE d) (q : ∀ H', Same H H' → Q (.bl ds.isEmpty) H') : tOp (rEqD K) (tVar i) (tLst tNil) σ H Q := by
  refine ⟨_, hi, ?_⟩
  refine ⟨by show 0 ≤ sizeLine; exact Nat.zero_le _, fun l hl => ?_⟩
  have s1 : Same H (upd H l (.lst [])) := .upd hl
  refine ⟨.list ds, .list [], .lst (s1.sqL hD) (s1.dpa hd), .lst (sql_of upd_same) .nil, shaped_of (can_seq (f := false) fun d hd => (hs d hd).1) (Nat.le_trans (dep_seq (f := false) (n := 30) fun d hd => (hs d hd).2) (by decide)), shaped_nil3, ?_⟩
  rw [eqv_nil3]
  exact q _ s1
theorem ne_nilD {K : PySem.W.Frag} {σ : L2.St} {H : Hp} {Q : VK} {i : Nat} {D : Addr} {ys : List V} {ds : List PyData} (hi : σ[i]? = some (some (.ref D))) (hD : SqL K H D ys) (hd : DpAll K H ys ds) (hs : ∀ d ∈ ds, OkE d) (q : ∀ H', Same H H' → Q (.bl (!ds.isEmpty)) H') : tOp (rNeD K) (tVar i) (tLst tNil) σ H Q := by
  refine ⟨_, hi, ?_⟩
  refine ⟨by show 0 ≤ sizeLine; exact Nat.zero_le _, fun l hl => ?_⟩
  have s1 : Same H (upd H l (.lst [])) := .upd hl
  refine ⟨.list ds, .list [], .lst (s1.sqL hD) (s1.dpa hd), .lst (sql_of upd_same) .nil, shaped_of (can_seq (f := false) fun d hd => (hs d hd).1) (Nat.le_trans (dep_seq (f := false) (n := 30) fun d hd => (hs d hd).2) (by decide)), shaped_nil3, ?_⟩
  rw [eqv_nil3]
  exact q _ s1
theorem dpa_ints {K : PySem.W.Frag} {H : Hp} : ∀ {is : List Int}, DpAll K H (is.map V.int) (is.map PyData.int)
  | [] => .nil
  | i :: is => .cons (.int i) dpa_ints
end Jl

set_option Elab.async false
set_option linter.all false
set_option maxRecDepth 100000
set_option maxHeartbeats 1000000
set_option pp.maxSteps 300
namespace Jl
open PySem PySem.Spec PyProof.Rows L2
open Evl (sz_of sz_lt)
local macro_rules | `(tactic| walk_at "at") => `(tactic| first | exact box0 | exact box1 | exact box2)
local macro_rules | `(tactic| walk_at "sq") => `(tactic| first | (show SqL _ _ _ _; assumption) | (show SqT _ _ _ _; assumption) | (show _ = some _; assumption))
local macro_rules | `(tactic| walk_at "side") => `(tactic| first
  | (show (0 : Int) < _; decide)
  | (show (0 : Int) < _; omega)
  | exact ⟨by decide, by decide, by decide⟩
  | exact sz_of (Nat.le_of_ble_eq_true rfl)
  | exact rfl
  | exact Or.inl (by decide)
  | exact Or.inr (by decide)
  | exact Or.inr ⟨by omega, by omega⟩
  | exact Or.inl ⟨by omega, by omega⟩
  | exact ⟨by decide, by decide +kernel⟩)
local macro_rules | `(tactic| walk_at "ev1") => `(tactic| first
  | refine ⟨_, rfl, ?_⟩
  | refine ⟨_, _, rfl, rfl, ?_⟩
  | refine ⟨_, _, _, _, rfl, rfl, (by walk_at "sq"), (by walk_at "at"), ?_⟩
  | refine ⟨_, _, rfl, (by walk_at "sq"), ?_⟩
  | refine ⟨_, _, rfl, Or.inl (by walk_at "sq"), ?_⟩
  | refine ⟨_, _, rfl, Or.inr (by walk_at "sq"), ?_⟩
  | refine Or.inl ⟨_, rfl, ?_⟩
  | refine Or.inr ⟨_, rfl, ?_⟩
  | refine ⟨(by walk_at "side"), ?_⟩
  | refine ⟨.inl ⟨rfl, _, (by walk_at "sq")⟩, ?_⟩
  | refine ⟨_, _, rfl, ?_⟩)
local macro_rules | `(tactic| walk_at "nrm") => `(tactic| dsimp only [tNil, tCons, tC, tCB])
local macro_rules | `(tactic| walk_at "ev") => `(tactic| repeat (walk_at "ev1"))
/-- a list that grows beside a box -/
structure BSt (K : PySem.W.Frag) (b p : Addr) (H3 : Hp) (fs : List V) (ds : List PyData) (Hc : Hp) (bx : List V) (n : Nat) : Prop where
  hb : Hc b = some (.lst bx)
  hB : BoxL bx n
  hf : Hc p = some (.lst fs)
  hd : DpAll K (cutS [p, b] Hc) fs ds
  hS : Same (cutS [b] H3) (cutS [p, b] Hc)
section
variable {K : PySem.W.Frag} {b p : Addr} {H3 Hc Hd : Hp} {fs : List V} {ds : List PyData} {bx bx' : List V} {n n' : Nat} {v : V} {d : PyData}
theorem BSt.take (w : BSt K b p H3 fs ds Hc bx n) (n7 : p ≠ b) (h : BoxL bx' n') : BSt K b p H3 fs ds (upd Hc b (.lst bx')) bx' n' := by
  have e : cutS [p, b] (upd Hc b (.lst bx')) = cutS [p, b] Hc := cutS_upd (List.mem_cons_of_mem _ List.mem_cons_self)
  exact ⟨upd_same, h, by rw [upd_ne n7]; exact w.hf, by rw [e]; exact w.hd, by rw [e]; exact w.hS⟩
theorem BSt.same (w : BSt K b p H3 fs ds Hc bx n) (e : Same Hc Hd) : BSt K b p H3 fs ds Hd bx n := ⟨e _ _ w.hb, w.hB, e _ _ w.hf, (cutS_mono e).dpa w.hd, w.hS.trans (cutS_mono e)⟩
theorem BSt.push (w : BSt K b p H3 fs ds Hc bx n) (n7 : p ≠ b) (h : Dp K (cutS [p, b] Hc) v d) : BSt K b p H3 (fs ++ [v]) (ds ++ [d]) (upd Hc p (.lst (fs ++ [v]))) bx n := by
  have e : cutS [p, b] (upd Hc p (.lst (fs ++ [v]))) = cutS [p, b] Hc := cutS_upd List.mem_cons_self
  exact ⟨by rw [upd_ne n7.symm]; exact w.hb, w.hB, upd_same, by rw [e]; exact dpa_app w.hd (dpa_one h), by rw [e]; exact w.hS⟩
theorem BSt.mono (w : BSt K b p H3 fs ds Hc bx n) (h : n ≤ n') : BSt K b p H3 fs ds Hc bx n' := ⟨w.hb, w.hB.mono h, w.hf, w.hd, w.hS⟩
theorem BSt.new (hb : H3 b = some (.lst bx)) (hB : BoxL bx n) (hp : H3 p = none) : BSt K b p H3 [] [] (upd H3 p (.lst [])) bx n := by
  have np : p ≠ b := fun z => by
    rw [z, hb] at hp
    cases hp
  exact ⟨by rw [upd_ne np.symm]; exact hb, hB, upd_same, .nil, cutS_cons hp⟩
theorem BSt.trk (w : BSt K b p H3 fs ds Hc bx n) : Trk [p, b] Hc := Trk.cons (Trk.cons Trk.nil w.hb) w.hf
end
end Jl

set_option Elab.async false
set_option linter.all false
set_option maxRecDepth 100000
set_option maxHeartbeats 1000000
set_option pp.maxSteps 300
namespace Jl
open PySem PySem.Spec PyProof.Rows L2
open Evl (sz_of sz_lt)
local macro_rules | `(tactic| walk_at "at") => `(tactic| first | exact box0 | exact box1 | exact box2)
local macro_rules | `(tactic| walk_at "sq") => `(tactic| first | (show SqL _ _ _ _; assumption) | (show SqT _ _ _ _; assumption) | (show _ = some _; assumption))
local macro_rules | `(tactic| walk_at "side") => `(tactic| first
  | (show (0 : Int) < _; decide)
  | (show (0 : Int) < _; omega)
  | exact ⟨by decide, by decide, by decide⟩
  | exact sz_of (Nat.le_of_ble_eq_true rfl)
  | exact rfl
  | exact Or.inl (by decide)
  | exact Or.inr (by decide)
  | exact Or.inr ⟨by omega, by omega⟩
  | exact Or.inl ⟨by omega, by omega⟩
  | exact ⟨by decide, by decide +kernel⟩)
local macro_rules | `(tactic| walk_at "ev1") => `(tactic| first
  | refine ⟨_, rfl, ?_⟩
  | refine ⟨_, _, rfl, rfl, ?_⟩
  | refine ⟨_, _, _, _, rfl, rfl, (by walk_at "sq"), (by walk_at "at"), ?_⟩
  | refine ⟨_, _, rfl, (by walk_at "sq"), ?_⟩
  | refine ⟨_, _, rfl, Or.inl (by walk_at "sq"), ?_⟩
  | refine ⟨_, _, rfl, Or.inr (by walk_at "sq"), ?_⟩
  | refine Or.inl ⟨_, rfl, ?_⟩
  | refine Or.inr ⟨_, rfl, ?_⟩
  | refine ⟨(by walk_at "side"), ?_⟩
  | refine ⟨.inl ⟨rfl, _, (by walk_at "sq")⟩, ?_⟩
  | refine ⟨_, _, rfl, ?_⟩)
local macro_rules | `(tactic| walk_at "nrm") => `(tactic| dsimp only [tNil, tCons, tC, tCB])
local macro_rules | `(tactic| walk_at "ev") => `(tactic| repeat (walk_at "ev1"))
abbrev sc_frozen_N : List Str := ["thing", "part"]
abbrev s_frozen : Stmt := topS 6
theorem sc_frozen : FnScope ["thing", "part"] ["thing"] (defScope s_frozen) := ⟨rfl, rfl, rfl, by decide +kernel, rfl, by decide +kernel, by decide +kernel⟩
abbrev sc_check_worker_N : List Str := ["net", "worker"]
abbrev s_check_worker : Stmt := topS 8
theorem sc_check_worker : FnScope ["net", "worker"] ["net", "worker"] (defScope s_check_worker) := ⟨rfl, rfl, rfl, by decide +kernel, rfl, by decide +kernel, by decide +kernel⟩
/-! ### frozen -/
mutual
def frzD : PyData → PyData
  | .list ds => .tuple (frzA ds)
  | .tuple ds => .tuple (frzA ds)
  | .none => .none
  | .bool b => .bool b
  | .int i => .int i
  | .str x => .str x
  | .dict k => .dict k
def frzA : List PyData → List PyData
  | [] => []
  | d :: ds => frzD d :: frzA ds
end
theorem frzA_map : ∀ ds : List PyData, frzA ds = ds.map frzD
  | [] => rfl
  | d :: ds => by
    show frzD d :: frzA ds = frzD d :: ds.map frzD
    rw [frzA_map ds]
theorem frzD_seq {f : Bool} {ds : List PyData} : frzD (seqD f ds) = .tuple (ds.map frzD) := by
  cases f
  · show PyData.tuple (frzA ds) = _
    rw [frzA_map]
  · show PyData.tuple (frzA ds) = _
    rw [frzA_map]
theorem frz_net {f : Bool} {ws : List Str} {qs : List QD} : frzD (netD f ws qs) = netD true ws qs := by
  unfold netD
  rw [frzD_seq]
  show PyData.tuple [frzD _, frzD _] = PyData.tuple [_, _]
  rw [frzD_seq, frzD_seq, List.map_map, List.map_map]
  have e1 : ws.map (frzD ∘ PyData.str) = ws.map PyData.str := List.map_congr_left fun _ _ => rfl
  have e2 : qs.map (frzD ∘ QD.d f) = qs.map (QD.d true) := List.map_congr_left fun q _ => by
    show frzD (QD.d f q) = _
    unfold QD.d
    rw [frzD_seq]
    rfl
  rw [e1, e2]
  rfl
theorem frz_flat {d : PyData} (h : PySem.W.kitAny (default : PySem.W.Frag) (.type (tyD d)) [.type "list", .type "tuple"] = some false ∨ True) (h2 : ∀ f ds, d ≠ seqD f ds) : frzD d = d := by
  cases d with
  | list ds => exact absurd rfl (h2 false ds)
  | tuple ds => exact absurd rfl (h2 true ds)
  | _ => rfl
section
variable {P : Program} {w : World} {K : PySem.W.Frag} {mg : Str → Option Value} {base : Heap}
def spFrozen (K : PySem.W.Frag) : Nat → Sp
  | 0 => fun _ _ _ _ => False
  | n + 1 => fun vs H Q _ => ∃ (v : V) (d : PyData) (S : List Addr), vs = [v] ∧ Trk S H ∧ Dp K (cutS S H) v d ∧ okD (n + 1) d ∧ ∀ H' y, Same H H' → Dp K (cutS S H') y (frzD d) → Q y H'
theorem ok_frozen {f : Addr} {fd : FuncData} (F_frozen : Fun K "frozen" "frozen" s_frozen f fd) (g_frozen : mg "frozen" = some (.ref f)) (b_frozen : Binds K fd ["thing"] []) (m_isinstance : mg "isinstance" = none) (m_list : mg "list" = none) (m_tuple : mg "tuple" = none) :
    ∀ n : Nat, FnOk P w K mg base CX0 n f fd ["thing"] (spFrozen K n)
  | 0 => fnok_no
  | n + 1 => by
    have G_frozen := ok_frozen F_frozen g_frozen b_frozen m_isinstance m_list m_tuple n
    refine F_frozen.ok sc_frozen (fun vs H Q E h => ?_) (fun cdv A outer s H vs Q E hr h => ?_)
    · obtain ⟨v, d, S, rfl, _⟩ := h
      rfl
    · obtain ⟨v, d, S, rfl, hT, hD, hk, q⟩ := h
      refine ⟨_, (pss_cons (ps_if (pt_val (pe_callB call_isiT (by rfl) m_isinstance (by decide +kernel) (pa_cons (pv 0) (pa_cons (pe_tup (pa_cons (pe_bltn (v := .ty "list") (u := .type "list") (by rfl) m_list (by decide +kernel) rfl) (pa_cons (pe_bltn (v := .ty "tuple") (u := .type "tuple") (by rfl) m_tuple (by decide +kernel) rfl) pa_nil))) pa_nil)))) (pss_one (ps_ret (pe_callTy call_tuple_of (by rfl) m_tuple (by decide +kernel) (pa_cons (pe_lcX (pe_lc (own := [("part", 1)]) (g := gName 1) (tt := tYes) (by rfl) sc_frozen.nd (pi_seq (pv 0)) (blkOk_by (own := [("part", 1)]) (N := sc_frozen_N) (sc := defScope s_frozen) (by decide +kernel)) (fun _ _ _ _ _ => pg_name (i := 1) sc_frozen.nd rfl (Or.inl rfl)) (fun _ _ _ _ _ => pts_nil) (fun _ _ _ _ _ => (pe_call G_frozen hr (by rfl) g_frozen F_frozen.kp b_frozen .nil pass0 (pa_cons (pv 1) pa_nil))))) pa_nil)))) pss_nil) 
    (pss_one (ps_ret (pv 0)))), ?_⟩
      walk_at "ev"
      intro p hp
      have e1 : Same H (upd H p (.tup [.ty "list", .ty "tuple"])) := .upd hp
      have hp1 : (upd H p (.tup [.ty "list", .ty "tuple"])) p = some (.tup [.ty "list", .ty "tuple"]) := upd_same
      dsimp only [tNil]
      rcases dp_cases hD with ⟨fb, ds, rfl⟩ | ⟨hk0, hl⟩
      · refine isi2 (e1.dp (cutS_le.dp hD)) hp1 (fun t e => by rw [e]; exact kit_seq) ?_
        refine ⟨_, rfl, iteT ?_⟩
        obtain ⟨a, xs, rfl, hs, ha⟩ := Dp.seq_of hD
        obtain ⟨hk1, hk2⟩ := okD_seq.mp hk
        refine lc_dataD (S := S) frzD (fun R' r => ⟨_, rfl, r⟩) (e1.sqF (cutS_le.sqF hs)) ((cutS_mono e1).dpa ha) (hT.mono e1) hk1 (fun x => rfl) (fun x d H1 T hd t1 hx Q' q' => ?_) (fun D ys H' s1 hD h2 h3 => ?_)
        · cases n with
          | zero => exact (hk2 d hd).elim
          | succ n => exact ⟨_, rfl, x, d, T, rfl, t1, hx, hk2 d hd, fun H2 y s2 hy => q' H2 y s2 hy⟩
        · refine ⟨D, ys, rfl, .inl ⟨sql_of h2, fun l hl => ?_⟩⟩
          have s2 : Same H (upd H' l (.tup ys)) := (e1.trans s1).trans (.upd hl)
          refine q _ _ s2 ?_
          rw [frzD_seq]
          exact dp_tup (hT.mono (e1.trans s1)) hl (cutS_tail.dpa h3)
      · refine isi2 (e1.dp (cutS_le.dp hD)) hp1 (fun t e => by rw [e]; exact hk0) ?_
        refine ⟨_, rfl, iteF ?_⟩
        refine ⟨_, rfl, ?_⟩
        refine q _ _ e1 ?_
        have e : frzD d = d := by
          cases d with
          | list ds => exact absurd ((kit_seq (K := K) (fb := false) (ds := ds)).symm.trans hk0) (by simp)
          | tuple ds => exact absurd ((kit_seq (K := K) (fb := true) (ds := ds)).symm.trans hk0) (by simp)
          | _ => rfl
        rw [e]
        exact (cutS_mono e1).dp hD
/-! ### check_worker -/
def spCheck (K : PySem.W.Frag) : Sp := fun vs H Q _ => ∃ (v : V) (fb : Bool) (ws : List Str) (qs : List QD) (x : Str), vs = [v, .str x] ∧ Dp K H v (netD fb ws qs) ∧ x ∈ ws ∧ Q .non H
theorem ok_check_worker {f : Addr} {fd : FuncData} {k : Nat} (F : Fun K "check_worker" "check_worker" s_check_worker f fd) : FnOk P w K mg base CX0 (k + 1) f fd ["net", "worker"] (spCheck K) := by
  refine F.ok sc_check_worker (fun vs H Q E h => ?_) (fun cdv A outer s0 H vs Q E hr h => ?_)
  · obtain ⟨v, fb, ws, qs, x, rfl, _⟩ := h
    rfl
  · obtain ⟨v, fb, ws, qs, x, rfl, hD, hx, q⟩ := h
    refine ⟨_, (pss_one (ps_if (pt_cmpR op_notIn_seq (pv 1) (pe_ix ix_lt (pv 0) pe_int (fun _ _ => rfl)) (by with_unfolding_all rfl)) (pss_one ps_no) pss_nil)), ?_⟩
    obtain ⟨a0, a1, a2, xq, rfl, N0⟩ := netAt hD
    have i0 : atI [V.ref a1, V.ref a2] 0 = some (.ref a1) := atI_nat (j := 0) rfl
    refine ⟨_, rfl, _, rfl, rIxF_at N0.h0 i0 ?_⟩
    refine ⟨a1, _, rfl, N0.h1.or, rfl, flat_strs, ?_⟩
    rw [in_strs, decide_eq_true hx]
    refine ⟨_, rfl, iteF ?_⟩
    exact q
end
end Jl

set_option Elab.async false
set_option linter.all false
set_option maxRecDepth 100000
set_option maxHeartbeats 1000000
set_option pp.maxSteps 300
namespace Jl
open PySem PySem.Spec PyProof.Rows L2
open Evl (sz_of sz_lt)
local macro_rules | `(tactic| walk_at "at") => `(tactic| first | exact box0 | exact box1 | exact box2)
local macro_rules | `(tactic| walk_at "sq") => `(tactic| first | (show SqL _ _ _ _; assumption) | (show SqT _ _ _ _; assumption) | (show _ = some _; assumption))
local macro_rules | `(tactic| walk_at "side") => `(tactic| first
  | (show (0 : Int) < _; decide)
  | (show (0 : Int) < _; omega)
  | exact ⟨by decide, by decide, by decide⟩
  | exact sz_of (Nat.le_of_ble_eq_true rfl)
  | exact rfl
  | exact Or.inl (by decide)
  | exact Or.inr (by decide)
  | exact Or.inr ⟨by omega, by omega⟩
  | exact Or.inl ⟨by omega, by omega⟩
  | exact ⟨by decide, by decide +kernel⟩)
local macro_rules | `(tactic| walk_at "ev1") => `(tactic| first
  | refine ⟨_, rfl, ?_⟩
  | refine ⟨_, _, rfl, rfl, ?_⟩
  | refine ⟨_, _, _, _, rfl, rfl, (by walk_at "sq"), (by walk_at "at"), ?_⟩
  | refine ⟨_, _, rfl, (by walk_at "sq"), ?_⟩
  | refine ⟨_, _, rfl, Or.inl (by walk_at "sq"), ?_⟩
  | refine ⟨_, _, rfl, Or.inr (by walk_at "sq"), ?_⟩
  | refine Or.inl ⟨_, rfl, ?_⟩
  | refine Or.inr ⟨_, rfl, ?_⟩
  | refine ⟨(by walk_at "side"), ?_⟩
  | refine ⟨.inl ⟨rfl, _, (by walk_at "sq")⟩, ?_⟩
  | refine ⟨_, _, rfl, ?_⟩)
local macro_rules | `(tactic| walk_at "nrm") => `(tactic| dsimp only [tNil, tCons, tC, tCB])
local macro_rules | `(tactic| walk_at "ev") => `(tactic| repeat (walk_at "ev1"))
abbrev sc_Way_init_N : List Str := ["self", "net", "start", "queues", "known", "steps", "workers", "costs", "place", "name", "move", "queue"]
abbrev s_Way_init : Stmt := inClass (topS 12) 0
theorem sc_Way_init : FnScope ["self", "net", "start", "queues", "known", "steps", "workers", "costs", "place", "name", "move", "queue"] ["self", "net", "start", "queues"] (defScope s_Way_init) := ⟨rfl, rfl, rfl, by decide +kernel, rfl, by decide +kernel, by decide +kernel⟩
abbrev sc_Way_cost_N : List Str := ["self"]
abbrev s_Way_cost : Stmt := inClass (topS 12) 3
theorem sc_Way_cost : FnScope ["self"] ["self"] (defScope s_Way_cost) := ⟨rfl, rfl, rfl, by decide +kernel, rfl, by decide +kernel, by decide +kernel⟩
/-! ### rows along a path -/
theorem path_len {qs : List QD} : ∀ {vs : List Str} {ms : List Mk}, path qs vs ms → vs.length = ms.length + 1
  | [_], [], _ => rfl
  | _ :: u :: vs, m :: ms, h => by rw [List.length_cons, path_len h.2, List.length_cons]
  | [], _, h => absurd h id
  | [_], _ :: _, h => absurd h id
  | _ :: _ :: _, [], h => absurd h id
theorem path_get {qs : List QD} : ∀ {vs : List Str} {ms : List Mk} {i : Nat} {m : Mk}, path qs vs ms → ms[i]? = some m → ∃ a b, vs[i]? = some a ∧ vs[i + 1]? = some b ∧ link qs m a b
  | v :: u :: vs, m :: ms, 0, m', h, hm => by
    cases hm
    exact ⟨v, u, rfl, rfl, h.1⟩
  | v :: u :: vs, m :: ms, i + 1, m', h, hm => by
    obtain ⟨a, b, h1, h2, h3⟩ := path_get (i := i) h.2 (by simpa using hm)
    exact ⟨a, b, by simpa using h1, by simpa using h2, h3⟩
  | [_], [], i, m', _, hm => by simp at hm
  | [], _, _, _, h, _ => absurd h id
  | [_], _ :: _, _, _, h, _ => absurd h id
  | _ :: _ :: _, [], _, _, h, _ => absurd h id
theorem link_at {qs : List QD} {m : Mk} {x y : Str} (h : link qs m x y) : ∃ q, qs[m.1]? = some q ∧ (x = q.st ∨ x = q.en) ∧ nmQ qs m = q.nm ∧ (q.st ≠ q.en → (if x = q.st then mvd q.nm true q.en q.room else mvd q.nm false q.st (1 - q.gap)) = .tuple [stD qs m, .str y, .int (prQ qs m)]) := by
  obtain ⟨q, hq, h⟩ := h
  obtain ⟨i, b⟩ := m
  have hq : qs[i]? = some q := hq
  have e1 : nmQ qs (i, b) = q.nm := by unfold nmQ; rw [hq]
  refine ⟨q, hq, ?_, e1, fun hne => ?_⟩
  · rcases h with ⟨_, h, _⟩ | ⟨_, h, _⟩
    · exact .inl h.symm
    · exact .inr h.symm
  · obtain ⟨g1, g2⟩ := mvd_at hq
    rcases h with ⟨h1, h2, h3⟩ | ⟨h1, h2, h3⟩
    · have h1 : b = true := h1
      subst h1
      rw [if_pos h2.symm, g1]
      show mvD qs (i, true) = _
      unfold mvD far
      rw [hq, ← h3]
      rfl
    · have h1 : b = false := h1
      subst h1
      rw [if_neg (by rw [← h2]; exact hne.symm), g2]
      show mvD qs (i, false) = _
      unfold mvD far
      rw [hq, ← h3]
      rfl
theorem refs_of {K : PySem.W.Frag} {H : Hp} {fb : Bool} {qs : List QD} {xs : List V} (hl : xs.length = qs.length) (h : ∀ (i : Nat) (v : V), xs[i]? = some v → ∃ (q : QD) (a : Addr), qs[i]? = some q ∧ v = .ref a ∧ SqF fb K H a [.str q.nm, .str q.st, .str q.en, .int q.room, .int q.gap]) : ∃ als : List Addr, xs = als.map V.ref ∧ als.length = qs.length := by
  have key : ∀ xs : List V, (∀ v ∈ xs, ∃ a : Addr, v = .ref a) → ∃ als : List Addr, xs = als.map V.ref := by
    intro xs
    induction xs with
    | nil => exact fun _ => ⟨[], rfl⟩
    | cons v xs ih =>
      intro h
      obtain ⟨a, rfl⟩ := h v List.mem_cons_self
      obtain ⟨als, rfl⟩ := ih fun x hx => h x (List.mem_cons_of_mem _ hx)
      exact ⟨a :: als, rfl⟩
  obtain ⟨als, e⟩ := key xs fun v hv => by
    obtain ⟨i, hi, e⟩ := List.getElem_of_mem hv
    obtain ⟨_, a, _, e2, _⟩ := h i v (by rw [List.getElem?_eq_getElem hi, e])
    exact ⟨a, e2⟩
  refine ⟨als, e, ?_⟩
  rw [← hl, e, List.length_map]
/-- {queue[0]: queue for queue in a row of queues} -/
theorem dc_rows {K : PySem.W.Frag} {tl : TE} {j : Nat} {vs : List Nat} {σ : L2.St} {H H0 : Hp} {Q : VK} {a : Addr} {fb : Bool} {als : List Addr} {qs : List QD} (hl : als.length = qs.length) (hl2 : qs.length ≤ 1000) (hn : (qs.map QD.nm).Nodup)
    (ht : ∀ R' : VK, R' (.ref a) H0 → tl σ H R') (hs : SqF fb K H0 a (als.map V.ref)) (hq : ∀ (i : Nat) (v : V), (als.map V.ref)[i]? = some v → ∃ (q : QD) (a : Addr), qs[i]? = some q ∧ v = .ref a ∧ SqF fb K H0 a [.str q.nm, .str q.st, .str q.en, .int q.room, .int q.gap])
    (hw : ∀ x, wipe ((wipe σ vs).set j (some x)) vs = wipe σ vs) (hj : ∀ x : V, ((wipe σ vs).set j (some x))[j]? = some (some x))
    (q : ∀ D H1, Same H0 H1 → H0 D = none → H1 D = some (.dK (kvl (qs.map QD.nm) als)) → Q (.ref D) H1) : tDcX (iSeq K tl) (gName j) tYes (tOp (rIxF K) (tVar j) (tC (.int 0))) (tVar j) vs σ H Q := by
  refine dc_of ?_
  refine iSeq_at ht hs fun J w D hD => ?_
  refine dc_it w (fun i H1 => Same H0 H1 ∧ H1 D = some (.dK (kvl ((qs.map QD.nm).take i) (als.take i)))) ⟨.upd hD, upd_same⟩ (fun i H1 _ p => p.1.sqF hs) (fun i x H1 H1' hi p y => ?_) (fun H1 p => ?_)
  · obtain ⟨s1, h1⟩ := p
    obtain ⟨rfl, hx⟩ := y
    obtain ⟨qd, aq, e1, rfl, e2⟩ := hq i x hx
    rw [List.getElem?_map] at hx
    have e3 : als[i]? = some aq := by
      cases e : als[i]? with
      | none =>
        rw [e] at hx
        cases hx
      | some b =>
        rw [e] at hx
        cases hx
        rfl
    have e4 : (qs.map QD.nm)[i]? = some qd.nm := by rw [List.getElem?_map, e1]; rfl
    have hil := (List.getElem?_eq_some_iff.mp e1).1
    refine ⟨hw _, ?_⟩
    dsimp only [tYes]
    refine iteT ?_
    refine ⟨_, hj _, rIxF_at (s1.sqF e2) (atI_nat (j := 0) rfl) ?_⟩
    refine ⟨_, hj _, _, .inr qd.nm, rfl, h1, ?_, s1.mut hD, ?_⟩
    · unfold kvl
      rw [List.length_map, List.length_zip, List.length_take]
      exact szL (by omega)
    · rw [upd_same, putK_new _ (valV_kvl_no fun hz => ?_), ← kvl_push (by rw [List.length_take, List.length_take, List.length_map]; omega), List.take_add_one, List.take_add_one, e3, e4]
      · rfl
      · obtain ⟨k, hk1, hk2⟩ := List.mem_take_iff_getElem.mp hz
        have := nd_ix hn e4 (by rw [List.getElem?_eq_getElem (show k < (qs.map QD.nm).length by omega)]; exact congrArg some hk2)
        omega
  · obtain ⟨s1, h1⟩ := p
    rw [List.length_map, List.take_of_length_le (by rw [List.length_map]; omega), List.take_of_length_le (Nat.le_refl _)] at h1
    exact q D H1 s1 hD h1
/-! ### an instance that is being made -/
structure ISt (H0 : Hp) (C x dx : Addr) (H : Hp) (fs : List (Str × V)) : Prop where
  s : Same H0 (cutS [x] H)
  hx : H x = some (.ins C dx fs)
theorem ISt.same {H0 : Hp} {C x dx : Addr} {H H' : Hp} {fs : List (Str × V)} (i : ISt H0 C x dx H fs) (e : Same H H') : ISt H0 C x dx H' fs := ⟨i.s.trans (cutS_mono e), e _ _ i.hx⟩
theorem cut1 {x : Addr} {H : Hp} {o : HO} : cutS [x] (upd H x o) = cutS [x] H := cutS_upd List.mem_cons_self
theorem ISt.put {H0 : Hp} {C x dx : Addr} {H : Hp} {fs fs' : List (Str × V)} (i : ISt H0 C x dx H fs) : ISt H0 C x dx (upd H x (.ins C dx fs')) fs' := ⟨by rw [cut1]; exact i.s, upd_same⟩
def f1 (v1 : V) : List (Str × V) := putF "_net" v1 []
def f2 (v1 v2 : V) : List (Str × V) := putF "_queues" v2 (f1 v1)
def f3 (v1 v2 v3 : V) : List (Str × V) := putF "_steps" v3 (f2 v1 v2)
def f4 (v1 v2 v3 v4 : V) : List (Str × V) := putF "_workers" v4 (f3 v1 v2 v3)
def f5 (v1 v2 v3 v4 v5 : V) : List (Str × V) := putF "_costs" v5 (f4 v1 v2 v3 v4)
theorem putF_len {f : Str} {v : V} : ∀ {fs : List (Str × V)}, (putF f v fs).length ≤ fs.length + 1
  | [] => Nat.le_refl _
  | (g, u) :: fs => by
    unfold putF
    split
    · exact Nat.le_succ _
    · exact Nat.succ_le_succ putF_len
theorem f5_len {v1 v2 v3 v4 v5 : V} : (f1 v1).length ≤ 1 ∧ (f2 v1 v2).length ≤ 2 ∧ (f3 v1 v2 v3).length ≤ 3 ∧ (f4 v1 v2 v3 v4).length ≤ 4 ∧ (f5 v1 v2 v3 v4 v5).length ≤ 5 := by
  have h1 : (f1 v1).length ≤ 1 := putF_len
  have h2 : (f2 v1 v2).length ≤ (f1 v1).length + 1 := putF_len
  have h3 : (f3 v1 v2 v3).length ≤ (f2 v1 v2).length + 1 := putF_len
  have h4 : (f4 v1 v2 v3 v4).length ≤ (f3 v1 v2 v3).length + 1 := putF_len
  have h5 : (f5 v1 v2 v3 v4 v5).length ≤ (f4 v1 v2 v3 v4).length + 1 := putF_len
  exact ⟨h1, by omega, by omega, by omega, by omega⟩
theorem f5_at {v1 v2 v3 v4 v5 : V} : (f5 v1 v2 v3 v4 v5).lookup ("_net" : Str) = some v1 ∧ (f5 v1 v2 v3 v4 v5).lookup ("_queues" : Str) = some v2 ∧ (f5 v1 v2 v3 v4 v5).lookup ("_steps" : Str) = some v3 ∧ (f5 v1 v2 v3 v4 v5).lookup ("_workers" : Str) = some v4 ∧ (f5 v1 v2 v3 v4 v5).lookup ("_costs" : Str) = some v5 := by
  have ne : ∀ a b : Str, (decide (a = b)) = false → ¬ a = b := fun a b h => of_decide_eq_false h
  unfold f5 f4 f3 f2 f1
  simp only [lookup_putF]
  refine ⟨?_, ?_, ?_, ?_, ?_⟩
  · rw [if_neg (ne _ _ (by decide +kernel)), if_neg (ne _ _ (by decide +kernel)), if_neg (ne _ _ (by decide +kernel)), if_neg (ne _ _ (by decide +kernel)), if_pos trivial]
  · rw [if_neg (ne _ _ (by decide +kernel)), if_neg (ne _ _ (by decide +kernel)), if_neg (ne _ _ (by decide +kernel)), if_pos trivial]
  · rw [if_neg (ne _ _ (by decide +kernel)), if_neg (ne _ _ (by decide +kernel)), if_pos trivial]
  · rw [if_neg (ne _ _ (by decide +kernel)), if_pos trivial]
  · rw [if_pos trivial]
theorem f5_no {v1 v2 v3 v4 v5 : V} {m : Str} (h : decide (m ∈ ([("_net" : Str), "_queues", "_steps", "_workers", "_costs"] : List Str)) = false) : (f5 v1 v2 v3 v4 v5).lookup m = none := by
  have h := of_decide_eq_false h
  simp only [List.mem_cons, List.not_mem_nil, or_false, not_or] at h
  obtain ⟨h1, h2, h3, h4, h5⟩ := h
  unfold f5 f4 f3 f2 f1
  simp only [lookup_putF]
  rw [if_neg h5, if_neg h4, if_neg h3, if_neg h2, if_neg h1]
  rfl
theorem f2_at {v1 v2 : V} : (f1 v1).lookup ("_net" : Str) = some v1 ∧ (f2 v1 v2).lookup ("_net" : Str) = some v1 ∧ (f2 v1 v2).lookup ("_queues" : Str) = some v2 := by
  have ne : ∀ a b : Str, (decide (a = b)) = false → ¬ a = b := fun a b h => of_decide_eq_false h
  unfold f2 f1
  simp only [lookup_putF]
  refine ⟨?_, ?_, ?_⟩
  · rw [if_pos trivial]
  · rw [if_neg (ne _ _ (by decide +kernel)), if_pos trivial]
  · rw [if_pos trivial]
/-- a Way: from w over the marks ms, the workers behind w: us -/
structure WayAt (K : PySem.W.Frag) (C : Addr) (H : Hp) (x : Addr) (ws : List Str) (qs : List QD) (w : Str) (us : List Str) (ms : List Mk) : Prop where
  is : ∃ (dx : Addr) (v1 v2 v3 v4 v5 : V), H x = some (.ins C dx (f5 v1 v2 v3 v4 v5)) ∧ Dp K H v1 (netD true ws qs) ∧ Dp K H v2 (.tuple ((ms.map (nmQ qs)).map PyData.str)) ∧ Dp K H v3 (stepsD qs ms) ∧ Dp K H v4 (.tuple ((w :: us).map PyData.str)) ∧ Dp K H v5 (.tuple ((ms.map (prQ qs)).map PyData.int))
theorem WayAt.same {K : PySem.W.Frag} {C : Addr} {H H' : Hp} {x : Addr} {ws : List Str} {qs : List QD} {w : Str} {us : List Str} {ms : List Mk} (h : WayAt K C H x ws qs w us ms) (e : Same H H') : WayAt K C H' x ws qs w us ms := by
  obtain ⟨dx, v1, v2, v3, v4, v5, h0, h1, h2, h3, h4, h5⟩ := h.is
  exact ⟨dx, v1, v2, v3, v4, v5, e _ _ h0, e.dp h1, e.dp h2, e.dp h3, e.dp h4, e.dp h5⟩
structure TWay (K : PySem.W.Frag) (C : Addr) : Prop where
  cl : Cls K C
  n1 : NoAttr K C "_net"
  n2 : NoAttr K C "_queues"
  n3 : NoAttr K C "_steps"
  n4 : NoAttr K C "_workers"
  n5 : NoAttr K C "_costs"
section
variable {P : Program} {w : World} {K : PySem.W.Frag} {mg : Str → Option Value} {base : Heap}
def spCost (K : PySem.W.Frag) (C : Addr) : Sp := fun vs H Q _ => ∃ (x : Addr) (ws : List Str) (qs : List QD) (w : Str) (us : List Str) (ms : List Mk), vs = [.ref x] ∧ WayAt K C H x ws qs w us ms ∧ Q (.int (costQ qs ms)) H
theorem ok_Way_cost {f C : Addr} {fd : FuncData} {k : Nat} (F : Fun K "cost" "Way.cost" s_Way_cost f fd) (T_Way : TWay K C) (m_sum : mg "sum" = none) : FnOk P w K mg base CX0 (k + 1) f fd ["self"] (spCost K C) := by
  refine F.ok sc_Way_cost (fun vs H Q E h => ?_) (fun cdv A outer s0 H vs Q E hr h => ?_)
  · obtain ⟨x, ws, qs, w, us, ms, rfl, _⟩ := h
    rfl
  · obtain ⟨x, ws, qs, w, us, ms, rfl, hw, q⟩ := h
    refine ⟨_, (pss_one (ps_ret (pe_callB (cr_sumT rfl) (by rfl) m_sum (by decide +kernel) (pa_cons (pe_fld (pv 0) rfl) pa_nil)))), ?_⟩
    obtain ⟨dx, v1, v2, v3, v4, v5, h0, h1, h2, h3, h4, h5⟩ := hw.is
    obtain ⟨a, xs, rfl, ha, hx⟩ := Dp.seq_of (f := true) (show Dp K H v5 (seqD true _) from h5)
    have e := dpa_ints_of hx
    subst e
    exact ⟨_, rfl, x, C, dx, _, _, rfl, h0, T_Way.cl, T_Way.n5, f5_at.2.2.2.2, a, _, rfl, ha, q⟩
end
end Jl

set_option Elab.async false
set_option linter.all false
set_option maxRecDepth 100000
set_option maxHeartbeats 1000000
set_option pp.maxSteps 300
namespace Jl
open PySem PySem.Spec PyProof.Rows L2
open Evl (sz_of sz_lt)
local macro_rules | `(tactic| walk_at "at") => `(tactic| first | exact box0 | exact box1 | exact box2)
local macro_rules | `(tactic| walk_at "sq") => `(tactic| first | (show SqL _ _ _ _; assumption) | (show SqT _ _ _ _; assumption) | (show _ = some _; assumption))
local macro_rules | `(tactic| walk_at "side") => `(tactic| first
  | (show (0 : Int) < _; decide)
  | (show (0 : Int) < _; omega)
  | exact ⟨by decide, by decide, by decide⟩
  | exact sz_of (Nat.le_of_ble_eq_true rfl)
  | exact rfl
  | exact Or.inl (by decide)
  | exact Or.inr (by decide)
  | exact Or.inr ⟨by omega, by omega⟩
  | exact Or.inl ⟨by omega, by omega⟩
  | exact ⟨by decide, by decide +kernel⟩)
local macro_rules | `(tactic| walk_at "ev1") => `(tactic| first
  | refine ⟨_, rfl, ?_⟩
  | refine ⟨_, _, rfl, rfl, ?_⟩
  | refine ⟨_, _, _, _, rfl, rfl, (by walk_at "sq"), (by walk_at "at"), ?_⟩
  | refine ⟨_, _, rfl, (by walk_at "sq"), ?_⟩
  | refine ⟨_, _, rfl, Or.inl (by walk_at "sq"), ?_⟩
  | refine ⟨_, _, rfl, Or.inr (by walk_at "sq"), ?_⟩
  | refine Or.inl ⟨_, rfl, ?_⟩
  | refine Or.inr ⟨_, rfl, ?_⟩
  | refine ⟨(by walk_at "side"), ?_⟩
  | refine ⟨.inl ⟨rfl, _, (by walk_at "sq")⟩, ?_⟩
  | refine ⟨_, _, rfl, ?_⟩)
local macro_rules | `(tactic| walk_at "nrm") => `(tactic| dsimp only [tNil, tCons, tC, tCB])
local macro_rules | `(tactic| walk_at "ev") => `(tactic| repeat (walk_at "ev1"))
theorem okD_up : ∀ {n : Nat} {d : PyData}, okD n d → okD (n + 1) d
  | 0, _, h => absurd h id
  | n + 1, .list ds, h => ⟨h.1, fun d hd => okD_up (h.2 d hd)⟩
  | n + 1, .tuple ds, h => ⟨h.1, fun d hd => okD_up (h.2 d hd)⟩
  | n + 1, .none, _ => trivial
  | n + 1, .bool _, _ => trivial
  | n + 1, .int _, _ => trivial
  | n + 1, .str _, _ => trivial
theorem asg_of0 {te : TE} {i : Nat} {u : TS} {D : Ends} {σ : L2.St} {H : Hp} (h : te σ H fun v H1 => u D (σ.set i (some v)) H1) : tSeq (tAsg te (gName i)) u D σ H := h
/-- the lists of a Way that is being made -/
structure WSI (K : PySem.W.Frag) (H5 : Hp) (ls lw lc x : Addr) (qs : List QD) (vs : List Str) (ms : List Mk) (i : Nat) (H : Hp) (sv : List V) : Prop where
  hs : H ls = some (.lst sv)
  hw : H lw = some (.lst ((vs.take (i + 1)).map V.str))
  hc : H lc = some (.lst (((ms.take i).map (prQ qs)).map V.int))
  ds : DpAll K (cutS [ls, lw, lc, x] H) sv ((ms.take i).map (stD qs))
  sS : Same (cutS [x] H5) (cutS [ls, lw, lc, x] H)
  xx : ∀ o, H5 x = some o → H x = some o
theorem WSI.same {K : PySem.W.Frag} {H5 : Hp} {ls lw lc x : Addr} {qs : List QD} {vs : List Str} {ms : List Mk} {i : Nat} {H H' : Hp} {sv : List V} (w : WSI K H5 ls lw lc x qs vs ms i H sv) (e : Same H H') : WSI K H5 ls lw lc x qs vs ms i H' sv :=
  ⟨e _ _ w.hs, e _ _ w.hw, e _ _ w.hc, (cutS_mono e).dpa w.ds, w.sS.trans (cutS_mono e), fun o h => e _ _ (w.xx o h)⟩
theorem WSI.next {K : PySem.W.Frag} {H5 : Hp} {ls lw lc x : Addr} {qs : List QD} {vs : List Str} {ms : List Mk} {i : Nat} {H : Hp} {sv : List V} {m : Mk} {b : Str} {v1 : V} (w : WSI K H5 ls lw lc x qs vs ms i H sv) (n1 : lw ≠ ls) (n2 : lc ≠ lw) (n3 : lc ≠ ls) (hx : ls ≠ x ∧ lw ≠ x ∧ lc ≠ x) (hm : ms[i]? = some m) (hb : vs[i + 1]? = some b) (hd : Dp K (cutS [ls, lw, lc, x] H) v1 (stD qs m)) :
    WSI K H5 ls lw lc x qs vs ms (i + 1) (upd (upd (upd H ls (.lst (sv ++ [v1]))) lw (.lst ((vs.take (i + 1)).map V.str ++ [.str b]))) lc (.lst (((ms.take i).map (prQ qs)).map V.int ++ [.int (prQ qs m)]))) (sv ++ [v1]) := by
  have c : ∀ {H : Hp} {a : Addr} {o : HO}, a ∈ [ls, lw, lc, x] → cutS [ls, lw, lc, x] (upd H a o) = cutS [ls, lw, lc, x] H := fun h => cutS_upd h
  have e : cutS [ls, lw, lc, x] (upd (upd (upd H ls (.lst (sv ++ [v1]))) lw (.lst ((vs.take (i + 1)).map V.str ++ [.str b]))) lc (.lst (((ms.take i).map (prQ qs)).map V.int ++ [.int (prQ qs m)]))) = cutS [ls, lw, lc, x] H := by
    rw [c (by simp), c (by simp), c (by simp)]
  refine ⟨?_, ?_, ?_, ?_, ?_, fun o h => ?_⟩
  · rw [upd_ne n3.symm, upd_ne n1.symm, upd_same]
  · rw [upd_ne n2.symm, upd_same, List.take_add_one (l := vs) (i := i + 1), hb, List.map_append]
    rfl
  · rw [upd_same, List.take_add_one (l := ms) (i := i), hm, List.map_append, List.map_append]
    rfl
  · rw [e, List.take_add_one, hm, List.map_append]
    exact dpa_app w.ds (dpa_one hd)
  · rw [e]
    exact w.sS
  · rw [upd_ne hx.2.2.symm, upd_ne hx.2.1.symm, upd_ne hx.1.symm]
    exact w.xx o h
theorem sqt_mut {K : PySem.W.Frag} {H : Hp} {a t : Addr} {fv fv2 xs : List V} (h1 : H a = some (.lst fv)) (h : SqT K H t xs) : SqT K (upd H a (.lst fv2)) t xs := by
  rcases h with (h | ⟨o, h⟩) | h
  · refine .inl (.inl ?_)
    rw [upd_ne (fun z => by rw [z, h1] at h; cases h)]
    exact h
  · refine .inl (.inr ⟨o, ?_⟩)
    rw [upd_ne (fun z => by rw [z, h1] at h; cases h)]
    exact h
  · exact .inr h
section
variable {P : Program} {w : World} {K : PySem.W.Frag} {mg : Str → Option Value} {base : Heap}
def spInit (K : PySem.W.Frag) (C : Addr) : Sp := fun vs H Q _ => ∃ (H0 : Hp) (x dx : Addr) (v qv : V) (fb fq : Bool) (ws : List Str) (qs : List QD) (w : Str) (us : List Str) (ms : List Mk), vs = [.ref x, v, .str w, qv] ∧ Same H0 H ∧ H0 x = none ∧ H x = some (.ins C dx []) ∧ Dp K H0 v (netD fb ws qs) ∧ Dp K H0 qv (seqD fq ((ms.map (nmQ qs)).map PyData.str)) ∧
  NetG ws qs ∧ w ∈ ws ∧ path qs (w :: us) ms ∧ ws.length ≤ 60 ∧ qs.length ≤ 60 ∧ ms.length ≤ 100000 ∧ ∀ H', Same H0 H' → WayAt K C H' x ws qs w us ms → Q .non H'
theorem ok_Way_init {f C fF fC fS : Addr} {fd fdF fdC fdS : FuncData} {k : Nat} (F : Fun K "__init__" "Way.__init__" s_Way_init f fd) (T_Way : TWay K C)
    (G_frozen : FnOk P w K mg base CX0 k fF fdF ["thing"] (spFrozen K 5)) (g_frozen : mg "frozen" = some (.ref fF)) (F_frozen : Fun K "frozen" "frozen" s_frozen fF fdF) (b_frozen : Binds K fdF ["thing"] [])
    (G_check_worker : FnOk P w K mg base CX0 k fC fdC ["net", "worker"] (spCheck K)) (g_check_worker : mg "check_worker" = some (.ref fC)) (F_check_worker : Fun K "check_worker" "check_worker" s_check_worker fC fdC) (b_check_worker : Binds K fdC ["net", "worker"] [])
    (G_step_over : FnOk P w K mg base CX0 k fS fdS ["queue", "place"] (spStep K)) (g_step_over : mg "step_over" = some (.ref fS)) (F_step_over : Fun K "step_over" "step_over" s_step_over fS fdS) (b_step_over : Binds K fdS ["queue", "place"] [])
    (m_tuple : mg "tuple" = none) (m_enumerate : mg "enumerate" = none) : FnOk P w K mg base CX0 (k + 1) f fd ["self", "net", "start", "queues"] (spInit K C) := by
  refine F.ok sc_Way_init (fun vs H Q E h => ?_) (fun cdv A outer s0 H vs Q E hr h => ?_)
  · obtain ⟨H0, x, dx, v, qv, fb, fq, ws, qs, w, us, ms, rfl, _⟩ := h
    rfl
  · obtain ⟨H0, x, dx, v, qv, fb, fq, ws, qs, w, us, ms, rfl, s00, hx0, hx, hD, hQv, hG, hw, hp, w6, q6, m6, q⟩ := h
    have hu := hu_of hr
    refine ⟨_, (pss_cons (ps_fld (pv 0) (pe_call G_frozen hr (by rfl) g_frozen F_frozen.kp b_frozen .nil pass0 (pa_cons (pv 1) pa_nil)) rfl) 
    (pss_cons (ps_fld (pv 0) (pe_callTy call_tuple_of (by rfl) m_tuple (by decide +kernel) (pa_cons (pv 3) pa_nil)) rfl) 
    (pss_cons (ps_expr (pe_call G_check_worker hr (by rfl) g_check_worker F_check_worker.kp b_check_worker .nil pass0 (pa_cons (pe_fld (pv 0) rfl) (pa_cons (pv 2) pa_nil)))) 
    (pss_cons (ps_setDcX (ps_setDc (i := 4) (own := [("queue", 11)]) (g := gName 11) (tt := tYes) (tk := tOp (rIxF K) (tVar 11) (tC (.int 0))) rfl sc_Way_init.nd rfl rfl (swd_true rfl rfl rfl (by decide +kernel)) (pi_seq (pe_ix ix_lt (pe_fld (pv 0) rfl) pe_int (fun _ _ => rfl))) (blkOk_by (own := [("queue", 11)]) (N := sc_Way_init_N) (sc := defScope s_Way_init) (by decide +kernel)) (fun _ _ _ _ _ => pg_name (i := 11) sc_Way_init.nd rfl (Or.inl rfl)) (fun _ _ _ _ _ => pts_nil) (fun _ _ _ _ _ => (pe_ix ix_lt (pv 11) pe_int (fun _ _ => rfl))) (fun _ _ _ _ _ => (pv 11)))) 
    (pss_cons (ps_set (i := 5) sc_Way_init.nd rfl (Or.inl rfl) (pe_lst pa_nil)) 
    (pss_cons (ps_set (i := 6) sc_Way_init.nd rfl (Or.inl rfl) (pe_lst (pa_cons (pv 2) pa_nil))) 
    (pss_cons (ps_set (i := 7) sc_Way_init.nd rfl (Or.inl rfl) (pe_lst pa_nil)) 
    (pss_cons (ps_forX (ps_for PassesOwn.never rfl (pi_enumT (by rfl) m_enumerate (pa_cons (pe_fld (pv 0) rfl) pa_nil)) (pg_tup rfl (pgs_cons (pg_name (i := 8) sc_Way_init.nd rfl (Or.inl rfl)) (pgs_cons (pg_name (i := 9) sc_Way_init.nd rfl (Or.inl rfl)) pgs_nil))) 
      (pss_cons (ps_if (pt_cmp (pc_dnotin hu (pv 9) (pv 4))) (pss_one ps_no) pss_nil) 
      (pss_cons (ps_set (i := 10) sc_Way_init.nd rfl (Or.inl rfl) (pe_call G_step_over hr (by rfl) g_step_over F_step_over.kp b_step_over .nil pass0 (pa_cons (pe_dget hu (pv 4) (pv 9) (fun _ _ => rfl)) (pa_cons (pe_ix ix_list (pv 6) (pe_un un_neg pe_int) (fun _ _ => rfl)) pa_nil)))) 
      (pss_cons (ps_if (pt_cmpR op_isN (pv 10) pe_non (nomark _)) (pss_one ps_no) pss_nil) 
      (pss_cons (ps_expr (pe_bm PySem.F.plainAttrs_list PySem.F.slot_list_append PySem.F.type_list_append mt_append (pv 5) (pa_cons (pe_ix ix_lt (pv 10) pe_int (fun _ _ => rfl)) pa_nil))) 
      (pss_cons (ps_expr (pe_bm PySem.F.plainAttrs_list PySem.F.slot_list_append PySem.F.type_list_append mt_append (pv 6) (pa_cons (pe_ix ix_lt (pv 10) pe_int (fun _ _ => rfl)) pa_nil))) 
      (pss_one (ps_expr (pe_bm PySem.F.plainAttrs_list PySem.F.slot_list_append PySem.F.type_list_append mt_append (pv 7) (pa_cons (pe_ix ix_lt (pv 10) pe_int (fun _ _ => rfl)) pa_nil))))))))))) 
    (pss_cons (ps_fld (pv 0) (pe_callTy call_tuple_of (by rfl) m_tuple (by decide +kernel) (pa_cons (pv 5) pa_nil)) rfl) 
    (pss_cons (ps_fld (pv 0) (pe_callTy call_tuple_of (by rfl) m_tuple (by decide +kernel) (pa_cons (pv 6) pa_nil)) rfl) 
    (pss_one (ps_fld (pv 0) (pe_callTy call_tuple_of (by rfl) m_tuple (by decide +kernel) (pa_cons (pv 7) pa_nil)) rfl)))))))))))), ?_⟩
    have I0 : ISt H0 C x dx H [] := ⟨fun a o ha => by
      rw [cutS_out (not1 fun z => by rw [z, hx0] at ha; cases ha)]
      exact s00 _ _ ha, hx⟩
    have fin : ∀ {Hx fs}, ISt H0 C x dx Hx fs → Same H0 Hx := fun i => i.s.trans cutS_le
    refine ⟨_, rfl, v, netD fb ws qs, [x], rfl, Trk.cons Trk.nil hx, I0.s.dp hD, okD_up (net_okD w6 q6), fun H1 v1 s1 d1 => ?_⟩
    rw [frz_net] at d1
    have I1 := I0.same s1
    refine ⟨_, rfl, x, C, dx, _, rfl, I1.hx, T_Way.cl, T_Way.n1, by show 0 < 1000; decide, ?_⟩
    rw [← cut1 (x := x) (o := .ins C dx (f1 v1))] at d1
    have I2 := I1.put (fs' := f1 v1)
    rw [show upd H1 x (.ins C dx (putF ("_net" : Str) v1 [])) = upd H1 x (.ins C dx (f1 v1)) from rfl]
    generalize upd H1 x (.ins C dx (f1 v1)) = H2 at I2 d1 ⊢
    clear I0 I1 s1 hx s00
    obtain ⟨qa, qx, rfl, hqs, hqx⟩ := Dp.seq_of hQv
    have eqx := dpa_strs_of hqx
    subst eqx
    dsimp only
    refine seq_byC (fun σ H4 => σ = [some (.ref x), some v, some (.str w), some (.ref qa), none, none, none, none, none, none, none, none] ∧ ∃ v2, ISt H0 C x dx H4 (f2 v1 v2) ∧ Dp K (cutS [x] H4) v1 (netD true ws qs) ∧ Dp K (cutS [x] H4) v2 (.tuple ((ms.map (nmQ qs)).map PyData.str))) (fun σ H4 hh => ?_) (fun D' hD' => ?_)
    rotate_left
    · have put2 : ∀ H3 v2, Same H2 H3 → Dp K (cutS [x] H3) v2 (.tuple ((ms.map (nmQ qs)).map PyData.str)) → D'.nx [some (.ref x), some v, some (.str w), some (.ref qa), none, none, none, none, none, none, none, none] (upd H3 x (.ins C dx (f2 v1 v2))) := fun H3 v2 s3 d2 => hD' _ _ ⟨rfl, v2, (I2.same s3).put, by rw [cut1]; exact (cutS_mono s3).dp d1, by rw [cut1]; exact d2⟩
      refine ⟨_, rfl, ?_⟩
      have last : ∀ H3 v2, Same H2 H3 → Dp K (cutS [x] H3) v2 (.tuple ((ms.map (nmQ qs)).map PyData.str)) → ∃ a C2 dx2 fs, (V.ref x) = .ref a ∧ H3 a = some (.ins C2 dx2 fs) ∧ Cls K C2 ∧ NoAttr K C2 ("_queues" : Str) ∧ fs.length < 1000 ∧ D'.nx [some (.ref x), some v, some (.str w), some (.ref qa), none, none, none, none, none, none, none, none] (upd H3 a (.ins C2 dx2 (putF "_queues" v2 fs))) := fun H3 v2 s3 d2 =>
        ⟨x, C, dx, _, rfl, (I2.same s3).hx, T_Way.cl, T_Way.n2, Nat.lt_of_le_of_lt (f5_len (v2 := v2) (v3 := v2) (v4 := v2) (v5 := v2)).1 (by decide), put2 H3 v2 s3 d2⟩
      cases fq with
      | false =>
        refine ⟨qa, _, rfl, .inl ⟨(fin I2).sqF hqs, fun l hl => ⟨_, rfl, last _ _ (.upd hl) ?_⟩⟩⟩
        exact .tup (sqt_of (cutS_at upd_same (not1 fun z => by rw [z, I2.hx] at hl; cases hl))) dpa_strs
      | true => exact ⟨qa, _, rfl, .inr ⟨(fin I2).sqF hqs, _, rfl, last _ _ (fun _ _ e => e) (.tup (I2.s.sqF hqs) dpa_strs)⟩⟩
    obtain ⟨rfl, v2, I4, d1, d2⟩ := hh
    clear I2 hqs hqx
    obtain ⟨qb, qy, rfl, hq2, hqy⟩ := Dp.seq_of (f := true) d2
    have e := dpa_strs_of hqy
    subst e
    have hq2 : SqT K (cutS [x] H4) qb _ := hq2
    clear hqy
    obtain ⟨a0, a1, a2, xq, rfl, N4⟩ := netAt d1
    have i1 : atI [V.ref a1, V.ref a2] 1 = some (.ref a2) := atI_nat (j := 1) rfl
    have fld1 : ∀ {Hx : Hp} {Q : VK}, Same H4 Hx → Q (.ref a0) Hx → tFld K (tVar 0) ("_net" : Str) [some (.ref x), some v, some (.str w), some (.ref qa), none, none, none, none, none, none, none, none] Hx Q := fun e q => ⟨_, rfl, x, C, dx, _, _, rfl, e _ _ I4.hx, T_Way.cl, T_Way.n1, f2_at.2.1, q⟩
    refine ⟨_, rfl, x, C, dx, _, _, rfl, I4.hx, T_Way.cl, T_Way.n1, f2_at.2.1, ?_⟩
    refine ⟨_, rfl, .ref a0, true, ws, qs, w, rfl, cutS_le.dp d1, hw, ?_⟩
    obtain ⟨als, rfl, hal⟩ := refs_of N4.ll N4.hq
    refine asg_of0 ?_
    refine dc_rows (K := K) (als := als) (qs := qs) hal (by omega) hG.nn (fun R' r => fld1 (fun _ _ e => e) (rIxF_at (cutS_le.sqF N4.h0) i1 r)) (cutS_le.sqF N4.h2) (fun i v h => by
      obtain ⟨q, a, e1, e2, e3⟩ := N4.hq i v h
      exact ⟨q, a, e1, e2, cutS_le.sqF e3⟩) (fun _ => rfl) (fun _ => rfl) (fun D H5 s5 hD0 hD5 => ?_)
    have I5 := I4.same s5
    have s45 := cutS_mono (S := [x]) s5
    replace d1 := s45.dp d1
    replace d2 := s45.dp d2
    replace hq2 := s45.sqT hq2
    have N5 := N4.same s45
    have nD : D ≠ x := fun z => by
      rw [z, I5.hx] at hD5
      cases hD5
    have hDc : cutS [x] H5 D = some (.dK (kvl (qs.map QD.nm) als)) := cutS_at hD5 (not1 nD)
    clear I4 N4 fld1 s45 s5 hD0 hD5
    dsimp only [List.set]
    walk_at "ev"
    intro ls hls
    walk_at "ev"
    intro lw hlw
    walk_at "ev"
    intro lc hlc
    have n1 : lw ≠ ls := fun z => by
      rw [z, upd_same] at hlw
      cases hlw
    have n2 : lc ≠ lw := fun z => by
      rw [z, upd_same] at hlc
      cases hlc
    rw [upd_ne n1] at hlw
    have n3 : lc ≠ ls := fun z => by
      rw [upd_ne n2, z, upd_same] at hlc
      cases hlc
    rw [upd_ne n2, upd_ne n3] at hlc
    have nx : ∀ a, H5 a = none → a ≠ x := fun a h z => by
      rw [z, I5.hx] at h
      cases h
    have w0 : WSI K H5 ls lw lc x qs (w :: us) ms 0 (upd (upd (upd H5 ls (.lst [])) lw (.lst [V.str w])) lc (.lst [])) [] := by
      have up : ∀ b o, H5 b = some o → (upd (upd (upd H5 ls (.lst [])) lw (.lst [V.str w])) lc (.lst [])) b = some o := fun b o h => by
        rw [upd_ne (ne_of_none h hlc), upd_ne (ne_of_none h hlw), upd_ne (ne_of_none h hls)]
        exact h
      refine ⟨?_, ?_, upd_same, .nil, fun b o h => ?_, fun o h => up x o h⟩
      · rw [upd_ne n3.symm, upd_ne n1.symm]
        exact upd_same
      · rw [upd_ne n2.symm]
        exact upd_same
      · obtain ⟨h1, h2⟩ := cutS_some h
        rw [cutS_out (fun z => ?_)]
        · exact up b o h2
        · rcases List.mem_cons.mp z with z | z
          · rw [z, hls] at h2
            cases h2
          · rcases List.mem_cons.mp z with z | z
            · rw [z, hlw] at h2
              cases h2
            · rcases List.mem_cons.mp z with z | z
              · rw [z, hlc] at h2
                cases h2
              · exact h1 z
    generalize upd (upd (upd H5 ls (.lst [])) lw (.lst [V.str w])) lc (.lst []) = H8 at w0 ⊢
    have hpl := path_len hp
    have xd : ∀ {i Hx sv}, WSI K H5 ls lw lc x qs (w :: us) ms i Hx sv → Hx x = some (.ins C dx (f2 (.ref a0) (.ref qb))) := fun wx => wx.xx _ I5.hx
    have up : ∀ {i Hx sv}, WSI K H5 ls lw lc x qs (w :: us) ms i Hx sv → Same (cutS [x] H5) Hx := fun wx => wx.sS.trans cutS_le
    have tr4 : ∀ {i Hx sv}, WSI K H5 ls lw lc x qs (w :: us) ms i Hx sv → Trk [ls, lw, lc, x] Hx := fun wx => Trk.cons (Trk.cons (Trk.cons (Trk.cons Trk.nil (xd wx)) wx.hc) wx.hw) wx.hs
    dsimp only [gName]
    refine seq_byC (fun σ Hz => ∃ (y8 y9 y10 : Option V) (sv : List V), σ = [some (.ref x), some v, some (.str w), some (.ref qa), some (.ref D), some (.ref ls), some (.ref lw), some (.ref lc), y8, y9, y10, none] ∧ WSI K H5 ls lw lc x qs (w :: us) ms ms.length Hz sv) (fun σ Hz hh => ?_) (fun D' hD' => ?_)
    rotate_left
    · refine for_of ?_
      refine ⟨_, rfl, x, C, dx, _, _, rfl, xd w0, T_Way.cl, T_Way.n2, f2_at.2.2, ?_⟩
      refine ⟨qb, _, rfl, (up w0).sqT hq2, ?_⟩
      refine forR_it (walk_enumT (K := K) (a := qb) (xs := (ms.map (nmQ qs)).map V.str)) (fun i σ Hc => ∃ (y8 y9 y10 : Option V) (sv : List V), σ = [some (.ref x), some v, some (.str w), some (.ref qa), some (.ref D), some (.ref ls), some (.ref lw), some (.ref lc), y8, y9, y10, none] ∧ WSI K H5 ls lw lc x qs (w :: us) ms i Hc sv) ⟨_, _, _, _, rfl, w0⟩ (fun i σ Hc _ hh => ?_) (fun i vv σ Hc Hc' hi hh y => ?_) (fun σ Hc hh => ?_)
      · obtain ⟨y8, y9, y10, sv, rfl, wx⟩ := hh
        exact (up wx).sqT hq2
      · obtain ⟨y8, y9, y10, sv, rfl, wx⟩ := hh
        obtain ⟨T, x1, x2, rfl, hTn, rfl, g1, g2⟩ := y
        cases g1
        rw [List.length_map, List.length_map] at hi
        have hm := List.getElem?_eq_getElem hi
        generalize ms[i] = m at hm
        have g2 : ((ms.map (nmQ qs)).map V.str)[i]? = some x2 := g2
        rw [List.getElem?_map, List.getElem?_map, hm] at g2
        cases g2
        obtain ⟨a, b, ha, hb, hlk⟩ := path_get hp hm
        obtain ⟨qd, hqd, hor, hnm, hmv⟩ := link_at hlk
        have hne := (hG.q1 qd (List.mem_of_getElem? hqd)).2.2
        replace hmv := hmv hne
        have sT : Same Hc (upd Hc T (.tup [.int (i : Nat), .str (nmQ qs m)])) := .upd hTn
        have hT1 : SqT K (upd Hc T (.tup [.int (i : Nat), .str (nmQ qs m)])) T [.int (i : Nat), .str (nmQ qs m)] := sqt_of upd_same
        replace wx := wx.same sT
        generalize upd Hc T (.tup [.int (i : Nat), .str (nmQ qs m)]) = Hd at wx hT1 ⊢
        refine ⟨T, _, rfl, hT1, rfl, _, _, rfl, _, _, rfl, rfl, ?_⟩
        have hDd : Hd D = some (.dK (kvl (qs.map QD.nm) als)) := up wx _ _ hDc
        have hal2 : als[m.1]? = some als[m.1]! := by
          have : m.1 < als.length := by rw [hal]; exact (List.getElem?_eq_some_iff.mp hqd).1
          rw [List.getElem?_eq_getElem this, getElem!_pos als m.1 this]
        generalize als[m.1]! = aq at hal2
        have dg : DGet Hd D (.str (nmQ qs m)) (some (.ref aq)) := by
          rw [hnm]
          exact dget_kvl hG.nn (by rw [List.getElem?_map, hqd]; rfl) hal2 hDd
        have hrow : SqT K (cutS [x] H5) aq [.str qd.nm, .str qd.st, .str qd.en, .int qd.room, .int qd.gap] := by
          obtain ⟨q', a', e1, e2, e3⟩ := N5.hq m.1 (.ref aq) (by rw [List.getElem?_map, hal2]; rfl)
          rw [hqd] at e1
          cases e1
          cases e2
          exact e3
        refine ⟨_, rfl, _, rfl, D, _, rfl, dg, ?_⟩
        refine ⟨_, rfl, iteF ?_⟩
        have hal3 : ((w :: us).take (i + 1)).length = i + 1 := by rw [List.length_take]; omega
        have hat : atI (((w :: us).take (i + 1)).map V.str) (-1) = some (.str a) := atI_end (by rw [List.length_map, hal3]; omega) (by rw [List.length_map, hal3, List.getElem?_map, List.getElem?_take_of_lt (by omega), show i + 1 - 1 = i by omega, ha]; rfl)
        refine ⟨_, rfl, _, rfl, D, _, rfl, dg, ?_⟩
        walk_at "ev"
        refine ⟨lw, _, _, _, rfl, rfl, sql_of wx.hw, hat, ?_⟩
        refine ⟨aq, true, qd.nm, qd.st, qd.en, qd.room, qd.gap, a, [ls, lw, lc, x], rfl, (up wx).sqT hrow, tr4 wx, hne, hor, fun H9 mv s9 d9 => ?_⟩
        rw [hmv] at d9
        obtain ⟨t, xt, rfl, hts, hta⟩ := Dp.seq_of (f := true) d9
        have hts : SqT K H9 t xt := cutS_le.sqT hts
        cases hta with
        | cons k1 hta =>
          cases hta with
          | cons k2 hta =>
            cases hta with
            | cons k3 hta =>
              cases hta
              cases k2
              cases k3
              have w9 := wx.same s9
              have lsv := dpa_len w9.ds
              rw [List.length_map, List.length_take] at lsv
              have hx3 : ls ≠ x ∧ lw ≠ x ∧ lc ≠ x := ⟨nx _ hls, nx _ hlw, nx _ hlc⟩
              walk_at "ev"
              refine ⟨.inl ⟨rfl, _, sql_of w9.hs⟩, ?_⟩
              refine ⟨_, rfl, rIxF_at (f := true) hts (atI_nat (j := 0) rfl) ?_⟩
              refine ⟨ls, _, _, rfl, rfl, w9.hs, szL (by omega), ?_⟩
              have na : ∀ {o : HO}, (upd H9 ls o) lw = some (.lst (((w :: us).take (i + 1)).map V.str)) := fun {o} => by rw [upd_ne n1]; exact w9.hw
              refine ⟨_, rfl, .inl ⟨rfl, _, sql_of na⟩, ?_⟩
              refine ⟨_, rfl, rIxF_at (f := true) (sqt_mut w9.hs hts) (atI_nat (j := 1) rfl) ?_⟩
              refine ⟨lw, _, _, rfl, rfl, na, szL (by rw [List.length_map, hal3]; omega), ?_⟩
              have nb : ∀ {o o' : HO}, (upd (upd H9 ls o) lw o') lc = some (.lst (((ms.take i).map (prQ qs)).map V.int)) := fun {o o'} => by rw [upd_ne n2, upd_ne n3]; exact w9.hc
              refine ⟨_, rfl, .inl ⟨rfl, _, sql_of nb⟩, ?_⟩
              refine ⟨_, rfl, rIxF_at (f := true) (sqt_mut na (sqt_mut w9.hs hts)) (atI_nat (j := 2) rfl) ?_⟩
              refine ⟨lc, _, _, rfl, rfl, nb, szL (by rw [List.length_map, List.length_map, List.length_take]; omega), ?_⟩
              exact ⟨_, _, _, _, rfl, w9.next n1 n2 n3 hx3 hm hb k1⟩
      · obtain ⟨y8, y9, y10, sv, rfl, wx⟩ := hh
        rw [List.length_map, List.length_map] at wx
        exact hD' _ _ ⟨_, _, _, sv, rfl, wx⟩
    obtain ⟨y8, y9, y10, sv, rfl, wx⟩ := hh
    have hxx := xd wx
    refine ⟨_, rfl, ls, _, rfl, .inl ⟨sql_of wx.hs, fun p1 hp1 => ?_⟩⟩
    have wy := wx.same (.upd (o := .tup sv) hp1)
    have e1 : (upd Hz p1 (.tup sv)) p1 = some (.tup sv) := upd_same
    have d3 : DpAll K (cutS [ls, lw, lc, x] (upd Hz p1 (.tup sv))) sv ((ms.take ms.length).map (stD qs)) := wy.ds
    have c1 : cutS [ls, lw, lc, x] (upd Hz p1 (.tup sv)) p1 = some (.tup sv) := cutS_new (tr4 wx) hp1
    generalize upd Hz p1 (.tup sv) = Ha at wy e1 d3 c1 ⊢
    have lx : lw ≠ x ∧ lc ≠ x := ⟨nx _ hlw, nx _ hlc⟩
    have cu : ∀ {H : Hp} {o : HO}, cutS [ls, lw, lc, x] (upd H x o) = cutS [ls, lw, lc, x] H := cutS_upd (by simp)
    refine ⟨_, rfl, x, C, dx, _, rfl, xd wy, T_Way.cl, T_Way.n3, Nat.lt_of_le_of_lt (f5_len (v3 := V.non) (v4 := V.non) (v5 := V.non)).2.1 (by decide), ?_⟩
    have b1 : ∀ {o : HO}, (upd Ha x o) lw = some (.lst (((w :: us).take (ms.length + 1)).map V.str)) := fun {o} => by rw [upd_ne lx.1]; exact wy.hw
    have b2 : ∀ {o : HO}, (upd Ha x o) lc = some (.lst (((ms.take ms.length).map (prQ qs)).map V.int)) := fun {o} => by rw [upd_ne lx.2]; exact wy.hc
    have b3 : (upd Ha x (.ins C dx (f3 (.ref a0) (.ref qb) (.ref p1)))) x = some (.ins C dx (f3 (.ref a0) (.ref qb) (.ref p1))) := upd_same
    have b1 := b1 (o := .ins C dx (f3 (.ref a0) (.ref qb) (.ref p1)))
    have b2 := b2 (o := .ins C dx (f3 (.ref a0) (.ref qb) (.ref p1)))
    have b4 := wy.sS
    rw [← cu (o := .ins C dx (f3 (.ref a0) (.ref qb) (.ref p1)))] at b4 d3 c1
    have b5 : Trk [ls, lw, lc, x] (upd Ha x (.ins C dx (f3 (.ref a0) (.ref qb) (.ref p1)))) := (tr4 wy).upd
    rw [show upd Ha x (.ins C dx (putF ("_steps" : Str) (V.ref p1) (f2 (.ref a0) (.ref qb)))) = upd Ha x (.ins C dx (f3 (.ref a0) (.ref qb) (.ref p1))) from rfl]
    generalize upd Ha x (.ins C dx (f3 (.ref a0) (.ref qb) (.ref p1))) = Hb at b1 b2 b3 b4 b5 d3 c1 ⊢
    refine ⟨_, rfl, lw, _, rfl, .inl ⟨sql_of b1, fun p2 hp2 => ?_⟩⟩
    have eW : (w :: us).take (ms.length + 1) = w :: us := List.take_of_length_le (by omega)
    rw [eW]
    have s2 : Same Hb (upd Hb p2 (.tup ((w :: us).map V.str))) := .upd hp2
    have c2 : cutS [ls, lw, lc, x] (upd Hb p2 (.tup ((w :: us).map V.str))) p2 = some (.tup ((w :: us).map V.str)) := cutS_new b5 hp2
    generalize upd Hb p2 (.tup ((w :: us).map V.str)) = Hc at s2 c2 ⊢
    have s2c := cutS_mono (S := [ls, lw, lc, x]) s2
    refine ⟨_, rfl, x, C, dx, _, rfl, s2 _ _ b3, T_Way.cl, T_Way.n4, Nat.lt_of_le_of_lt (f5_len (v4 := V.non) (v5 := V.non)).2.2.1 (by decide), ?_⟩
    rw [show upd Hc x (.ins C dx (putF ("_workers" : Str) (V.ref p2) (f3 (.ref a0) (.ref qb) (.ref p1)))) = upd Hc x (.ins C dx (f4 (.ref a0) (.ref qb) (.ref p1) (.ref p2))) from rfl]
    have h2 : (upd Hc x (.ins C dx (f4 (.ref a0) (.ref qb) (.ref p1) (.ref p2)))) lc = _ := (upd_ne lx.2).trans (s2 _ _ b2)
    have h3 : (upd Hc x (.ins C dx (f4 (.ref a0) (.ref qb) (.ref p1) (.ref p2)))) x = some (.ins C dx (f4 (.ref a0) (.ref qb) (.ref p1) (.ref p2))) := upd_same
    have h5 : Trk [ls, lw, lc, x] (upd Hc x (.ins C dx (f4 (.ref a0) (.ref qb) (.ref p1) (.ref p2)))) := (b5.mono s2).upd
    rw [← cu (o := .ins C dx (f4 (.ref a0) (.ref qb) (.ref p1) (.ref p2)))] at c2
    replace s2c : Same (cutS [ls, lw, lc, x] Hb) (cutS [ls, lw, lc, x] (upd Hc x (.ins C dx (f4 (.ref a0) (.ref qb) (.ref p1) (.ref p2))))) := by
      rw [cu]
      exact s2c
    generalize upd Hc x (.ins C dx (f4 (.ref a0) (.ref qb) (.ref p1) (.ref p2))) = Hd at h2 h3 h5 c2 s2c ⊢
    refine ⟨_, rfl, lc, _, rfl, .inl ⟨sql_of h2, fun p3 hp3 => ?_⟩⟩
    rw [List.take_length]
    have s3 : Same Hd (upd Hd p3 (.tup ((ms.map (prQ qs)).map V.int))) := .upd hp3
    have c3 : cutS [ls, lw, lc, x] (upd Hd p3 (.tup ((ms.map (prQ qs)).map V.int))) p3 = some (.tup ((ms.map (prQ qs)).map V.int)) := cutS_new h5 hp3
    generalize upd Hd p3 (.tup ((ms.map (prQ qs)).map V.int)) = He at s3 c3 ⊢
    have s3c := cutS_mono (S := [ls, lw, lc, x]) s3
    refine ⟨_, rfl, x, C, dx, _, rfl, s3 _ _ h3, T_Way.cl, T_Way.n5, Nat.lt_of_le_of_lt (f5_len (v5 := V.non)).2.2.2.1 (by decide), ?_⟩
    rw [show upd He x (.ins C dx (putF ("_costs" : Str) (V.ref p3) (f4 (.ref a0) (.ref qb) (.ref p1) (.ref p2)))) = upd He x (.ins C dx (f5 (.ref a0) (.ref qb) (.ref p1) (.ref p2) (.ref p3))) from rfl]
    have k3 : (upd He x (.ins C dx (f5 (.ref a0) (.ref qb) (.ref p1) (.ref p2) (.ref p3)))) x = some (.ins C dx (f5 (.ref a0) (.ref qb) (.ref p1) (.ref p2) (.ref p3))) := upd_same
    rw [← cu (o := .ins C dx (f5 (.ref a0) (.ref qb) (.ref p1) (.ref p2) (.ref p3)))] at c3
    replace s3c : Same (cutS [ls, lw, lc, x] Hd) (cutS [ls, lw, lc, x] (upd He x (.ins C dx (f5 (.ref a0) (.ref qb) (.ref p1) (.ref p2) (.ref p3))))) := by
      rw [cu]
      exact s3c
    generalize upd He x (.ins C dx (f5 (.ref a0) (.ref qb) (.ref p1) (.ref p2) (.ref p3))) = Hf at k3 c3 s3c ⊢
    have sbd := s2c.trans s3c
    have sxf : Same (cutS [x] H5) Hf := (b4.trans sbd).trans cutS_le
    rw [List.take_length] at d3
    refine q Hf (fun a o h => sxf _ _ (I5.s _ _ h)) ⟨dx, _, _, _, _, _, k3, sxf.dp d1, sxf.dp d2, ?_, ?_, ?_⟩
    · exact .tup (sqt_of (cutS_le _ _ (sbd _ _ c1))) (cutS_le.dpa (sbd.dpa d3))
    · exact .tup (sqt_of (cutS_le _ _ (s3c _ _ c2))) dpa_strs
    · exact .tup (sqt_of (cutS_le _ _ c3)) (by
        have : ∀ (H : Hp) (is : List Int), DpAll K H (is.map V.int) (is.map PyData.int) := fun H is => by
          induction is with
          | nil => exact .nil
          | cons i is ih => exact .cons (.int i) ih
        exact this _ _)
end
end Jl

set_option linter.all false
set_option maxRecDepth 100000
set_option maxHeartbeats 1000000
set_option pp.maxSteps 900
namespace Jl
open PySem PySem.Spec PyProof.Rows L2
open Evl (sz_of sz_lt)
set_option maxHeartbeats 4000000 in
theorem call_setDT {prog : Program} {w : World} {A : Around} {E : Value → Shared → Prop} {s : Shared} {l : Addr} {items : Array Value} {xs : List Str} {Q : Value → Shared → Prop} (hh : A.handled = none) (hl : s.heap.IsTuple l items) (hx : xs.length = items.size) (hP : ∀ (i : Nat) (v : Value), items[i]? = some v → ∃ t, v = Value.str (xs.getD i Str.empty) t) (hb : items.size + 1 < scanBound)
    (q : ∀ (h' : Heap) (tk : Nat), Heap.SetOf (PySem.strKind prog w) h' s.heap.objs.size (fun k' => decide (k' ∈ dedS xs)) (dedS xs).length → (∀ (b : Nat) (o : Obj), b < s.heap.objs.size → s.heap.get? b = some o → h'.get? b = some o) → Q (Value.ref s.heap.objs.size) { s with heap := h', toks := tk }) :
    wpAny (model prog w) A (call (Value.type "set") [Value.ref l]) Q E s := by
  have ⟨_, _, m1⟩ := PySem.F.called_set.mro
  have m2 := PySem.F.called_set.made
  have m3 := PySem.F.called_set.sub
  have m4 := PySem.F.called_set.notType
  have m5 := PySem.F.called_set.canCreate
  have m6 := PySem.F.typeCall_set_1 (Value.ref l)
  refine wpAny_call <| codeAny_of_tree ?_
  show wpAny _ _ (callAny (Value.type "set") _) _ _ _
  refine wpAny_pure ⟨by exact Code.quiet_builtin _ (by decide +kernel), ?_⟩
  refine codeAny_builtin PySem.F.entry_type_call ?_
  rw [Around.under_plain (by exact weight_type_call_type "set" [Value.ref l] []) rfl]
  repeat any_goals first | assumption | wp_step
  refine codeAny_mono (code_set_new_1 (E := E) (Value.ref l) (Q₁ := fun y z => ∃ led : Bool, y = Value.ref s.heap.objs.size ∧ z = { s with heap := s.heap.push { cls := Value.type "set", data := Data.set #[] 0 (SetTable.fresh 0 0 led) } }) fun led => ⟨led, by rfl, by rfl⟩) fun r z hr => ?_
  match r, hr with
  | .error e, hr => exact hr
  | .ok (.ret y), hr =>
    obtain ⟨led, e1, e2⟩ := hr
    subst e1
    subst e2
    generalize ho : ({ cls := Value.type "set", data := Data.set #[] 0 (SetTable.fresh 0 0 led) } : Obj) = so
    have g0 : (s.heap.push so).get? s.heap.objs.size = some so := Heap.get?_push_size _ (by rw [← ho]; rfl)
    have hT : Shared.TypeIs { s with heap := s.heap.push so } (Value.ref s.heap.objs.size) "set" := ⟨so, g0, by rw [← ho]⟩
    have n1 := PySem.F.called_set.init.lookup
    have n2 := PySem.F.called_set.init.bind (Value.ref s.heap.objs.size)
    repeat any_goals first | assumption | wp_step
    refine codeAny_mono (codeAny_call_builtin (R := wants (fun y z => y = Value.none ∧ ∃ h' tk, z = { s with heap := h', toks := tk } ∧ Heap.SetOf (PySem.strKind prog w) h' s.heap.objs.size (fun k' => decide (k' ∈ dedS xs)) (dedS xs).length ∧ ∀ (b : Nat) (o : Obj), b < s.heap.objs.size → s.heap.get? b = some o → h'.get? b = some o) E) PySem.F.called_set.init.plain PySem.F.entry_set_init (check_set_init_1 hT ?_)) fun r z hr => ?_
    · have ⟨ol, o1, o2, nl, o3⟩ := hl
      match ol, o1, o2, o3 with
      | ⟨_, od, _, os⟩, o1, rfl, rfl =>
        have o4 := Heap.get?_push_of_some so o1
        have k1 := PySem.F.sub_tuple_set
        have k2 := PySem.F.sub_tuple_frozenset
        have k3 : (Value.type "tuple" == Value.type "dict") = false := by decide
        have hl1 : (s.heap.push so).IsTuple l items := ⟨_, o4, rfl, nl, rfl⟩
        subst ho
        unfold Builtin.«set.__init__» noKeywords Builtin.Frozenset.updateFrom
        generalize hit : pyIter = it
        wp_walk
        subst hit
        refine wpAny_pyIter_tuple hl1 ?_
        refine wpAny_bind <| wpAny_runValue ?_
        have lt1 : l < s.heap.objs.size := Heap.lt_size o1
        have sz1 : ∀ so, Array.size (Heap.objs (s.heap.push so)) = s.heap.objs.size + 1 := fun _ => Heap.size_push _ _
        have hne1 : ∀ so, l ≠ Array.size (Heap.objs (s.heap.push so)) := fun so => by rw [sz1]; exact Nat.ne_of_lt (Nat.lt_succ_of_lt lt1)
        have hin3 : A.in1.in1.in1.handled = none := by simp [hh]
        have hnf : ∀ so, s.heap.objs.size ∉ [Array.size (Heap.objs (s.heap.push so)), l] := by
          intro so z
          rw [sz1] at z
          rcases List.mem_cons.mp z with z | z
          · exact absurd z (Nat.ne_of_lt (Nat.lt_succ_self _))
          · rcases List.mem_cons.mp z with z | z
            · exact absurd z (Nat.ne_of_gt lt1)
            · cases z
        refine loopStrD (Walks.tuple hin3 _ l (hne1 _) items).toS s.heap.objs.size (hnf _) xs hx hb (fun i v z => hP i v z) (items.size - 0) 0 _ (by omega) (Nat.zero_le _) ⟨⟨_, Heap.get?_push_size _ rfl, rfl, rfl⟩, hl1.push _⟩ ?_ ?_
        · have g1 := Heap.get?_push_of_some { cls := Value.type "tuple_iterator", data := Data.fields #[Value.ref l, Value.int 0 0] } g0
          exact PyProof.Rows.SetOf_congr ((PyProof.Rows.setObjOf_fresh (knd := PySem.strKind prog w) led).setOf g1 (by unfold scanBound; omega)) (fun _ => rfl) rfl
        · rintro ⟨h', g', d', tk', os'⟩ hm hS
          have eg : g' = s.gens := hm.gens
          have ed : d' = s.drawn := hm.drawn
          have eo : os' = s.os := hm.os
          subst eg
          subst ed
          subst eo
          show wpAny _ _ _ _ _ _
          refine wpAny_pure ?_
          show wpAny _ _ (ret Value.none) _ _ _
          refine wpAny_pure ⟨rfl, h', tk', rfl, hS, fun b o lt e => ?_⟩
          refine hm.heap b o (fun z => ?_) (Heap.get?_push_of_some _ (Heap.get?_push_of_some _ e))
          rw [sz1] at z
          rcases List.mem_cons.mp z with z | z
          · exact absurd z (Nat.ne_of_lt lt)
          · rcases List.mem_cons.mp z with z | z
            · exact absurd z (Nat.ne_of_lt (Nat.lt_succ_of_lt lt))
            · cases z
    · match r, hr with
      | .error e, hr => exact hr
      | .ok (.ret y), hr =>
        obtain ⟨rfl, h', tk, rfl, hS, hk⟩ := hr
        repeat any_goals first | assumption | wp_step
        exact q h' tk hS hk

/-- how many different texts a tuple has -/
def tLenSetT (K : PySem.W.Frag) (ta : TE) : TE := fun σ H Q => ta σ H fun x H1 => ∃ (l : Addr) (ys : List Str), x = .ref l ∧ SqT K H1 l (ys.map V.str) ∧ ys.length ≤ 4000 ∧ Q (.int ((dedS ys).length : Nat)) H1
theorem pe_lenSetT {X : Cx} {a : Expr} {ta : TE} {p p2 q pos : Pos} (hg : Gl X "len") (hm : X.mg "len" = none) (hg2 : Gl X "set") (hm2 : X.mg "set" = none) (ha : PE X a ta) (hc : X.calm = true := by rfl)
    (na : starEach [a] X.env = (false, eval a X.env) :: starEach [] X.env := by rfl) : PE X (.Call (.Name "len" p) [.Call (.Name "set" p2) [a] [] q] [] pos) (tLenSetT X.K ta) := by
  constructor
  intro pins s σ H Q I hQ
  refine Call_ <| ld_blt I hg hm boot_len ?_
  refine callWith_builtin1 (args_cons ?_ rfl) rfl rfl
  refine Call_ <| ld_blt I hg2 hm2 boot_set ?_
  refine callWith_type1 (args_cons (thn (ha.run pins s σ H _ I hQ) ?_) na) na rfl
  rintro v s1 ⟨x, H1, I1, r1, l, ys, rfl, hq, hsz, q1⟩
  refine args_nil ?_
  cases r1
  have ⟨its, r, pl, _⟩ := I1.tuple hq
  have hlen : its.toArray.size = ys.length := by rw [List.size_toArray, ← r.length, List.length_map]
  refine call_setDT (I1.ok.hd hc) pl hlen.symm (fun i v e => strs_of_vals r i v (by simpa using e)) (by rw [hlen]; unfold scanBound; omega) ?_
  intro h' tk hS hk
  refine args_nil ?_
  have ⟨o, es, ep, t, ho, hex, hd, _, _, _, hf, hn⟩ := hS
  have I2 : L2.Inv X pins σ H1 { s1 with heap := h', toks := tk } := I1.kept fun b o e => hk b o (Heap.lt_size e) e
  have := dedS_len ys
  exact call_len_set ho hex hd hf (by rw [hn]; omega) ⟨.int (dedS ys).length, H1, I2.tok _, ⟨_, by rw [hn]⟩, q1⟩
section
open HT
variable {prog : Program} {w : World} {A : Around} {E : Value → Shared → Prop} {s : Shared}
theorem places_rev (n : Nat) : Builtin.Slice.slicePlaces ((n : Int) - 1) (-1) (-1) = n := by
  unfold Builtin.Slice.slicePlaces
  rw [if_neg (by decide)]
  by_cases h : (n : Int) - 1 > -1
  · rw [if_pos h, show (-(-1) : Int) = 1 from rfl, Int.ediv_one]
    omega
  · rw [if_neg h]
    omega
theorem sliceApplied_rev {sl : Addr} {vs : Value} {n : Nat} {Q : Int × Int × Nat → Shared → Prop} (hs : s.heap.IsSliceOf sl .none .none vs) (ps : IsPart vs (some (-1)))
    (h : Q ((n : Int) - 1, -1, n) s) : wpAny (model prog w) A (Builtin.Slice.sliceApplied (.ref sl) (pure (n : Int))) Q E s := by
  obtain ⟨os, hos, hcs, hds⟩ := id hs
  unfold Builtin.Slice.sliceApplied Builtin.Slice.sliceFields
  refine wpAny_bind (wpAny_bind (wpAny_field hos hds (x := .none) rfl (wpAny_bind (wpAny_field hos hds (x := .none) rfl (wpAny_bind (wpAny_field hos hds (x := vs) rfl (wpAny_pure ?_)))))))
  refine wpAny_bind (slicePart_ ps ?_)
  show wpAny _ _ (if ((-1 : Int) == 0) = true then _ else _) _ _ s
  rw [if_neg (by decide)]
  refine wpAny_bind (slicePart_none (wpAny_bind (slicePart_none (wpAny_bind (wpAny_pure ?_)))))
  show wpAny _ _ (pure ((n : Int) - 1, (-1 : Int), Builtin.Slice.slicePlaces ((n : Int) - 1) (-1) (-1))) _ _ s
  rw [places_rev]
  exact wpAny_pure h
theorem pick_rev (xs : Array Value) : ((List.range xs.size).filterMap fun (m : Nat) => xs[(((xs.size : Nat) : Int) - 1 + (m : Int) * (-1)).toNat]?).toArray = xs.toList.reverse.toArray := by
  congr 1
  have e : (fun (m : Nat) => xs[(((xs.size : Nat) : Int) - 1 + (m : Int) * (-1)).toNat]?) = (fun (i : Nat) => xs[i]?) ∘ fun (m : Nat) => (((xs.size : Nat) : Int) - 1 + (m : Int) * (-1)).toNat := rfl
  rw [e, ← List.filterMap_map]
  have e2 : (List.range xs.size).map (fun (m : Nat) => (((xs.size : Nat) : Int) - 1 + (m : Int) * (-1)).toNat) = (List.range xs.size).map fun k => xs.size - 1 - k := List.map_congr_left fun k hk => by omega
  rw [e2]
  have e3 := PySem.W.krv_range xs.size
  rw [e3, List.filterMap_reverse, PySem.W.krv_all]
theorem getItem_tuple_rev {t sl : Addr} {items : Array Value} {vs : Value} {Q : Value → Shared → Prop} (ht : IsTup s.heap t items) (hs : s.heap.IsSliceOf sl .none .none vs) (ps : IsPart vs (some (-1)))
    (h : Q (.ref s.heap.objs.size) { s with heap := s.heap.push { cls := .type "tuple", data := .seq items.toList.reverse.toArray } })
    (hsz : items.size ≤ sizeLine) : wpAny (model prog w) A (getItem (.ref t) (.ref sl)) Q E s := by
  have htake : sizeOk (.seq items.toList.reverse.toArray) := by
    show items.toList.reverse.toArray.size ≤ sizeLine
    rw [List.size_toArray, List.length_reverse, Array.length_toList]
    exact hsz
  obtain ⟨os, hos, hcs, hds⟩ := id hs
  have hTs : s.TypeIs (.ref sl) "slice" := ⟨os, hos, hcs⟩
  unfold getItem
  try with_reducible refine wpAny_holding ?_
  first | refine wpAny_bind (wpAny_pure ?_) | skip
  refine wpAny_bind (wpAny_sequenceKey ht.typeIs (by decide) ?_)
  refine wpAny_bind (wpAny_callSpecial?_slot (name := Str.ofString "__getitem__") ht.typeIs PyProof.Rows.slot_tuple_getitem
    (wpAny_call_entry PyProof.Rows.slot_tuple_getitem ht.typeIs entry_tuple_getitem ?_ (args_tuple_getitem _ _)))
  show wpAny _ _ (Builtin.Tuple.tupleItemsOf (.ref t) >>= _) _ _ s
  refine wpAny_bind (tupleItemsOf_ ht ?_)
  refine wpAny_bind (wpAny_typeOf hTs ?_)
  rw [if_pos (by decide)]
  refine wpAny_bind (sliceApplied_rev hs ps ?_)
  have hno : ¬ (((((items.size : Nat) : Int) - 1) == 0 && (-1 : Int) == 1 && items.size == items.size) = true) := by
    intro q
    rw [Bool.and_eq_true, Bool.and_eq_true] at q
    exact absurd q.1.2 (by decide)
  show wpAny _ _ (if ((((items.size : Nat) : Int) - 1) == 0 && (-1 : Int) == 1 && items.size == items.size) = true then _ else _) _ _ s
  rw [if_neg hno, pick_rev]
  first
    | exact wpAny_bind (m := Builtin.Tuple.tupleExact _) (wpAny_newObj_type (wpAny_pure ⟨_, rfl, wpAny_pure h⟩) htake)
    | exact wpAny_bind (m := Builtin.Tuple.tupleExact _) (wpAny_newObj_type (wpAny_bind (wpAny_pure (wpAny_pure ⟨_, rfl, wpAny_pure h⟩))) htake)
    | exact wpAny_bind (wpAny_bind (m := Builtin.Tuple.tupleExact _) (wpAny_newObj_type (wpAny_pure (wpAny_pure ⟨_, rfl, wpAny_pure h⟩)) htake))
    | exact wpAny_bind (wpAny_bind (m := Builtin.Tuple.tupleExact _) (wpAny_newObj_type (wpAny_pure ⟨_, rfl, wpAny_pure h⟩) htake))
end
section
variable {X : Cx}
def tRevT (K : PySem.W.Frag) (te : TE) : TE := fun σ H Q => te σ H fun x H1 => ∃ a xs, x = .ref a ∧ SqT K H1 a xs ∧ ∀ p, H1 p = none → Q (.ref p) (upd H1 p (.tup xs.reverse))
theorem pe_revT {e : Expr} {te : TE} {k : Nat} {p1 p2 p3 pos : Pos} (he : PE X e te) : PE X (.Subscript e (.Slice none none (some (.UnaryOp .USub (.Constant (.int 1) k p1) p2)) p3) pos) (tRevT X.K te) := by
  refine ⟨fun pins s σ H Q I h => ?_⟩
  refine Subscript_ (thn (he.run pins s σ H _ I h) fun v s1 ⟨x, H1, I1, r1, q1⟩ => ?_)
  obtain ⟨a, xs, ex, hx, q⟩ := q1
  subst ex
  cases r1
  have hst : PO X (some (.UnaryOp .USub (.Constant (.int 1) k p1) p2)) (tPart (tUn (rU fun i => .int (-i)) (tC (.int 1)))) := po_some (pe_un un_neg pe_int)
  refine wpAny_Slice (thn (po_none.run pins s1 σ H1 (fun o H2 => o = none ∧ H2 = H1) I1 ⟨rfl, rfl⟩) fun vl s2 ⟨l, H2, I2, pl, el, e2⟩ => ?_)
  subst el e2
  refine thn (po_none.run pins s2 σ H2 (fun o H3 => o = none ∧ H3 = H2) I2 ⟨rfl, rfl⟩) fun vu s3 ⟨u, H3, I3, pu, eu, e3⟩ => ?_
  subst eu e3
  refine thn (hst.run pins s3 σ H3 (fun o H4 => o = some (-1) ∧ H4 = H3) I3 ⟨1, rfl, -1, rfl, rfl, rfl⟩) fun vs s4 ⟨o, H4, I4, ps, eo, e4⟩ => ?_
  subst eo e4
  cases pl
  cases pu
  have I5 : L2.Inv X pins σ H4 { s4 with heap := s4.heap.push { cls := .type "slice", data := .fields #[.none, .none, vs] } } := I4.kept (t' := s4.toks) fun b ob q => Heap.get?_push_of_some _ q
  obtain ⟨its, r, ht, hz⟩ := I5.tuple hx
  have hlen := r.length
  show wpAny (model X.prog X.w) X.A (subscriptTail e (.Slice none none (some (.UnaryOp .USub (.Constant (.int 1) k p1) p2)) p3) (.ref a) (.ref s4.heap.objs.size)) (EP X pins σ Q) X.xe { s4 with heap := s4.heap.push { cls := .type "slice", data := .fields #[.none, .none, vs] } }
  refine tail_any (ops := [.ref a, .ref s4.heap.objs.size]) ht.typeIs PyProof.Rows.slot_tuple_getitem.lookup ?_ (by with_unfolding_all rfl)
  refine getItem_tuple_rev ht (Heap.IsSliceOf.new _ .none .none vs) ps ?_ (by rw [List.size_toArray]; omega)
  refine ⟨.ref _, _, I5.laid (t' := s4.toks) (o := .tup xs.reverse) (fun b ob q => Heap.get?_push_of_some _ q) (Nat.le_refl _) ?_, rfl, q _ (I5.hok.fresh (Nat.le_refl _))⟩
  exact ⟨by rw [List.length_reverse]; exact hz, _, r.reverse, IsTup.new _ _⟩
end
/-! ### operators that an own class defines -/
section
variable {X : Cx} {CX : CXT} {C f : Addr} {fd : FuncData} {ps : List Str} {k : Nat} {sp : Sp}
/-- x op y, both of the class at C -/
def rOwn (C : Addr) (sp : Sp) : R2 := fun x y H Q => ∃ (a dx : Addr) (fs : List (Str × V)) (b dy : Addr) (gs : List (Str × V)), x = .ref a ∧ y = .ref b ∧ H a = some (.ins C dx fs) ∧ H b = some (.ins C dy gs) ∧ sp [x, y] H (fun v H' => (∃ c, v = .ref c) ∧ Q v H') E0
def rOwnI (C : Addr) (sp : Sp) : R2 := fun x y H Q => ∃ (a dx : Addr) (fs : List (Str × V)) (i : Int), x = .ref a ∧ y = .int i ∧ H a = some (.ins C dx fs) ∧ sp [x, y] H (fun v H' => (∃ c, v = .ref c) ∧ Q v H') E0
def rOwn1 (C : Addr) (sp : Sp) : V → Hp → VK → Prop := fun x H Q => ∃ (a dx : Addr) (fs : List (Str × V)), x = .ref a ∧ H a = some (.ins C dx fs) ∧ sp [x] H Q E0
theorem back_ref {pins : List (Addr × Obj)} {σ : L2.St} {Q : VK} {v : Value} {s : Shared} (h : EP X pins σ (fun v H' => (∃ c, v = .ref c) ∧ Q v H') v s) : PySem.W.CmpBack (EP X pins σ Q) v s := by
  obtain ⟨z, H', I', rz, ⟨c, rfl⟩, q⟩ := h
  obtain rfl : v = Value.ref c := rz
  exact ⟨.ref c, H', I', rfl, q⟩
theorem op_own {op : Operator} (F : FnOk X.prog X.w X.K X.mg X.base CX k f fd ps sp) (hr : Room k X.A) (hs : Meth X.K C (PySem.dunder op.info.2) f) (hc : PySem.W.selfFirst X.K C = true) (hb : Binds X.K fd ps []) (hx : Passes CX X E0) : OpR X (binaryOp op) (rOwn C sp) := by
  intro pins s σ H x y v u Q I rx ry h
  obtain ⟨a, dx, fs, b, dy, gs, rfl, rfl, ha, hb', q⟩ := h
  cases rx
  cases ry
  obtain ⟨mA, J, _⟩ := ins_get I.hok ha
  obtain ⟨mB, J', _⟩ := ins_get I.hok hb'
  obtain ⟨od, J, _⟩ := J.look
  obtain ⟨od', J', _⟩ := J'.look
  obtain ⟨m, hF⟩ := I.fr
  refine PySem.W.binop_K (op := op) hF I.ok.mod.kin J J'.type hc hs.at_ hs.fn ?_
  exact wpAny_mono (run_fn (us := [.ref a, .ref b]) (vs := [.ref a, .ref b]) F hr hb .nil hx I (.cons rfl (.cons rfl .nil)) q) (fun _ _ z => back_ref z) fun _ _ z => z
theorem op_ownI {op : Operator} {fo ro : Option Value} (F : FnOk X.prog X.w X.K X.mg X.base CX k f fd ps sp) (hr : Room k X.A) (hs : Meth X.K C (PySem.dunder op.info.2) f) (hc : PySem.W.selfFirst X.K C = true) (hrc : PySem.W.findIn X.K (.ref C) (dunderR op.info.2) = some none)
    (h1 : PySem.W.findIn X.K (.type "int") (PySem.dunder op.info.2) = some fo) (h2 : PySem.W.findIn X.K (.type "int") (dunderR op.info.2) = some ro) (hsub : PySem.W.subIn X.K (.type "int") (.ref C) = some false) (hb : Binds X.K fd ps []) (hx : Passes CX X E0) : OpR X (binaryOp op) (rOwnI C sp) := by
  intro pins s σ H x y v u Q I rx ry h
  obtain ⟨a, dx, fs, i, rfl, rfl, ha, q⟩ := h
  cases rx
  obtain ⟨t, rfl⟩ := ry
  obtain ⟨mA, J, _⟩ := ins_get I.hok ha
  obtain ⟨od, J, _⟩ := J.look
  obtain ⟨m, hF⟩ := I.fr
  refine PySem.W.ksp_binT (op := op) (T := "int") hF I.ok.mod.kin J rfl hc hs.at_ hs.fn hrc (.inl rfl) h1 h2 hsub ?_
  exact wpAny_mono (run_fn (us := [.ref a, .int i t]) (vs := [.ref a, .int i]) F hr hb .nil hx I (.cons rfl (.cons ⟨t, rfl⟩ .nil)) q) (fun _ _ z => back_ref z) fun _ _ z => z
theorem un_own (F : FnOk X.prog X.w X.K X.mg X.base CX k f fd ps sp) (hr : Room k X.A) (hs : Meth X.K C "__neg__" f) (hb : Binds X.K fd ps []) (hx : Passes CX X E0) : UnR X (unaryOp .USub) (rOwn1 C sp) := by
  intro pins s σ H x v Q I rx h
  obtain ⟨a, dx, fs, rfl, ha, q⟩ := h
  cases rx
  obtain ⟨mA, J, _⟩ := ins_get I.hok ha
  obtain ⟨od, J, _⟩ := J.look
  obtain ⟨m, hF⟩ := I.fr
  refine PySem.W.ksp_neg hF I.ok.mod.kin J hs.at_ hs.fn ?_
  exact run_fn (us := [.ref a]) (vs := [.ref a]) F hr hb .nil hx I (.cons rfl .nil) q
end
end Jl

set_option linter.all false
set_option maxRecDepth 100000
set_option maxHeartbeats 1000000
set_option pp.maxSteps 900
namespace Jl
open PySem PySem.Spec PyProof.Rows L2
open Evl (sz_of sz_lt)
/-! ### tuple * int, any small int -/
section
open AutoSeq1 (wpAny_loadPart')
theorem tuple_mul1 (l : Addr) (items : Array Value) (n : Nat) (dd : Option Addr) (sl : Array (Option Value)) (u : Tok) (hne : items.isEmpty = false) :
    Meets (Builtin.«tuple.__mul__» ⟨[.ref l, .int 1 u], []⟩) (fun _ R s => s.heap.get? l = some { cls := .type "tuple", dict := dd, data := .seq items n, slots := sl } ∧ R (.ok (.ret (Value.ref l))) s) :=
  .of_wp fun prog w A R s h => by
    obtain ⟨hp, g, d, tk, os⟩ := s
    obtain ⟨hl, h⟩ := h
    have f1 := AutoSeq1.idx_int
    wp_walk using wpAny_loadPart' hl
    repeat (first
      | (refine wpAny_ite_false (decide_eq_false (by decide)) ?_; wp_walk using wpAny_loadPart' hl)
      | (refine wpAny_ite_true (decide_eq_true (by simp)) ?_; wp_walk using wpAny_loadPart' hl))
    exact ⟨_, rfl, h⟩
theorem tuple_mul0 (l : Addr) (items : Array Value) (n : Nat) (dd : Option Addr) (sl : Array (Option Value)) (x : Int) (u : Tok) (c0 : (decide (x < -(2 ^ 63)) || decide (x ≥ 2 ^ 63)) = false) (c1 : (items.isEmpty || x == 1) = false) (c2 : (decide (x ≤ 0) || items.isEmpty) = true) :
    Meets (Builtin.«tuple.__mul__» ⟨[.ref l, .int x u], []⟩) (fun _ R s => s.heap.get? l = some { cls := .type "tuple", dict := dd, data := .seq items n, slots := sl } ∧
      R (.ok (.ret (Value.ref s.heap.objs.size))) { s with heap := s.heap.push { cls := Value.type "tuple", data := Data.seq #[] }, toks := s.toks }) :=
  .of_wp fun prog w A R s h => by
    obtain ⟨hp, g, d, tk, os⟩ := s
    obtain ⟨hl, h⟩ := h
    have f1 := AutoSeq1.idx_int
    wp_walk using wpAny_loadPart' hl
    repeat (first
      | (refine wpAny_ite_false (decide_eq_false (by rw [c0]; exact Bool.false_ne_true)) ?_; wp_walk using wpAny_loadPart' hl)
      | (refine wpAny_ite_false (decide_eq_false (by rw [c1]; exact Bool.false_ne_true)) ?_; wp_walk using wpAny_loadPart' hl)
      | (refine wpAny_ite_true (decide_eq_true c2) ?_; wp_walk using wpAny_loadPart' hl))
    exact ⟨_, rfl, h⟩
end
/-- t * k, t not empty -/
def rRepW (K : PySem.W.Frag) : R2 := fun x y H Q => ∃ (l : Addr) (k : Int) (xs : List V), x = .ref l ∧ y = .int k ∧ SqT K H l xs ∧ xs ≠ [] ∧ -1000 ≤ k ∧ k ≤ 1000 ∧ xs.length ≤ 1000 ∧ (k = 1 → Q (.ref l) H) ∧ (k ≤ 0 → ∀ p, H p = none → Q (.ref p) (upd H p (.tup []))) ∧ (2 ≤ k → ∀ p, H p = none → Q (.ref p) (upd H p (.tup (List.replicate k.toNat xs).flatten)))
section
variable {X : Cx}
theorem op_repW : OpR X (binaryOp .Mult) (rRepW X.K) := by
  intro pins s σ H x y v u Q I rx ry h
  obtain ⟨l, k, xs, rfl, rfl, hT, hne, hlo, hhi, hz, q1, q0, q2⟩ := h
  by_cases hk2 : 2 ≤ k
  · exact op_repT pins s σ H _ _ v u Q I rx ry ⟨l, k, xs, rfl, rfl, hT, hne, hk2, hhi, hz, q2 hk2⟩
  · cases rx
    obtain ⟨t, rfl⟩ := ry
    obtain ⟨its, r, ⟨⟨cls, dd, data, sl⟩, ho, hc, n, hd⟩, hs⟩ := I.tuple hT
    simp only at hc hd
    subst hc hd
    have hle : its.length = xs.length := r.length.symm
    have hi : its.toArray.isEmpty = false := by
      cases its with
      | nil => exact absurd (List.eq_nil_of_length_eq_zero hle.symm) hne
      | cons a b => rfl
    by_cases hk1 : k = 1
    · subst hk1
      exact wpAny_binaryOp_repeat_ref (T := "tuple") (U := "int") (by decide) ⟨_, ho, rfl⟩ (fun s' => typeIs_int s' 1 t) noFill_tuple_mul F.fills_int_mul F.slot_int_rmul repeat_tuple F.slot_int_index.lookup
        (call_meets F.slot_int_rmul (typeIs_int s 1 t) F.entry_int_rmul (F.args_int_rmul_2 _ _) (int_rmul_tuple 1 t l its.toArray n dd sl)
          ⟨ho, rfl, ⟨_, ho, rfl⟩, call_meets F.slot_tuple_mul ⟨_, ho, rfl⟩ F.entry_tuple_mul (F.args_tuple_mul_2 _ _) (tuple_mul1 l its.toArray n dd sl t hi) ⟨ho, .ref l, H, I, rfl, q1 rfl⟩⟩)
    · have c0 : (decide (k < -(2 ^ 63)) || decide (k ≥ 2 ^ 63)) = false := by
        rw [decide_eq_false (by omega), decide_eq_false (by omega)] <;> rfl
      have c1 : (its.toArray.isEmpty || k == 1) = false := by
        rw [hi, Bool.false_or]
        exact beq_eq_false_iff_ne.mpr hk1
      have c2 : (decide (k ≤ 0) || its.toArray.isEmpty) = true := by
        rw [decide_eq_true (by omega)]
        rfl
      refine wpAny_binaryOp_repeat_ref (T := "tuple") (U := "int") (by decide) ⟨_, ho, rfl⟩ (fun s' => typeIs_int s' k t) noFill_tuple_mul F.fills_int_mul F.slot_int_rmul repeat_tuple F.slot_int_index.lookup
        (call_meets F.slot_int_rmul (typeIs_int s k t) F.entry_int_rmul (F.args_int_rmul_2 _ _) (int_rmul_tuple k t l its.toArray n dd sl)
          ⟨ho, rfl, ⟨_, ho, rfl⟩, call_meets F.slot_tuple_mul ⟨_, ho, rfl⟩ F.entry_tuple_mul (F.args_tuple_mul_2 _ _) (tuple_mul0 l its.toArray n dd sl k t c0 c1 c2) ⟨ho, ?_⟩⟩)
      refine ⟨.ref s.heap.objs.size, _, I.laid (t' := s.toks) (o := .tup []) (fun b ob q => Heap.get?_push_of_some _ q) (Nat.le_refl _) ?_, rfl, q0 (by omega) _ (I.hok.fresh (Nat.le_refl _))⟩
      exact ⟨Nat.zero_le _, _, .nil, IsTup.new _ _⟩
end
end Jl

set_option Elab.async false
set_option linter.all false
set_option maxRecDepth 100000
set_option maxHeartbeats 1000000
set_option pp.maxSteps 300
namespace Jl
open PySem PySem.Spec PyProof.Rows L2
open Evl (sz_of sz_lt)
local macro_rules | `(tactic| walk_at "at") => `(tactic| first | exact box0 | exact box1 | exact box2)
local macro_rules | `(tactic| walk_at "sq") => `(tactic| first | (show SqL _ _ _ _; assumption) | (show SqT _ _ _ _; assumption) | (show _ = some _; assumption))
local macro_rules | `(tactic| walk_at "side") => `(tactic| first
  | (show (0 : Int) < _; decide)
  | (show (0 : Int) < _; omega)
  | exact ⟨by decide, by decide, by decide⟩
  | exact sz_of (Nat.le_of_ble_eq_true rfl)
  | exact rfl
  | exact Or.inl (by decide)
  | exact Or.inr (by decide)
  | exact Or.inr ⟨by omega, by omega⟩
  | exact Or.inl ⟨by omega, by omega⟩
  | exact ⟨by decide, by decide +kernel⟩)
local macro_rules | `(tactic| walk_at "ev1") => `(tactic| first
  | refine ⟨_, rfl, ?_⟩
  | refine ⟨_, _, rfl, rfl, ?_⟩
  | refine ⟨_, _, _, _, rfl, rfl, (by walk_at "sq"), (by walk_at "at"), ?_⟩
  | refine ⟨_, _, rfl, (by walk_at "sq"), ?_⟩
  | refine ⟨_, _, rfl, Or.inl (by walk_at "sq"), ?_⟩
  | refine ⟨_, _, rfl, Or.inr (by walk_at "sq"), ?_⟩
  | refine Or.inl ⟨_, rfl, ?_⟩
  | refine Or.inr ⟨_, rfl, ?_⟩
  | refine ⟨(by walk_at "side"), ?_⟩
  | refine ⟨.inl ⟨rfl, _, (by walk_at "sq")⟩, ?_⟩
  | refine ⟨_, _, rfl, ?_⟩)
local macro_rules | `(tactic| walk_at "nrm") => `(tactic| dsimp only [tNil, tCons, tC, tCB])
local macro_rules | `(tactic| walk_at "ev") => `(tactic| repeat (walk_at "ev1"))
abbrev sc_Way_neg_N : List Str := ["self"]
abbrev s_Way_neg : Stmt := inClass (topS 12) 10
theorem sc_Way_neg : FnScope ["self"] ["self"] (defScope s_Way_neg) := ⟨rfl, rfl, rfl, by decide +kernel, rfl, by decide +kernel, by decide +kernel⟩
/-! ### what a Way tells, and Ways put together -/
/-- what the head says of the class's operators -/
structure OWay (K : PySem.W.Frag) (C : Addr) : Prop where
  sf : PySem.W.selfFirst K C = true
  rm : PySem.W.findIn K (.ref C) (dunderR Operator.Mult.info.2) = some none
  im : ∃ fo, PySem.W.findIn K (.type "int") (PySem.dunder Operator.Mult.info.2) = some fo
  ir : ∃ fo, PySem.W.findIn K (.type "int") (dunderR Operator.Mult.info.2) = some fo
  ns : PySem.W.subIn K (.type "int") (.ref C) = some false
theorem last_get {α : Type} : ∀ {us : List α} {w : α}, (w :: us)[us.length]? = some (us.getLastD w)
  | [], w => rfl
  | u :: us, w => by
    rw [List.length_cons, List.getElem?_cons_succ, List.getLastD_cons]
    exact last_get
theorem at_last {w : Str} {us : List Str} : atI ((w :: us).map V.str) (-1) = some (.str (us.getLastD w)) := by
  refine atI_end (by rw [List.length_map, List.length_cons]; omega) ?_
  rw [List.length_map, List.length_cons, Nat.add_sub_cancel, List.getElem?_map, last_get]
  rfl
theorem at_first {w : Str} {us : List Str} : atI ((w :: us).map V.str) 0 = some (.str w) := atI_nat (j := 0) rfl
theorem decI {a b : Int} : decide (V.int a = V.int b) = decide (a = b) := decide_eq_decide.mpr ⟨V.int.inj, congrArg _⟩
theorem decS' {a b : Str} : decide (V.str a = V.str b) = decide (a = b) := decide_eq_decide.mpr ⟨V.str.inj, congrArg _⟩
/-- is_ring of a way -/
def ringF (qs : List QD) (w : Str) (us : List Str) (ms : List Mk) : Bool := decide (w = us.getLastD w) && (decide ((dedS (w :: us)).length = ms.length) && decide ((dedS (ms.map (nmQ qs))).length = ms.length))
theorem path_last {qs : List QD} {w : Str} {us : List Str} : (w :: us) = (w :: us).dropLast ++ [us.getLastD w] := by
  cases h : us.reverse with
  | nil =>
    rw [List.reverse_eq_nil_iff.mp h]
    rfl
  | cons x xs =>
    have e : us = xs.reverse ++ [x] := by
      have := congrArg List.reverse h
      rw [List.reverse_reverse, List.reverse_cons] at this
      exact this
    rw [e, ← List.cons_append, List.dropLast_concat, List.getLastD_concat]
theorem path_cat {qs : List QD} : ∀ {us : List Str} {w : Str} {ms : List Mk} {us2 : List Str} {ms2 : List Mk}, path qs (w :: us) ms → path qs (us.getLastD w :: us2) ms2 → path qs (w :: (us ++ us2)) (ms ++ ms2)
  | [], w, [], us2, ms2, _, h => h
  | u :: us, w, m :: ms, us2, ms2, h1, h2 => by
    rw [List.getLastD_cons] at h2
    exact ⟨h1.1, path_cat h1.2 h2⟩
  | [], _, _ :: _, _, _, h, _ => absurd h id
  | _ :: _, _, [], _, _, h, _ => absurd h id
theorem nm_fl {qs : List QD} {m : Mk} : nmQ qs (fl m) = nmQ qs m := rfl
theorem nms_rev {qs : List QD} {ms : List Mk} : (ms.map fl).reverse.map (nmQ qs) = (ms.map (nmQ qs)).reverse := by
  rw [List.map_reverse, List.map_map]
  rfl
/-- a Way's making, its arguments told -/
theorem make_way {K : PySem.W.Frag} {C : Addr} {H1 : Hp} {x dx : Addr} {v qv : V} {fb fq : Bool} {ws : List Str} {qs : List QD} {w : Str} {us : List Str} {ms : List Mk} {Q : VK} (hx : H1 x = none) (hdx : H1 dx = none) (ne : dx ≠ x) (hD : Dp K H1 v (netD fb ws qs)) (hQ : Dp K H1 qv (seqD fq ((ms.map (nmQ qs)).map PyData.str)))
    (hG : NetG ws qs) (hw : w ∈ ws) (hp : path qs (w :: us) ms) (w6 : ws.length ≤ 60) (q6 : qs.length ≤ 60) (m6 : ms.length ≤ 100000) (q : ∀ H', Same H1 H' → WayAt K C H' x ws qs w us ms → Q (.ref x) H') :
    spInit K C [.ref x, v, .str w, qv] (upd (upd H1 dx (.own x)) x (.ins C dx [])) (fun v H2 => v = .non ∧ Q (.ref x) H2) E0 :=
  ⟨H1, x, dx, v, qv, fb, fq, ws, qs, w, us, ms, rfl, fun a o ha => by
    rw [upd_ne (ne_of_none ha hx), upd_ne (ne_of_none ha hdx)]
    exact ha, hx, upd_same, hD, hQ, hG, hw, hp, w6, q6, m6, fun H7 s7 hway => ⟨rfl, q H7 s7 hway⟩⟩
theorem last_mem {ws : List Str} {qs : List QD} (g : NetG ws qs) : ∀ {us : List Str} {w : Str} {ms : List Mk}, w ∈ ws → path qs (w :: us) ms → us.getLastD w ∈ ws
  | [], _, [], h, _ => h
  | u :: us, w, m :: ms, h, hp => by
    rw [List.getLastD_cons]
    exact last_mem g (far_mem g hp.1).1 hp.2
  | [], _, _ :: _, _, h => absurd h id
  | _ :: _, _, [], _, h => absurd h id
section
variable {P : Program} {w : World} {K : PySem.W.Frag} {mg : Str → Option Value} {base : Heap}
def spNeg (K : PySem.W.Frag) (C : Addr) : Sp := fun vs H Q _ => ∃ (x : Addr) (ws : List Str) (qs : List QD) (w : Str) (us : List Str) (ms : List Mk), vs = [.ref x] ∧ WayAt K C H x ws qs w us ms ∧ NetG ws qs ∧ w ∈ ws ∧ path qs (w :: us) ms ∧ ws.length ≤ 60 ∧ qs.length ≤ 60 ∧ ms.length ≤ 1000 ∧
  ∀ H' z, Same H H' → WayAt K C H' z ws qs (us.getLastD w) ((w :: us).dropLast.reverse) (revR ms) → Q (.ref z) H'
theorem path_back {qs : List QD} {w : Str} {us : List Str} {ms : List Mk} (h : path qs (w :: us) ms) : path qs (us.getLastD w :: (w :: us).dropLast.reverse) (revR ms) := by
  have e := path_rev h
  rw [path_last (qs := qs), List.reverse_append] at e
  exact e
theorem revR_len {ms : List Mk} : (revR ms).length = ms.length := by
  unfold revR
  rw [List.length_reverse, List.length_map]
theorem ok_Way_neg {f fI C : Addr} {fd fdI : FuncData} {k : Nat} (F : Fun K "__neg__" "Way.__neg__" s_Way_neg f fd) (T_Way : TWay K C) (M_Way : L2.Mk K C fI) (mg_Way : mg "Way" = some (.ref C))
    (G_Way_init : FnOk P w K mg base CX0 k fI fdI ["self", "net", "start", "queues"] (spInit K C)) (b_Way_init : Binds K fdI ["self", "net", "start", "queues"] []) : FnOk P w K mg base CX0 (k + 1 + 1) f fd ["self"] (spNeg K C) := by
  refine F.ok sc_Way_neg (fun vs H Q E h => ?_) (fun cdv A outer s0 H vs Q E hr2 h => ?_)
  · obtain ⟨x, ws, qs, w, us, ms, rfl, _⟩ := h
    rfl
  · obtain ⟨x, ws, qs, w, us, ms, rfl, hx, hG, hw, hp, w6, q6, lm, q⟩ := h
    have hr := hr2.mono (Nat.le_succ k)
    refine ⟨_, (pss_one (ps_ret (pe_make M_Way G_Way_init hr2 (by rfl) mg_Way b_Way_init .nil pass0 (pa_cons (pe_fld (pv 0) rfl) (pa_cons (pe_ix ix_tup (pe_fld (pv 0) rfl) (pe_un un_neg pe_int) (fun _ _ => rfl)) (pa_cons (pe_revT (pe_fld (pv 0) rfl)) pa_nil)))))), ?_⟩
    obtain ⟨dx, v1, v2, v3, v4, v5, h0, h1, h2, h3, h4, h5⟩ := id hx.is
    obtain ⟨a4, x4, rfl, ha4, hx4⟩ := Dp.seq_of (f := true) (show Dp K H v4 (seqD true _) from h4)
    have e4 := dpa_strs_of hx4
    subst e4
    obtain ⟨a2, x2, rfl, ha2, hx2⟩ := Dp.seq_of (f := true) (show Dp K H v2 (seqD true _) from h2)
    have e2 := dpa_strs_of hx2
    subst e2
    refine ⟨_, rfl, x, C, dx, _, _, rfl, h0, T_Way.cl, T_Way.n1, f5_at.1, ?_⟩
    refine ⟨_, rfl, x, C, dx, _, _, rfl, h0, T_Way.cl, T_Way.n4, f5_at.2.2.2.1, 1, rfl, a4, _, _, _, rfl, rfl, ha4, at_last, ?_⟩
    refine ⟨_, rfl, x, C, dx, _, _, rfl, h0, T_Way.cl, T_Way.n2, f5_at.2.1, a2, _, rfl, ha2, fun p hp0 z dz hz hdz ne => ?_⟩
    have s1 : Same H (upd H p (.tup ((ms.map (nmQ qs)).map V.str).reverse)) := .upd hp0
    have hp1 : SqT K (upd H p (.tup ((ms.map (nmQ qs)).map V.str).reverse)) p (((revR ms).map (nmQ qs)).map V.str) := by
      unfold revR
      rw [nms_rev, List.map_reverse]
      exact sqt_of upd_same
    exact make_way (fq := true) hz hdz ne (s1.dp h1) (.tup hp1 dpa_strs) hG (last_mem hG hw hp) (path_back hp) w6 q6 (by rw [revR_len]; omega) fun H' s' hway => q H' z (s1.trans s') hway
end
end Jl

set_option Elab.async false
set_option linter.all false
set_option maxRecDepth 100000
set_option maxHeartbeats 1000000
set_option pp.maxSteps 300
namespace Jl
open PySem PySem.Spec PyProof.Rows L2
open Evl (sz_of sz_lt)
local macro_rules | `(tactic| walk_at "at") => `(tactic| first | exact box0 | exact box1 | exact box2)
local macro_rules | `(tactic| walk_at "sq") => `(tactic| first | (show SqL _ _ _ _; assumption) | (show SqT _ _ _ _; assumption) | (show _ = some _; assumption))
local macro_rules | `(tactic| walk_at "side") => `(tactic| first
  | (show (0 : Int) < _; decide)
  | (show (0 : Int) < _; omega)
  | exact ⟨by decide, by decide, by decide⟩
  | exact sz_of (Nat.le_of_ble_eq_true rfl)
  | exact rfl
  | exact Or.inl (by decide)
  | exact Or.inr (by decide)
  | exact Or.inr ⟨by omega, by omega⟩
  | exact Or.inl ⟨by omega, by omega⟩
  | exact ⟨by decide, by decide +kernel⟩)
local macro_rules | `(tactic| walk_at "ev1") => `(tactic| first
  | refine ⟨_, rfl, ?_⟩
  | refine ⟨_, _, rfl, rfl, ?_⟩
  | refine ⟨_, _, _, _, rfl, rfl, (by walk_at "sq"), (by walk_at "at"), ?_⟩
  | refine ⟨_, _, rfl, (by walk_at "sq"), ?_⟩
  | refine ⟨_, _, rfl, Or.inl (by walk_at "sq"), ?_⟩
  | refine ⟨_, _, rfl, Or.inr (by walk_at "sq"), ?_⟩
  | refine Or.inl ⟨_, rfl, ?_⟩
  | refine Or.inr ⟨_, rfl, ?_⟩
  | refine ⟨(by walk_at "side"), ?_⟩
  | refine ⟨.inl ⟨rfl, _, (by walk_at "sq")⟩, ?_⟩
  | refine ⟨_, _, rfl, ?_⟩)
local macro_rules | `(tactic| walk_at "nrm") => `(tactic| dsimp only [tNil, tCons, tC, tCB])
local macro_rules | `(tactic| walk_at "ev") => `(tactic| repeat (walk_at "ev1"))
/-! ### rings turned -/
theorem stepD_mem {acc : List Str} {x y : Str} : y ∈ stepD acc x ↔ y ∈ acc ∨ y = x := by
  unfold stepD
  split
  · rename_i h
    exact ⟨.inl, fun z => z.elim id fun e => by rw [e]; exact h⟩
  · rw [List.mem_append, List.mem_singleton]
theorem stepD_nd {acc : List Str} {x : Str} (h : acc.Nodup) : (stepD acc x).Nodup := by
  unfold stepD
  split
  · exact h
  · rename_i hx
    refine List.nodup_append.mpr ⟨h, List.nodup_cons.mpr ⟨List.not_mem_nil, List.nodup_nil⟩, fun a ha b hb e => hx ?_⟩
    rw [← List.mem_singleton.mp hb, ← e]
    exact ha
theorem dedF : ∀ {xs acc : List Str}, acc.Nodup → (xs.foldl stepD acc).Nodup ∧ ∀ y, y ∈ xs.foldl stepD acc ↔ y ∈ acc ∨ y ∈ xs
  | [], acc, h => ⟨h, fun y => by simp⟩
  | x :: xs, acc, h => by
    obtain ⟨h1, h2⟩ := dedF (xs := xs) (stepD_nd (x := x) h)
    refine ⟨h1, fun y => ?_⟩
    rw [List.foldl_cons, h2 y, stepD_mem, List.mem_cons, or_assoc]
theorem dedS_nd {xs : List Str} : (dedS xs).Nodup := (dedF List.nodup_nil).1
theorem mem_dedS {xs : List Str} {y : Str} : y ∈ dedS xs ↔ y ∈ xs := by
  have := (dedF (xs := xs) List.nodup_nil).2 y
  rw [show (y ∈ ([] : List Str) ∨ y ∈ xs) ↔ y ∈ xs by simp] at this
  exact this
theorem ded_le {xs U : List Str} (h : ∀ x ∈ xs, x ∈ U) : (dedS xs).length ≤ U.length := List.Nodup.length_le_of_subset dedS_nd fun x hx => h x (mem_dedS.mp hx)
theorem ded_ge {xs U : List Str} (hn : U.Nodup) (h : ∀ x ∈ U, x ∈ xs) : U.length ≤ (dedS xs).length := List.Nodup.length_le_of_subset hn fun x hx => mem_dedS.mpr (h x hx)
theorem cost_cons {qs : List QD} {m : Mk} {r : List Mk} : costQ qs (m :: r) = prQ qs m + costQ qs r := by
  unfold costQ
  rw [List.map_cons, List.sum_cons]
theorem cost_perm {qs : List QD} {a b : List Mk} (h : a.Perm b) : costQ qs a = costQ qs b := by
  induction h with
  | nil => rfl
  | cons x _ ih => rw [cost_cons, cost_cons, ih]
  | swap x y l => rw [cost_cons, cost_cons, cost_cons, cost_cons]; omega
  | trans _ _ i1 i2 => rw [i1, i2]
theorem path_app {qs : List QD} : ∀ {p : List Mk} {vs : List Str} {q : List Mk}, path qs vs (p ++ q) → path qs (vs.take (p.length + 1)) p ∧ path qs (vs.drop p.length) q
  | [], v :: vs, q, h => ⟨by show path qs [v] []; exact True.intro, h⟩
  | [], [], q, h => absurd h id
  | m :: p, v :: u :: vs, q, h => by
    have h : link qs m v u ∧ path qs (u :: vs) (p ++ q) := h
    obtain ⟨h1, h2⟩ := path_app h.2
    refine ⟨?_, h2⟩
    show path qs (v :: (u :: vs).take (p.length + 1)) (m :: p)
    rw [List.take_succ_cons] at h1 ⊢
    exact ⟨h.1, h1⟩
  | m :: p, [v], q, h => absurd h id
  | m :: p, [], q, h => absurd h id
/-- a closed row, begun anywhere: the workers behind x are U -/
structure Turned (qs : List QD) (x : Str) (U : List Str) (R : List Mk) : Prop where
  pa : path qs (x :: U) R
  la : U.getLastD x = x
  nd : U.Nodup
  mx : (R.map (·.1)).Nodup
  l2 : 2 ≤ R.length
theorem Turned.ln {qs : List QD} {x : Str} {U : List Str} {R : List Mk} (t : Turned qs x U R) : U.length = R.length := by
  have := path_len t.pa
  rw [List.length_cons] at this
  omega
theorem ring_marks {qs : List QD} {w : Str} {us : List Str} {r : List Mk} (h : RingW qs w us r) : (r.map (·.1)).Nodup := by
  have hl := path_len h.pa
  rw [List.length_append, List.length_cons, List.length_singleton] at hl
  have hwn : (w :: us).Nodup := List.nodup_cons.mpr ⟨fun z => (h.gt w z).1 rfl, h.nd⟩
  refine List.pairwise_iff_getElem.mpr fun i j hi hj hij e => ?_
  rw [List.length_map] at hi hj
  rw [List.getElem_map, List.getElem_map] at e
  obtain ⟨a, b, h1, h2, h3⟩ := path_get h.pa (List.getElem?_eq_getElem hi)
  obtain ⟨c, d, g1, g2, g3⟩ := path_get h.pa (List.getElem?_eq_getElem hj)
  have inn : ∀ {k : Nat} {z : Str}, k ≤ us.length → (w :: us ++ [w])[k]? = some z → (w :: us)[k]? = some z := fun {k z} hk e => by
    rw [List.getElem?_append_left (by rw [List.length_cons]; omega)] at e
    exact e
  have k1 := inn (by omega) h1
  have k2 := inn (by omega) h2
  have k3 := inn (by omega) g1
  rcases link_same e h3 g3 with ⟨e1, _⟩ | ⟨e1, e2⟩
  · rw [e1] at k1
    have := nodup_ix hwn k1 k3
    omega
  · rw [e2] at k2
    have e3 := nodup_ix hwn k2 k3
    by_cases hj2 : j + 1 ≤ us.length
    · have k4 := inn hj2 g2
      rw [e1] at k1
      have := nodup_ix hwn k1 k4
      omega
    · have ej : j = us.length := by omega
      have hd : d = w := by
        rw [List.getElem?_append_right (by rw [List.length_cons]; omega), ej, List.length_cons, Nat.sub_self] at g2
        exact (Option.some.inj g2).symm
      have k0 : (w :: us)[0]? = some w := rfl
      rw [e1, hd] at k1
      have e0 := nodup_ix hwn k1 k0
      have hr : r = [r[i]] ++ [r[j]] := by
        refine List.ext_getElem (by simp; omega) fun n n1 n2 => ?_
        match n, n1 with
        | 0, _ => simp [e0]
        | 1, _ => simp [show j = 1 by omega]
        | n + 2, n1 => omega
      exact h.la _ _ hr (by rw [List.map_singleton, List.mem_singleton]; exact e.symm)
theorem turned_of {qs : List QD} {w : Str} {us : List Str} {r : List Mk} (h : RingW qs w us r) {k : Nat} (hk : k < r.length) : ∃ x U, Turned qs x U (r.drop k ++ r.take k) := by
  have hl := path_len h.pa
  rw [List.length_append, List.length_cons, List.length_singleton] at hl
  have hu := List.length_pos_iff.mpr h.ne
  have hwn : (w :: us).Nodup := List.nodup_cons.mpr ⟨fun z => (h.gt w z).1 rfl, h.nd⟩
  have hpa : path qs (w :: (us ++ [w])) (r.take k ++ r.drop k) := by
    rw [List.take_append_drop]
    exact h.pa
  obtain ⟨p1, p2⟩ := path_app hpa
  have lk : (r.take k).length = k := by rw [List.length_take]; omega
  rw [lk] at p1 p2
  have hkl : k < (w :: (us ++ [w])).length := by simp; omega
  rw [List.take_succ_cons, List.take_append_of_le_length (by omega)] at p1
  rw [List.drop_eq_getElem_cons hkl, List.drop_succ_cons, List.drop_append_of_le_length (by omega)] at p2
  refine ⟨(w :: (us ++ [w]))[k], us.drop k ++ [w] ++ us.take k, path_cat p2 (by rw [List.getLastD_concat]; exact p1), ?_, ?_, ?_, ?_⟩
  · match k, hkl with
    | 0, _ =>
      rw [List.take_zero, List.append_nil, List.getLastD_concat]
      rfl
    | k + 1, hkl =>
      have hku : k < us.length := by omega
      rw [List.take_add_one, List.getElem?_eq_getElem hku]
      show (us.drop (k + 1) ++ [w] ++ (us.take k ++ [us[k]])).getLastD _ = _
      rw [← List.append_assoc, List.getLastD_concat, List.getElem_cons_succ, List.getElem_append_left hku]
  · refine (List.Perm.nodup_iff ?_).mpr hwn
    rw [List.append_assoc]
    refine List.perm_append_comm.trans ?_
    rw [List.append_assoc, List.take_append_drop]
    exact List.Perm.refl _
  · refine (List.Perm.nodup_iff ?_).mpr (ring_marks h)
    refine List.Perm.map _ ?_
    have : (r.drop k ++ r.take k).Perm (r.take k ++ r.drop k) := List.perm_append_comm
    rw [List.take_append_drop] at this
    exact this
  · rw [List.length_append, List.length_drop, List.length_take]
    omega
theorem turn_perm {r : List Mk} {k : Nat} : (r.drop k ++ r.take k).Perm r := by
  have : (r.drop k ++ r.take k).Perm (r.take k ++ r.drop k) := List.perm_append_comm
  rw [List.take_append_drop] at this
  exact this
theorem Turned.mem {qs : List QD} {x : Str} {U : List Str} {R : List Mk} (t : Turned qs x U R) : x ∈ U := by
  have h := t.la
  have hn : U ≠ [] := fun z => by
    have a := t.ln
    have b := t.l2
    rw [z] at a
    simp at a
    omega
  have g : (x :: U)[U.length]? = some (U.getLastD x) := last_get
  rw [h] at g
  obtain ⟨u, us, rfl⟩ : ∃ u us, U = u :: us := by
    cases U with
    | nil => exact absurd rfl hn
    | cons u us => exact ⟨u, us, rfl⟩
  rw [List.length_cons, List.getElem?_cons_succ] at g
  exact List.mem_of_getElem? g
theorem nms_nd {ws : List Str} {qs : List QD} (g : NetG ws qs) : ∀ {R : List Mk}, (R.map (·.1)).Nodup → (∀ m ∈ R, m.1 < qs.length) → (R.map (nmQ qs)).Nodup
  | [], _, _ => List.nodup_nil
  | m :: R, h, hl => by
    rw [List.map_cons, List.nodup_cons] at h ⊢
    refine ⟨fun z => h.1 ?_, nms_nd g h.2 fun x hx => hl x (List.mem_cons_of_mem _ hx)⟩
    obtain ⟨m2, hm2, e⟩ := List.mem_map.mp z
    exact List.mem_map.mpr ⟨m2, hm2, (nm_inj g (hl m2 (List.mem_cons_of_mem _ hm2)) (hl m List.mem_cons_self)).mp e⟩
theorem path_lt {qs : List QD} {vs : List Str} {ms : List Mk} (h : path qs vs ms) : ∀ m ∈ ms, m.1 < qs.length := fun m hm => by
  obtain ⟨x, y, hl, _⟩ := path_in h hm
  exact link_lt hl
theorem ring_yes {ws : List Str} {qs : List QD} {x : Str} {U : List Str} {R : List Mk} (g : NetG ws qs) (t : Turned qs x U R) : ringF qs x U R = true := by
  unfold ringF
  have h1 : (dedS (x :: U)).length = R.length := by
    have a := ded_le (xs := x :: U) (U := U) fun y hy => by
      rcases List.mem_cons.mp hy with rfl | hy
      · exact t.mem
      · exact hy
    have b := ded_ge (xs := x :: U) t.nd fun y hy => List.mem_cons_of_mem _ hy
    rw [← t.ln]
    omega
  have h2 : (dedS (R.map (nmQ qs))).length = R.length := by
    have a := dedS_len (R.map (nmQ qs))
    have b := ded_ge (xs := R.map (nmQ qs)) (nms_nd g t.mx (path_lt t.pa)) fun y hy => hy
    rw [List.length_map] at a b
    omega
  rw [t.la, decide_eq_true rfl, decide_eq_true h1, decide_eq_true h2]
  rfl
/-- more steps than workers -/
theorem ring_long {qs : List QD} {x : Str} {us U : List Str} {ms : List Mk} (h : ∀ y ∈ x :: us, y ∈ U) (hl : U.length < ms.length) : ringF qs x us ms = false := by
  unfold ringF
  have a := ded_le h
  rw [decide_eq_false (show ¬ (dedS (x :: us)).length = ms.length by omega), Bool.false_and, Bool.and_false]
theorem ring_open {qs : List QD} {x : Str} {us : List Str} {ms : List Mk} (h : x ≠ us.getLastD x) : ringF qs x us ms = false := by
  unfold ringF
  rw [decide_eq_false h, Bool.false_and]
theorem ring_none {qs : List QD} {x : Str} : ringF qs x [] [] = false := by
  unfold ringF
  rw [decide_eq_false (show ¬ (dedS [x]).length = ([] : List Mk).length from fun z => nomatch z), Bool.false_and, Bool.and_false]
theorem ring_twice {qs : List QD} {x : Str} {us : List Str} {m m' : Mk} (h : nmQ qs m = nmQ qs m') : ringF qs x us [m, m'] = false := by
  unfold ringF
  have e : (dedS ([m, m'].map (nmQ qs))).length = 1 := by
    show (dedS [nmQ qs m, nmQ qs m']).length = 1
    rw [h]
    show (stepD (stepD [] _) _).length = 1
    unfold stepD
    simp
  rw [e, decide_eq_false (show ¬ 1 = [m, m'].length from fun z => nomatch z), Bool.and_false, Bool.and_false]
end Jl

set_option Elab.async false
set_option linter.all false
set_option maxRecDepth 100000
set_option maxHeartbeats 1000000
set_option pp.maxSteps 300
namespace Jl
open PySem PySem.Spec PyProof.Rows L2
open Evl (sz_of sz_lt)
local macro_rules | `(tactic| walk_at "at") => `(tactic| first | exact box0 | exact box1 | exact box2)
local macro_rules | `(tactic| walk_at "sq") => `(tactic| first | (show SqL _ _ _ _; assumption) | (show SqT _ _ _ _; assumption) | (show _ = some _; assumption))
local macro_rules | `(tactic| walk_at "side") => `(tactic| first
  | (show (0 : Int) < _; decide)
  | (show (0 : Int) < _; omega)
  | exact ⟨by decide, by decide, by decide⟩
  | exact sz_of (Nat.le_of_ble_eq_true rfl)
  | exact rfl
  | exact Or.inl (by decide)
  | exact Or.inr (by decide)
  | exact Or.inr ⟨by omega, by omega⟩
  | exact Or.inl ⟨by omega, by omega⟩
  | exact ⟨by decide, by decide +kernel⟩)
local macro_rules | `(tactic| walk_at "ev1") => `(tactic| first
  | refine ⟨_, rfl, ?_⟩
  | refine ⟨_, _, rfl, rfl, ?_⟩
  | refine ⟨_, _, _, _, rfl, rfl, (by walk_at "sq"), (by walk_at "at"), ?_⟩
  | refine ⟨_, _, rfl, (by walk_at "sq"), ?_⟩
  | refine ⟨_, _, rfl, Or.inl (by walk_at "sq"), ?_⟩
  | refine ⟨_, _, rfl, Or.inr (by walk_at "sq"), ?_⟩
  | refine Or.inl ⟨_, rfl, ?_⟩
  | refine Or.inr ⟨_, rfl, ?_⟩
  | refine ⟨(by walk_at "side"), ?_⟩
  | refine ⟨.inl ⟨rfl, _, (by walk_at "sq")⟩, ?_⟩
  | refine ⟨_, _, rfl, ?_⟩)
local macro_rules | `(tactic| walk_at "nrm") => `(tactic| dsimp only [tNil, tCons, tC, tCB])
local macro_rules | `(tactic| walk_at "ev") => `(tactic| repeat (walk_at "ev1"))
/-! ### numbers lowered until nothing changes -/
structure LB where
  needs : List (Str × Int)
  cho : List (Str × Nat)
  ag : Bool
def lessN (s : LB) (a : Arc) (x : Int) : Bool := match lk s.needs a.fr with
  | none => true
  | some y => decide (x < y)
def lowNum (a : Arc) (x : Int) : Int := if x + a.wt > 0 then x + a.wt else 0
def lowA (as : List Arc) (s : LB) (i : Nat) : LB := match as[i]? with
  | none => s
  | some a => match lk s.needs a.to with
    | none => s
    | some x => if lessN s a (lowNum a x) = true then ⟨putM s.needs a.fr (lowNum a x), putM s.cho a.fr i, true⟩ else s
def lowR (as : List Arc) (s : LB) (n : Nat) : LB := (List.range n).foldl (lowA as) { s with ag := false }
theorem lowR_next {as : List Arc} {s : LB} {n : Nat} : lowR as s (n + 1) = lowA as (lowR as s n) n := by
  unfold lowR
  rw [List.range_succ, List.foldl_append]
  rfl
theorem lowA_none {as : List Arc} {s : LB} {i : Nat} {a : Arc} (h : as[i]? = some a) (h2 : lk s.needs a.to = none) : lowA as s i = s := by
  unfold lowA
  rw [h]
  dsimp only
  rw [h2]
theorem lowA_yes {as : List Arc} {s : LB} {i : Nat} {a : Arc} {x : Int} (h : as[i]? = some a) (h2 : lk s.needs a.to = some x) (h3 : lessN s a (lowNum a x) = true) : lowA as s i = ⟨putM s.needs a.fr (lowNum a x), putM s.cho a.fr i, true⟩ := by
  unfold lowA
  rw [h]
  dsimp only
  rw [h2]
  dsimp only
  rw [if_pos h3]
theorem lowA_no {as : List Arc} {s : LB} {i : Nat} {a : Arc} {x : Int} (h : as[i]? = some a) (h2 : lk s.needs a.to = some x) (h3 : lessN s a (lowNum a x) = false) : lowA as s i = s := by
  unfold lowA
  rw [h]
  dsimp only
  rw [h2]
  dsimp only
  rw [h3]
  rfl
/-- so many rounds after this one, then the end -/
inductive LowEnd (as : List Arc) : Nat → LB → LB → Prop
  | stop {s : LB} : (lowR as s as.length).ag = false → LowEnd as 0 s (lowR as s as.length)
  | go {n : Nat} {s t : LB} : (lowR as s as.length).ag = true → LowEnd as n (lowR as s as.length) t → LowEnd as (n + 1) s t
theorem lk_putL {α : Type} {k z : Str} {v : α} : ∀ {m : List (Str × α)}, lk (putM m k v) z = if k = z then some v else lk m z := by
  have app : ∀ (m : List (Str × α)), lk m k = none → lk (m ++ [(k, v)]) z = if k = z then some v else lk m z := fun m => by
    induction m with
    | nil => intro _; rfl
    | cons p m ih =>
      intro h
      unfold lk at h
      by_cases e : p.1 = k
      · rw [if_pos e] at h
        cases h
      · rw [if_neg e] at h
        rw [List.cons_append]
        show (if p.1 = z then some p.2 else lk (m ++ [(k, v)]) z) = if k = z then some v else if p.1 = z then some p.2 else lk m z
        rw [ih h]
        by_cases e1 : p.1 = z
        · rw [if_pos e1, if_pos e1]
          by_cases e2 : k = z
          · exact absurd (e1.trans e2.symm) e
          · rw [if_neg e2]
        · rw [if_neg e1, if_neg e1]
  have mp : ∀ (m : List (Str × α)), (lk m k).isSome = true → lk (m.map fun p => if p.1 = k then (p.1, v) else p) z = if k = z then some v else lk m z := fun m => by
    induction m with
    | nil => intro h; cases h
    | cons p m ih =>
      intro h
      unfold lk at h
      rw [List.map_cons]
      by_cases e : p.1 = k
      · rw [if_pos e]
        show (if p.1 = z then some v else lk _ z) = if k = z then some v else if p.1 = z then some p.2 else lk m z
        by_cases e2 : k = z
        · rw [if_pos (e.trans e2), if_pos e2]
        · rw [if_neg (fun x => e2 (e.symm.trans x)), if_neg e2, if_neg (fun x => e2 (e.symm.trans x))]
          by_cases h3 : (lk m k).isSome = true
          · rw [ih h3, if_neg e2]
          · have h4 : (m.map fun p => if p.1 = k then (p.1, v) else p) = m := by
              have : ∀ q ∈ m, q.1 ≠ k := fun q hq e3 => h3 (by
                clear ih h
                induction m with
                | nil => cases hq
                | cons r m ih2 =>
                  unfold lk
                  by_cases e4 : r.1 = k
                  · rw [if_pos e4]; rfl
                  · rw [if_neg e4]
                    rcases List.mem_cons.mp hq with rfl | hq
                    · exact absurd e3 e4
                    · refine ih2 (fun z => h3 ?_) hq
                      unfold lk
                      rw [if_neg e4]
                      exact z)
              exact (List.map_congr_left fun q hq => if_neg (this q hq)).trans (List.map_id' m)
            rw [h4]
      · rw [if_neg e] at h ⊢
        show (if p.1 = z then some p.2 else lk _ z) = if k = z then some v else if p.1 = z then some p.2 else lk m z
        rw [ih h]
        by_cases e1 : p.1 = z
        · rw [if_pos e1, if_pos e1, if_neg (fun x => e (e1.trans x.symm))]
        · rw [if_neg e1, if_neg e1]
  intro m
  unfold putM
  by_cases h : (lk m k).isSome = true
  · rw [if_pos h]
    exact mp m h
  · rw [if_neg h]
    refine app m ?_
    cases hh : lk m k with
    | none => rfl
    | some x => rw [hh] at h; exact absurd rfl h
theorem sum_lt {α : Type} {f g : α → Nat} : ∀ {U : List α}, (∀ u ∈ U, g u ≤ f u) → (∃ u ∈ U, g u < f u) → (U.map g).sum < (U.map f).sum
  | [], _, h => by
    obtain ⟨u, hu, _⟩ := h
    cases hu
  | x :: U, h1, h2 => by
    rw [List.map_cons, List.map_cons, List.sum_cons, List.sum_cons]
    have le : ∀ {U : List α}, (∀ u ∈ U, g u ≤ f u) → (U.map g).sum ≤ (U.map f).sum := fun {U} h => by
      induction U with
      | nil => exact Nat.le_refl _
      | cons y U ih =>
        rw [List.map_cons, List.map_cons, List.sum_cons, List.sum_cons]
        have := h y List.mem_cons_self
        have := ih fun u hu => h u (List.mem_cons_of_mem _ hu)
        omega
    have hx := h1 x List.mem_cons_self
    have hr := le fun u hu => h1 u (List.mem_cons_of_mem _ hu)
    obtain ⟨u, hu, hl⟩ := h2
    rcases List.mem_cons.mp hu with rfl | hu
    · omega
    · have := sum_lt (fun u hu => h1 u (List.mem_cons_of_mem _ hu)) ⟨u, hu, hl⟩
      omega
/-- how many have no number; the sum of the numbers -/
def misL (as : List Arc) (s : LB) : Nat := ((as.map Arc.fr).map fun u => if lk s.needs u = none then 1 else 0).sum
def sumL (as : List Arc) (s : LB) : Nat := ((as.map Arc.fr).map fun u => ((lk s.needs u).getD 0).toNat).sum
def LtL (as : List Arc) (s t : LB) : Prop := misL as s < misL as t ∨ (misL as s = misL as t ∧ sumL as s < sumL as t)
theorem LtL.trans {as : List Arc} {s t u : LB} (h : LtL as s t) (h2 : LtL as t u) : LtL as s u := by
  unfold LtL at *
  omega
theorem lowA_lt {as : List Arc} {s : LB} {i : Nat} : lowA as s i = s ∨ ((lowA as s i).ag = true ∧ LtL as (lowA as s i) s) := by
  cases ha : as[i]? with
  | none =>
    refine .inl ?_
    unfold lowA
    rw [ha]
  | some a =>
    cases hx : lk s.needs a.to with
    | none => exact .inl (lowA_none ha hx)
    | some x =>
      cases hl : lessN s a (lowNum a x) with
      | false => exact .inl (lowA_no ha hx hl)
      | true =>
        rw [lowA_yes ha hx hl]
        refine .inr ⟨rfl, ?_⟩
        have hU : a.fr ∈ as.map Arc.fr := List.mem_map_of_mem (List.mem_of_getElem? ha)
        have h0 : 0 ≤ lowNum a x := by
          unfold lowNum
          split <;> omega
        unfold lessN at hl
        cases hy : lk s.needs a.fr with
        | none =>
          refine .inl (sum_lt (fun u _ => ?_) ⟨a.fr, hU, ?_⟩)
          · show (if lk (putM s.needs a.fr (lowNum a x)) u = none then 1 else 0) ≤ if lk s.needs u = none then 1 else 0
            rw [lk_putL]
            by_cases e : a.fr = u
            · rw [if_pos e, if_neg (fun z => by cases z)]
              exact Nat.zero_le _
            · rw [if_neg e]
              exact Nat.le_refl _
          · show (if lk (putM s.needs a.fr (lowNum a x)) a.fr = none then 1 else 0) < if lk s.needs a.fr = none then 1 else 0
            rw [lk_putL, if_pos rfl, hy, if_neg (fun z => by cases z), if_pos rfl]
            decide
        | some y =>
          rw [hy] at hl
          have hl : lowNum a x < y := of_decide_eq_true hl
          refine .inr ⟨?_, sum_lt (fun u _ => ?_) ⟨a.fr, hU, ?_⟩⟩
          · unfold misL
            congr 1
            apply List.map_congr_left
            intro u _
            show (if lk (putM s.needs a.fr (lowNum a x)) u = none then 1 else 0) = if lk s.needs u = none then 1 else 0
            rw [lk_putL]
            by_cases e : a.fr = u
            · rw [if_pos e, ← e, hy]
              rfl
            · rw [if_neg e]
          · show ((lk (putM s.needs a.fr (lowNum a x)) u).getD 0).toNat ≤ ((lk s.needs u).getD 0).toNat
            rw [lk_putL]
            by_cases e : a.fr = u
            · rw [if_pos e, ← e, hy]
              show (lowNum a x).toNat ≤ y.toNat
              omega
            · rw [if_neg e]
              exact Nat.le_refl _
          · show ((lk (putM s.needs a.fr (lowNum a x)) a.fr).getD 0).toNat < ((lk s.needs a.fr).getD 0).toNat
            rw [lk_putL, if_pos rfl, hy]
            show (lowNum a x).toNat < y.toNat
            omega
theorem lowR_lt {as : List Arc} {s : LB} : ∀ n : Nat, ((lowR as s n).ag = false ∧ (lowR as s n).needs = s.needs) ∨ ((lowR as s n).ag = true ∧ LtL as (lowR as s n) s)
  | 0 => .inl ⟨rfl, rfl⟩
  | n + 1 => by
    rw [lowR_next]
    have ih := lowR_lt (as := as) (s := s) n
    generalize lowR as s n = r at ih ⊢
    rcases lowA_lt (as := as) (s := r) (i := n) with h | ⟨h1, h2⟩
    · rw [h]
      exact ih
    · refine .inr ⟨h1, ?_⟩
      rcases ih with ⟨_, e⟩ | ⟨_, h⟩
      · unfold LtL misL sumL at h2 ⊢
        rw [e] at h2
        exact h2
      · exact h2.trans h
theorem low_ends {as : List Arc} : ∀ (a b : Nat) (s : LB), misL as s = a → sumL as s = b → ∃ n t, LowEnd as n s t := by
  intro a
  induction a using Nat.strongRecOn with
  | _ a iha =>
    intro b
    induction b using Nat.strongRecOn with
    | _ b ihb =>
      intro s ea eb
      rcases lowR_lt (as := as) (s := s) as.length with ⟨h, _⟩ | ⟨h, hl⟩
      · exact ⟨0, _, .stop h⟩
      · have : ∃ n t, LowEnd as n (lowR as s as.length) t := by
          rcases hl with hl | ⟨he, hl⟩
          · exact iha _ (by omega) _ _ rfl rfl
          · exact ihb _ (by omega) _ (he.trans ea) rfl
        obtain ⟨n, t, h2⟩ := this
        exact ⟨n + 1, t, .go h h2⟩
/-! ### the keys -/
theorem putM_keys {α : Type} {m : List (Str × α)} {k : Str} {v : α} : (putM m k v).map (·.1) = if (lk m k).isSome = true then m.map (·.1) else m.map (·.1) ++ [k] := by
  unfold putM
  by_cases h : (lk m k).isSome = true
  · rw [if_pos h, if_pos h, List.map_map]
    apply List.map_congr_left
    intro p _
    show (if p.1 = k then (p.1, v) else p).1 = p.1
    split <;> rfl
  · rw [if_neg h, if_neg h, List.map_append]
    rfl
theorem lk_key {α : Type} {k : Str} : ∀ {m : List (Str × α)}, k ∈ m.map (·.1) → (lk m k).isSome = true
  | [], h => by cases h
  | p :: m, h => by
    unfold lk
    by_cases e : p.1 = k
    · rw [if_pos e]
      rfl
    · rw [if_neg e]
      rw [List.map_cons] at h
      rcases List.mem_cons.mp h with h | h
      · exact absurd h.symm e
      · exact lk_key h
/-- keys once each, out of U -/
structure Kys {α : Type} (U : List Str) (m : List (Str × α)) : Prop where
  nd : (m.map (·.1)).Nodup
  sub : ∀ k ∈ m.map (·.1), k ∈ U
theorem Kys.put {α : Type} {U : List Str} {m : List (Str × α)} {k : Str} {v : α} (h : Kys U m) (hk : k ∈ U) : Kys U (putM m k v) := by
  by_cases hs : (lk m k).isSome = true
  · exact ⟨by rw [putM_keys, if_pos hs]; exact h.nd, by rw [putM_keys, if_pos hs]; exact h.sub⟩
  · refine ⟨?_, ?_⟩
    · rw [putM_keys, if_neg hs, List.nodup_append]
      refine ⟨h.nd, (by simp), fun a ha b hb e => ?_⟩
      rw [List.mem_singleton.mp hb] at e
      exact hs (lk_key (by rw [← e]; exact ha))
    · rw [putM_keys, if_neg hs]
      intro x hx
      rcases List.mem_append.mp hx with hx | hx
      · exact h.sub x hx
      · rw [List.mem_singleton.mp hx]
        exact hk
theorem Kys.len {α : Type} {U : List Str} {m : List (Str × α)} (h : Kys U m) : m.length ≤ U.length := by
  have := List.Nodup.length_le_of_subset h.nd h.sub
  rwa [List.length_map] at this
end Jl

set_option Elab.async false
set_option linter.all false
set_option maxRecDepth 100000
set_option maxHeartbeats 1000000
set_option pp.maxSteps 300
namespace Jl
open PySem PySem.Spec PyProof.Rows L2
open Evl (sz_of sz_lt)
local macro_rules | `(tactic| walk_at "at") => `(tactic| first | exact box0 | exact box1 | exact box2)
local macro_rules | `(tactic| walk_at "sq") => `(tactic| first | (show SqL _ _ _ _; assumption) | (show SqT _ _ _ _; assumption) | (show _ = some _; assumption))
local macro_rules | `(tactic| walk_at "side") => `(tactic| first
  | (show (0 : Int) < _; decide)
  | (show (0 : Int) < _; omega)
  | exact ⟨by decide, by decide, by decide⟩
  | exact sz_of (Nat.le_of_ble_eq_true rfl)
  | exact rfl
  | exact Or.inl (by decide)
  | exact Or.inr (by decide)
  | exact Or.inr ⟨by omega, by omega⟩
  | exact Or.inl ⟨by omega, by omega⟩
  | exact ⟨by decide, by decide +kernel⟩)
local macro_rules | `(tactic| walk_at "ev1") => `(tactic| first
  | refine ⟨_, rfl, ?_⟩
  | refine ⟨_, _, rfl, rfl, ?_⟩
  | refine ⟨_, _, _, _, rfl, rfl, (by walk_at "sq"), (by walk_at "at"), ?_⟩
  | refine ⟨_, _, rfl, (by walk_at "sq"), ?_⟩
  | refine ⟨_, _, rfl, Or.inl (by walk_at "sq"), ?_⟩
  | refine ⟨_, _, rfl, Or.inr (by walk_at "sq"), ?_⟩
  | refine Or.inl ⟨_, rfl, ?_⟩
  | refine Or.inr ⟨_, rfl, ?_⟩
  | refine ⟨(by walk_at "side"), ?_⟩
  | refine ⟨.inl ⟨rfl, _, (by walk_at "sq")⟩, ?_⟩
  | refine ⟨_, _, rfl, ?_⟩)
local macro_rules | `(tactic| walk_at "nrm") => `(tactic| dsimp only [tNil, tCons, tC, tCB])
local macro_rules | `(tactic| walk_at "ev") => `(tactic| repeat (walk_at "ev1"))
abbrev sc_lowered_N : List Str := ["arcs", "first", "needs", "chosen", "again", "arc", "number", "worker"]
abbrev s_lowered : Stmt := topS 22
theorem sc_lowered : FnScope ["arcs", "first", "needs", "chosen", "again", "arc", "number", "worker"] ["arcs", "first"] (defScope s_lowered) := ⟨rfl, rfl, rfl, by decide +kernel, rfl, by decide +kernel, by decide +kernel⟩
theorem asg_ofL {te : TE} {i : Nat} {u : TS} {D : Ends} {σ : L2.St} {H : Hp} (h : te σ H fun v H1 => u D (σ.set i (some v)) H1) : tSeq (tAsg te (gName i)) u D σ H := h
theorem whl_ofL {t : TT} {tb u : TS} {D : Ends} {σ : L2.St} {H : Hp} (h : tWhile t tb { D with nx := u D } σ H) : tSeq (tWhileX t tb) u D σ H := .yes h
section
variable {P : Program} {w : World} {K : PySem.W.Frag} {mg : Str → Option Value} {base : Heap}
def spLowered (K : PySem.W.Frag) : Sp := fun vs H Q _ => ∃ (la fa : Addr) (ys : List V) (as : List Arc) (f0 : List (Str × Int)), vs = [.ref la, .ref fa] ∧ SqL K H la ys ∧ DpAll K H ys (as.map Arc.d) ∧ H fa = some (.dK (kvM V.int f0)) ∧ (f0.map (·.1)).Nodup ∧ f0.length ≤ 1000 ∧ as.length ≤ 1000 ∧
  ∀ H' p S L n t, Same H H' → H p = none → H S = none → H L = none → LowEnd as n ⟨f0, [], true⟩ t → H' p = some (.tup [.ref S, .ref L]) → H' S = some (.dK (kvM V.int t.needs)) → H' L = some (.dK (kvM (fun i => ys.getD i .non) t.cho)) → Q (.ref p) H'
theorem ok_lowered {f : Addr} {fd : FuncData} {k : Nat} (F : Fun K "lowered" "lowered" s_lowered f fd) (m_max : mg "max" = none) : FnOk P w K mg base CX0 (k + 1) f fd ["arcs", "first"] (spLowered K) := by
  refine F.ok sc_lowered (fun vs H Q E h => ?_) (fun cdv A outer s0 H vs Q E hr h => ?_)
  · obtain ⟨la, fa, ys, as, f0, rfl, _⟩ := h
    rfl
  · obtain ⟨la, fa, ys, as, f0, rfl, hla, hda, hfa, hnd, hf1, ha1, q⟩ := h
    have hu := hu_of hr
    refine ⟨_, (pss_cons (ps_lock (ps_setDcX (ps_setDc (i := 2) (own := [("worker", 7)]) (g := gName 7) (tt := tYes) rfl sc_lowered.nd rfl rfl (swd_true rfl rfl rfl (by decide +kernel)) (pi_keys (pv 1)) (blkOk_by (own := [("worker", 7)]) (N := sc_lowered_N) (sc := defScope s_lowered) (by decide +kernel)) (fun _ _ _ _ _ => pg_name (i := 7) sc_lowered.nd rfl (Or.inl rfl)) (fun _ _ _ _ _ => pts_nil) (fun _ _ _ _ _ => (pv 7)) (fun _ _ _ _ _ => (pe_dget hu (pv 1) (pv 7) (fun _ _ => rfl)))))) 
    (pss_cons (ps_set (i := 3) sc_lowered.nd rfl (Or.inl rfl) pe_dnewK) 
    (pss_cons (ps_set (i := 4) sc_lowered.nd rfl (Or.inl rfl) pe_bl) 
    (pss_cons (ps_whileX (ps_while PassesOwn.never (pt_val (pv 4)) 
      (pss_cons (ps_set (i := 4) sc_lowered.nd rfl (Or.inl rfl) pe_bl) 
      (pss_one (ps_forX (ps_for PassesOwn.never rfl (pi_seq (pv 0)) (pg_name (i := 5) sc_lowered.nd rfl (Or.inl rfl)) (pss_one (ps_if (pt_cmp (pc_din hu (pe_ix ix_lt (pv 5) pe_int (fun _ _ => rfl)) (pv 2))) 
          (pss_cons (ps_set (i := 6) sc_lowered.nd rfl (Or.inl rfl) (pe_callB (call_max2 rfl) (by rfl) m_max (by decide +kernel) (pa_cons pe_int (pa_cons (pe_op op_add (pe_dget hu (pv 2) (pe_ix ix_lt (pv 5) pe_int (fun _ _ => rfl)) (fun _ _ => rfl)) (pe_ix ix_lt (pv 5) pe_int (fun _ _ => rfl))) pa_nil)))) 
          (pss_one (ps_if (PW.pt (pw_or (pt_cmp (pc_dnotin hu (pe_ix ix_lt (pv 5) pe_int (fun _ _ => rfl)) (pv 2))) (pw_or1 (pt_cmpR op_lt (pv 6) (pe_dget hu (pv 2) (pe_ix ix_lt (pv 5) pe_int (fun _ _ => rfl)) (fun _ _ => rfl)) (nomark _))))) 
            (pss_cons (ps_dput hu (pv 2) (pe_ix ix_lt (pv 5) pe_int (fun _ _ => rfl)) (pv 6) rfl) 
            (pss_cons (ps_dput hu (pv 3) (pe_ix ix_lt (pv 5) pe_int (fun _ _ => rfl)) (pv 5) rfl) 
            (pss_one (ps_set (i := 4) sc_lowered.nd rfl (Or.inl rfl) pe_bl)))) pss_nil))) pss_nil)))))))) 
    (pss_one (ps_ret (pe_tup (pa_cons (pv 2) (pa_cons (pv 3) pa_nil))))))))), ?_⟩
    rw [show L2.start (["arcs", "first", "needs", "chosen", "again", "arc", "number", "worker"] : List Str) [.ref la, .ref fa] = [some (.ref la), some (.ref fa), none, none, none, none, none, none] from rfl]
    refine ⟨fa, .dK (kvM V.int f0), hfa, trivial, fun od => ?_⟩
    have hF3 : (upd H fa (.frz od (.dK (kvM V.int f0)))) fa = some (.frz od (.dK (kvM V.int f0))) := upd_same
    have back : ∀ H4, Same (upd H fa (.frz od (.dK (kvM V.int f0)))) H4 → Same H (upd H4 fa (.dK (kvM V.int f0))) := fun H4 s4 a o ha => by
      by_cases ea : a = fa
      · rw [ea, upd_same, ← hfa, ← ea]
        exact ha
      · rw [upd_ne ea]
        refine s4 _ _ ?_
        rw [upd_ne ea]
        exact ha
    have free : ∀ a, (upd H fa (.frz od (.dK (kvM V.int f0)))) a = none → H a = none := fun a ha => by
      by_cases ea : a = fa
      · rw [ea, upd_same] at ha
        cases ha
      · rw [upd_ne ea] at ha
        exact ha
    generalize upd H fa (.frz od (.dK (kvM V.int f0))) = H3 at hF3 back free ⊢
    refine dc_of ?_
    refine ⟨_, rfl, fa, od, rfl, .inl ⟨kvM V.int f0, hF3, fun D2 hD2 => ?_⟩⟩
    refine dc_it walk_keys (fun i H' => Same H3 H' ∧ H' D2 = some (.dK (kvM V.int (f0.take i)))) ⟨.upd hD2, upd_same⟩ (fun i H' _ p => p.1 _ _ hF3) (fun i x H1 H1' hi p y => ?_) (fun H4 p => ?_)
    · obtain ⟨s1, h1⟩ := p
      obtain ⟨rfl, k1, v1, hk, rfl⟩ := y
      unfold kvM at hk
      rw [List.getElem?_map] at hk
      cases hz : f0[i]? with
      | none =>
        rw [hz] at hk
        cases hk
      | some z =>
        rw [hz] at hk
        cases hk
        have ht : f0.take (i + 1) = f0.take i ++ [z] := by rw [List.take_add_one, hz]; rfl
        have hno : z.1 ∉ (f0.take i).map (·.1) := fun hz2 => by
          rw [List.map_take] at hz2
          obtain ⟨k, hk1, hk2⟩ := List.mem_take_iff_getElem.mp hz2
          rw [List.length_map] at hk1
          have := nd_ix hnd (x := z.1) (by rw [List.getElem?_map, hz]; rfl) (by rw [List.getElem?_eq_getElem (show k < (f0.map (·.1)).length by rw [List.length_map]; omega)]; exact congrArg some hk2)
          omega
        have lti : i < f0.length := by
          rw [kvM_len] at hi
          exact hi
        refine ⟨rfl, ?_⟩
        dsimp only [tYes]
        refine iteT ?_
        refine ⟨_, rfl, ?_⟩
        have g1 : DGet H1' fa (kV (.inr z.1)) (some (.int z.2)) := .inl ⟨_, .inr z.1, .inr ⟨od, s1 _ _ hF3⟩, rfl, by rw [val_kvM, lk_mem hnd (List.mem_of_getElem? hz)]; rfl⟩
        refine ⟨_, rfl, _, rfl, fa, _, rfl, g1, ?_⟩
        refine ⟨_, .inr z.1, rfl, h1, by rw [kvM_len, List.length_take]; exact szL (by omega), s1.mut hD2, ?_⟩
        rw [upd_same, put_kvM (f := V.int), ht]
        unfold putM
        rw [lk_none hno]
        rfl
    · obtain ⟨s4, h4⟩ := p
      rw [kvM_len, List.take_length] at h4
      have nD2 : D2 ≠ fa := fun z => by
        rw [z, hF3] at hD2
        cases hD2
      refine ⟨s4 _ _ hF3, ?_⟩
      have sa := back _ s4
      have hS0 := free _ hD2
      have hS1 : (upd H4 fa (.dK (kvM V.int f0))) D2 = some (.dK (kvM V.int f0)) := by
        rw [upd_ne nD2]
        exact h4
      clear s4 h4
      generalize upd H4 fa (.dK (kvM V.int f0)) = H5 at sa hS1 ⊢
      clear hD2 nD2 back free hF3
      intro L hL5
      have hL0 := sa.free hL5
      have nSL : D2 ≠ L := fun z => by
        rw [z, hL5] at hS1
        cases hS1
      have sb := sa.trans (.upd (o := .dK []) hL5)
      have hS2 := (Same.upd (o := .dK []) hL5) _ _ hS1
      have hL2 : (upd H5 L (.dK [])) L = some (.dK (kvM (fun i => ys.getD i .non) [])) := upd_same
      generalize upd H5 L (.dK []) = H6 at sb hS2 hL2 ⊢
      clear sa hS1 hL5
      obtain ⟨nE, tE, hE⟩ := low_ends (as := as) _ _ ⟨f0, [], true⟩ rfl rfl
      have U0 : ∀ a ∈ as, a.fr ∈ f0.map (·.1) ++ as.map Arc.fr := fun a ha => List.mem_append_right _ (List.mem_map_of_mem ha)
      have lU : (f0.map (·.1) ++ as.map Arc.fr).length ≤ 2000 := by
        rw [List.length_append, List.length_map, List.length_map]
        omega
      have lys : ys.length = as.length := by
        have := dpa_len hda
        rwa [List.length_map] at this
      have kp : ∀ n s, Kys (f0.map (·.1) ++ as.map Arc.fr) s.needs → Kys (f0.map (·.1) ++ as.map Arc.fr) s.cho → Kys (f0.map (·.1) ++ as.map Arc.fr) (lowR as s n).needs ∧ Kys (f0.map (·.1) ++ as.map Arc.fr) (lowR as s n).cho := fun n s h1 h2 => by
        induction n with
        | zero => exact ⟨h1, h2⟩
        | succ n ih =>
          rw [lowR_next]
          generalize lowR as s n = r at ih ⊢
          unfold lowA
          split
          · exact ih
          · rename_i a ha
            split
            · exact ih
            · split
              · exact ⟨ih.1.put (U0 a (List.mem_of_getElem? ha)), ih.2.put (U0 a (List.mem_of_getElem? ha))⟩
              · exact ih
      dsimp only [gName, List.set]
      refine asg_ofL ?_
      dsimp only [tC, List.set]
      refine whl_ofL ?_
      refine ⟨fun m σ Hc => ∃ (x5 x6 : Option V) (b : Bool) (s : LB), σ = [some (.ref la), some (.ref fa), some (.ref D2), some (.ref L), some (.bl b), x5, x6, none] ∧ ((b = true ∧ ∃ n, m = n + 1 ∧ LowEnd as n s tE) ∨ (b = false ∧ s = tE)) ∧ Same H Hc ∧ Hc D2 = some (.dK (kvM V.int s.needs)) ∧ Hc L = some (.dK (kvM (fun i => ys.getD i .non) s.cho)) ∧ Kys (f0.map (·.1) ++ as.map Arc.fr) s.needs ∧ Kys (f0.map (·.1) ++ as.map Arc.fr) s.cho, ⟨nE + 1, _, _, true, ⟨f0, [], true⟩, rfl, .inl ⟨rfl, nE, rfl, hE⟩, sb, hS2, hL2, ⟨hnd, fun k hk => List.mem_append_left _ hk⟩, ⟨List.nodup_nil, fun k hk => absurd hk List.not_mem_nil⟩⟩, fun m σ Hc hW => ?_⟩
      obtain ⟨x5, x6, b, s, rfl, hm, sc, hSc, hLc, kn, kc⟩ := hW
      refine ⟨_, rfl, b, rfl, ?_⟩
      cases b with
      | false =>
        refine iteF ?_
        obtain ⟨h, _⟩ | ⟨_, rfl⟩ := hm
        · cases h
        refine ⟨_, rfl, _, rfl, by show 2 ≤ sizeLine; decide, fun p hp => ?_⟩
        exact q _ p D2 L nE s (sc.trans (.upd hp)) (sc.free hp) hS0 hL0 hE upd_same ((Same.upd hp) _ _ hSc) ((Same.upd hp) _ _ hLc)
      | true =>
        refine iteT ?_
        obtain ⟨_, n, rfl, hEnd⟩ | ⟨h, _⟩ := hm
        rotate_left
        · cases h
        have kq := kp as.length s kn kc
        refine ⟨fun σ' H' => ∃ (x5 x6 : Option V), σ' = [some (.ref la), some (.ref fa), some (.ref D2), some (.ref L), some (.bl (lowR as s as.length).ag), x5, x6, none] ∧ Same H H' ∧ H' D2 = some (.dK (kvM V.int (lowR as s as.length).needs)) ∧ H' L = some (.dK (kvM (fun i => ys.getD i .non) (lowR as s as.length).cho)), fun σ' H' hN => ?_, ?_⟩
        · obtain ⟨x5, x6, rfl, g1, g2, g3⟩ := hN
          cases hEnd with
          | stop h => exact ⟨0, by omega, x5, x6, false, _, by rw [h], .inr ⟨rfl, rfl⟩, g1, g2, g3, kq.1, kq.2⟩
          | @go n' _ _ h h2 => exact ⟨n' + 1, by omega, x5, x6, true, _, by rw [h], .inl ⟨rfl, n', rfl, h2⟩, g1, g2, g3, kq.1, kq.2⟩
        refine asg_ofL ?_
        dsimp only [tC, List.set]
        refine for_of ?_
        refine iSeq_at (f := false) (fun R' r => ⟨_, rfl, r⟩) (sc.sqL hla) fun J w => ?_
        refine forR_it w (fun i σ Hd => ∃ (x5 x6 : Option V), σ = [some (.ref la), some (.ref fa), some (.ref D2), some (.ref L), some (.bl (lowR as s i).ag), x5, x6, none] ∧ Same H Hd ∧ Hd D2 = some (.dK (kvM V.int (lowR as s i).needs)) ∧ Hd L = some (.dK (kvM (fun i => ys.getD i .non) (lowR as s i).cho))) ⟨_, _, rfl, sc, hSc, hLc⟩ (fun i σ Hd _ hh => ?_) (fun i v σ Hd Hd' hi hh y => ?_) (fun σ Hd hh => ?_)
        · obtain ⟨_, _, rfl, sd, _⟩ := hh
          exact sd.sqL hla
        · obtain ⟨x5, x6, rfl, sd, hSd, hLd⟩ := hh
          obtain ⟨rfl, hx⟩ := y
          obtain ⟨d, hd, hxd⟩ := dpa_get hda hx
          rw [List.getElem?_map] at hd
          cases ha : as[i]? with
          | none =>
            rw [ha] at hd
            cases hd
          | some a =>
            rw [ha] at hd
            cases hd
            obtain ⟨t, v4, rfl, hs⟩ := arc_row hxd
            have hs' := sd.sqT hs
            have kr := kp i s kn kc
            rw [lowR_next]
            generalize lowR as s i = r at hSd hLd kr ⊢
            dsimp only [List.set]
            refine ⟨_, rfl, rIxF_at (f := true) hs' (atI_nat (j := 1) rfl) ?_⟩
            refine ⟨_, rfl, D2, _, rfl, DGet.k (k := .inr a.to) hSd, ?_⟩
            rw [val_kvM, Option.isSome_map]
            refine ⟨_, rfl, ?_⟩
            cases hto : lk r.needs a.to with
            | none =>
              refine iteF ?_
              rw [lowA_none ha hto]
              exact ⟨_, _, rfl, sd, hSd, hLd⟩
            | some x =>
              have dg : DGet Hd' D2 (.str a.to) (some (.int x)) := by
                have := DGet.k (k := .inr a.to) hSd
                rw [val_kvM, hto] at this
                exact this
              refine iteT ?_
              refine ⟨_, rfl, _, rfl, rIxF_at (f := true) hs' (atI_nat (j := 1) rfl) ⟨D2, _, rfl, dg, ?_⟩⟩
              refine ⟨_, rfl, rIxF_at (f := true) hs' (atI_nat (j := 2) rfl) ⟨_, _, rfl, rfl, ?_⟩⟩
              refine ⟨_, _, rfl, ?_⟩
              rw [show (if x + a.wt > 0 then x + a.wt else 0) = lowNum a x from rfl]
              dsimp only [gName, List.set]
              refine ⟨_, rfl, rIxF_at (f := true) hs' (atI_nat (j := 0) rfl) ⟨_, rfl, D2, _, rfl, DGet.k (k := .inr a.fr) hSd, ?_⟩⟩
              rw [val_kvM, Option.isSome_map]
              refine ⟨_, rfl, ?_⟩
              cases hfr : lk r.needs a.fr with
              | none =>
                have hb : lessN r a (lowNum a x) = true := by
                  unfold lessN
                  rw [hfr]
                refine iteT ?_
                refine iteT ?_
                rw [lowA_yes ha hto hb]
                refine ⟨_, rfl, _, rfl, _, rfl, rIxF_at (f := true) hs' (atI_nat (j := 0) rfl) ⟨D2, _, rfl, DPut.k (k := .inr a.fr) hSd (by rw [kvM_len]; exact szL (by have := kr.1.len; omega)), ?_⟩⟩
                rw [put_kvM (f := V.int)]
                have u1 : Same H (upd Hd' D2 (.dK (kvM V.int (putM r.needs a.fr (lowNum a x))))) := sd.mut hS0
                have hS' : (upd Hd' D2 (.dK (kvM V.int (putM r.needs a.fr (lowNum a x))))) D2 = some (.dK (kvM V.int (putM r.needs a.fr (lowNum a x)))) := upd_same
                have hL' : (upd Hd' D2 (.dK (kvM V.int (putM r.needs a.fr (lowNum a x))))) L = some (.dK (kvM (fun i => ys.getD i .non) r.cho)) := by
                  rw [upd_ne nSL.symm]
                  exact hLd
                generalize upd Hd' D2 (.dK (kvM V.int (putM r.needs a.fr (lowNum a x)))) = H1 at u1 hS' hL' ⊢
                refine ⟨_, rfl, _, rfl, _, rfl, rIxF_at (f := true) (u1.sqT hs) (atI_nat (j := 0) rfl) ⟨L, _, rfl, DPut.k (k := .inr a.fr) hL' (by rw [kvM_len]; exact szL (by have := kr.2.len; omega)), ?_⟩⟩
                have ep := put_kvM (f := fun i => ys.getD i V.non) (m := r.cho) (k := a.fr) (v := i)
                rw [show ys.getD i V.non = V.ref t by rw [List.getD_eq_getElem?_getD, hx]; rfl] at ep
                rw [ep]
                have u2 := u1.mut (o := .dK (kvM (fun i => ys.getD i V.non) (putM r.cho a.fr i))) hL0
                exact ⟨_, _, rfl, u2, by rw [upd_ne nSL]; exact hS', upd_same⟩
              | some y =>
                refine iteF ?_
                have dg2 : DGet Hd' D2 (.str a.fr) (some (.int y)) := by
                  have := DGet.k (k := .inr a.fr) hSd
                  rw [val_kvM, hfr] at this
                  exact this
                refine ⟨_, rfl, _, rfl, _, rfl, rIxF_at (f := true) hs' (atI_nat (j := 0) rfl) ⟨D2, _, rfl, dg2, _, _, rfl, rfl, ?_⟩⟩
                refine ⟨_, rfl, ?_⟩
                have hb0 : lessN r a (lowNum a x) = decide (lowNum a x < y) := by
                  unfold lessN
                  rw [hfr]
                by_cases hlt : lowNum a x < y
                · have hb : lessN r a (lowNum a x) = true := by rw [hb0, decide_eq_true hlt]
                  rw [decide_eq_true hlt]
                  refine iteT ?_
                  rw [lowA_yes ha hto hb]
                  refine ⟨_, rfl, _, rfl, _, rfl, rIxF_at (f := true) hs' (atI_nat (j := 0) rfl) ⟨D2, _, rfl, DPut.k (k := .inr a.fr) hSd (by rw [kvM_len]; exact szL (by have := kr.1.len; omega)), ?_⟩⟩
                  rw [put_kvM (f := V.int)]
                  have u1 : Same H (upd Hd' D2 (.dK (kvM V.int (putM r.needs a.fr (lowNum a x))))) := sd.mut hS0
                  have hS' : (upd Hd' D2 (.dK (kvM V.int (putM r.needs a.fr (lowNum a x))))) D2 = some (.dK (kvM V.int (putM r.needs a.fr (lowNum a x)))) := upd_same
                  have hL' : (upd Hd' D2 (.dK (kvM V.int (putM r.needs a.fr (lowNum a x))))) L = some (.dK (kvM (fun i => ys.getD i .non) r.cho)) := by
                    rw [upd_ne nSL.symm]
                    exact hLd
                  generalize upd Hd' D2 (.dK (kvM V.int (putM r.needs a.fr (lowNum a x)))) = H1 at u1 hS' hL' ⊢
                  refine ⟨_, rfl, _, rfl, _, rfl, rIxF_at (f := true) (u1.sqT hs) (atI_nat (j := 0) rfl) ⟨L, _, rfl, DPut.k (k := .inr a.fr) hL' (by rw [kvM_len]; exact szL (by have := kr.2.len; omega)), ?_⟩⟩
                  have ep := put_kvM (f := fun i => ys.getD i V.non) (m := r.cho) (k := a.fr) (v := i)
                  rw [show ys.getD i V.non = V.ref t by rw [List.getD_eq_getElem?_getD, hx]; rfl] at ep
                  rw [ep]
                  have u2 := u1.mut (o := .dK (kvM (fun i => ys.getD i V.non) (putM r.cho a.fr i))) hL0
                  exact ⟨_, _, rfl, u2, by rw [upd_ne nSL]; exact hS', upd_same⟩
                · have hb : lessN r a (lowNum a x) = false := by rw [hb0, decide_eq_false hlt]
                  rw [decide_eq_false hlt]
                  refine iteF ?_
                  rw [lowA_no ha hto hb]
                  exact ⟨_, _, rfl, sd, hSd, hLd⟩
        · obtain ⟨x5, x6, rfl, sd, hSd, hLd⟩ := hh
          rw [lys] at hSd hLd ⊢
          exact ⟨_, _, rfl, sd, hSd, hLd⟩
end
end Jl

set_option Elab.async false
set_option linter.all false
set_option maxRecDepth 100000
set_option maxHeartbeats 1000000
set_option pp.maxSteps 300
namespace Jl
open PySem PySem.Spec PyProof.Rows L2
open Evl (sz_of sz_lt)
local macro_rules | `(tactic| walk_at "at") => `(tactic| first | exact box0 | exact box1 | exact box2)
local macro_rules | `(tactic| walk_at "sq") => `(tactic| first | (show SqL _ _ _ _; assumption) | (show SqT _ _ _ _; assumption) | (show _ = some _; assumption))
local macro_rules | `(tactic| walk_at "side") => `(tactic| first
  | (show (0 : Int) < _; decide)
  | (show (0 : Int) < _; omega)
  | exact ⟨by decide, by decide, by decide⟩
  | exact sz_of (Nat.le_of_ble_eq_true rfl)
  | exact rfl
  | exact Or.inl (by decide)
  | exact Or.inr (by decide)
  | exact Or.inr ⟨by omega, by omega⟩
  | exact Or.inl ⟨by omega, by omega⟩
  | exact ⟨by decide, by decide +kernel⟩)
local macro_rules | `(tactic| walk_at "ev1") => `(tactic| first
  | refine ⟨_, rfl, ?_⟩
  | refine ⟨_, _, rfl, rfl, ?_⟩
  | refine ⟨_, _, _, _, rfl, rfl, (by walk_at "sq"), (by walk_at "at"), ?_⟩
  | refine ⟨_, _, rfl, (by walk_at "sq"), ?_⟩
  | refine ⟨_, _, rfl, Or.inl (by walk_at "sq"), ?_⟩
  | refine ⟨_, _, rfl, Or.inr (by walk_at "sq"), ?_⟩
  | refine Or.inl ⟨_, rfl, ?_⟩
  | refine Or.inr ⟨_, rfl, ?_⟩
  | refine ⟨(by walk_at "side"), ?_⟩
  | refine ⟨.inl ⟨rfl, _, (by walk_at "sq")⟩, ?_⟩
  | refine ⟨_, _, rfl, ?_⟩)
local macro_rules | `(tactic| walk_at "nrm") => `(tactic| dsimp only [tNil, tCons, tC, tCB])
local macro_rules | `(tactic| walk_at "ev") => `(tactic| repeat (walk_at "ev1"))
/-! ### {**a, k: v} -/
section
variable {prog : Program} {w : World} {K : Type} [DecidableEq K] {knd : KeyKind prog w K} {A : Around} {E : Value → Shared → Prop} {s : Shared}
theorem wp_dictPut {d : Addr} {kvs : List (K × Value)} {k : K} {key v : Value} {Q : Unit → Shared → Prop} (hkey : knd.is k key = true) (hm : s.heap.DictOf knd d kvs)
    (hQ : ∀ h', h'.DictOf knd d (stored kvs k v) → Heap.SameBut d s.heap h' → Q () { s with heap := h' })
    (hsz : kvs.length ≤ sizeLine) :
    wpAny (model prog w) A (dictPut d (knd.hash k) key v) Q E s := by
  obtain ⟨o, es, ep, ho, hc, hd, hk, hp, hn⟩ := hm
  have hes : es.size ≤ sizeLine := by
    have e1 := hp.length
    have e2 : es.toList.length = es.size := by simp
    omega
  unfold dictPut
  refine wpAny_bind (wpAny_dictFind_of hkey ho hd hk ?_)
  have hidx : (es.findIdx? fun e => knd.is k e.key) = kvs.findIdx? fun kv => decide (kv.1 = k) := by
    rw [← hp.findIdx k]; obtain ⟨l⟩ := es; simp
  cases hi : es.findIdx? fun e => knd.is k e.key with
  | some i =>
    refine wpAny_updateDict ho hd (hQ _ ⟨_, _, ep, Heap.get?_update_self _ ho (Obj.isFreed_of_dict (Obj.data_mapDict hd _)),
      hc.mapDict _, Obj.data_mapDict hd _, hk.modify _ _, ?_, ?_⟩ (Heap.SameBut.update ..))
    · rw [stored, if_pos (any_of_findIdx_some (hidx ▸ hi))]
      have hl : (es.toList.findIdx? fun e => knd.is k e.key) = some i := by rw [← hi]; obtain ⟨l⟩ := es; simp
      have := hp.modify hn hl v
      obtain ⟨l⟩ := es
      simpa using this
    · rw [stored, if_pos (any_of_findIdx_some (hidx ▸ hi)), keys_map_store]; exact hn
  | none =>
    have hnot : k ∉ kvs.map (·.1) := not_mem_of_findIdx_none (hidx ▸ hi)
    have hany : ¬ (kvs.any fun kv => decide (kv.1 = k)) = true := by
      rw [List.any_eq_true]; rintro ⟨kv, hkv, he⟩
      exact hnot (List.mem_map.mpr ⟨kv, hkv, of_decide_eq_true he⟩)
    refine wpAny_updateDictKeys (hz := hes) ho hd (hQ _ ⟨_, _, ep + 1, Heap.get?_update_self _ ho (Obj.isFreed_of_dict (Obj.data_mapDictKeys hd _)),
      hc.mapDictKeys _, Obj.data_mapDictKeys hd _, hk.push hkey _, ?_, ?_⟩ (Heap.SameBut.update ..))
    · rw [stored, if_neg hany]
      have := hp.append hkey (knd.hash k) v
      obtain ⟨l⟩ := es
      simpa using this
    · rw [stored, if_neg hany, List.map_append, List.nodup_append]
      refine ⟨hn, by simp, ?_⟩
      intro a ha b hb
      simp only [List.map_cons, List.map_nil, List.mem_singleton] at hb
      subst hb
      exact fun e => hnot (e ▸ ha)
theorem wp_mergeLoop {d o : Addr} {kvs more : List (K × Value)} {Q : Unit → Shared → Prop} (hdo : d ≠ o)
    (hd : s.heap.DictOf knd d kvs) (ho : s.heap.DictOf knd o more)
    (hQ : ∀ h', h'.DictOf knd d (merged kvs more) → h'.DictOf knd o more → Heap.SameBut d s.heap h' → Q () { s with heap := h' })
    (hsz : kvs.length + more.length ≤ sizeLine) :
    wpAny (model prog w) A (do
      let __do_lift ← dictEntries o
      let epoch ← dictEpoch o
      forIn (List.range __do_lift.size) PUnit.unit fun i (_ : PUnit) => (do
        let __do_lift ← dictEntries o
        match __do_lift[i]? with
        | some e => do
          holding [e.key, e.val]
            (if false = true then do
              let __do_lift ← dictFind d e.key e.hash
              if __do_lift.isSome = true then do
                rule "dict.merge.duplicate-key"
                let __do_lift ← newExc (Value.type "KeyError") [e.key]
                raiseNew __do_lift
                dictPut d e.hash e.key e.val
              else dictPut d e.hash e.key e.val
            else dictPut d e.hash e.key e.val)
          let __do_lift ← dictEpoch o
          if (__do_lift != epoch) = true then do
            (unsupported "dict.changed-during-merge" : Sem PUnit)
            pure (ForInStep.yield PUnit.unit)
          else pure (ForInStep.yield PUnit.unit)
        | _ => do
          (unsupported "dict.changed-during-merge" : Sem PUnit)
          pure (ForInStep.yield PUnit.unit) : Sem (ForInStep PUnit))
      pure ()) Q E s := by
  obtain ⟨od, esd, epd, hod, hcd, hdd, hkd, hpd, hnd⟩ := id hd
  obtain ⟨oo, eso, epo, hoo, hco, hdo', hko, hpo, hno⟩ := id ho
  have hlen : more.length = eso.size := by rw [← hpo.length]; simp
  refine wpAny_bind (wpAny_dictEntries hoo hdo' ?_)
  refine wpAny_bind (wpAny_dictEpoch hoo hdo' ?_)
  refine wpAny_bind ?_
  rw [List.range_eq_range']
  refine wpAny_forIn_list _
    (fun rest _ s' => ∃ h' i, s' = { s with heap := h' } ∧ rest = List.range' i (eso.size - i) ∧ i ≤ eso.size ∧ h'.DictOf knd d (merged kvs (more.take i)) ∧ h'.get? o = some oo ∧ Heap.SameBut d s.heap h')
    _ ?_ ?_ _ _ ⟨s.heap, 0, rfl, by simp, Nat.zero_le _, by simpa [merged] using hd, hoo, Heap.SameBut.refl _ _⟩
  · rintro x rest b s' ⟨h', i, rfl, hr, hi, hd', hoo', hs'⟩
    have hlt : i < eso.size := by
      rcases Nat.lt_or_ge i eso.size with h | h
      · exact h
      · rw [Nat.sub_eq_zero_of_le h] at hr; simp at hr
    obtain ⟨rfl, hrest⟩ : x = i ∧ rest = List.range' (i + 1) (eso.size - (i + 1)) := by
      have e : eso.size - i = (eso.size - (i + 1)) + 1 := by omega
      rw [e, List.range'_succ] at hr
      injection hr with h1 h2
      exact ⟨h1, h2⟩
    refine wpAny_bind (wpAny_dictEntries hoo' hdo' ?_)
    rw [Array.getElem?_eq_getElem hlt]
    obtain ⟨kv, hkv⟩ : ∃ kv, more[x]? = some kv := ⟨more[x]'(by rw [hlen]; exact hlt), List.getElem?_eq_getElem _⟩
    obtain ⟨k, v⟩ := kv
    obtain ⟨hkey, hval⟩ := hpo.get? (e := eso[x]) (by simp [hlt]) hkv
    obtain ⟨k', hkey', hhash⟩ := hko eso[x] (Array.getElem_mem hlt)
    obtain rfl : k' = k := knd.inj _ _ _ hkey' hkey
    dsimp only
    rw [if_neg Bool.false_ne_true, hhash, hval]
    have hmx : (merged kvs (more.take x)).length ≤ sizeLine := by
      have e1 := merged_length_le kvs (more.take x)
      have e2 : (more.take x).length ≤ more.length := by rw [List.length_take]; omega
      omega
    refine wpAny_bind (wpAny_holding (wp_dictPut (hsz := hmx) hkey hd' fun h'' hd'' hs'' => ?_))
    have hoo'' : h''.get? o = some oo := (hs''.2 o (Ne.symm hdo)).trans hoo'
    refine wpAny_bind (wpAny_dictEpoch hoo'' hdo' ?_)
    rw [if_neg (by simp)]
    exact wpAny_pure ⟨h'', x + 1, rfl, hrest, hlt, by rw [merged_take_succ kvs more x (k', v) hkv]; exact hd'', hoo'', hs'.trans hs''⟩
  · rintro b s' ⟨h', i, rfl, hr, hi, hd', hoo', hs'⟩
    have hin : i = eso.size := by
      rcases Nat.lt_or_ge i eso.size with h | h
      · have e : eso.size - i = (eso.size - (i + 1)) + 1 := by omega
        rw [e, List.range'_succ] at hr; exact nomatch hr
      · exact Nat.le_antisymm hi h
    refine wpAny_pure (hQ h' ?_ ⟨oo, eso, epo, hoo', hco, hdo', hko, hpo, hno⟩ hs')
    rw [hin, ← hlen, List.take_length] at hd'; exact hd'
theorem wp_merge {d o : Addr} {kvs more : List (K × Value)} {Q : Unit → Shared → Prop} (hdo : d ≠ o) (hoS : (o == sysModules) = false)
    (hd : s.heap.DictOf knd d kvs) (ho : s.heap.DictOf knd o more) (hnr : ∀ k a, knd.is k (.ref a) = false)
    (hQ : ∀ h', h'.DictOf knd d (merged kvs more) → h'.DictOf knd o more → Heap.SameBut d s.heap h' → Q () { s with heap := h' })
    (hsz : kvs.length + more.length ≤ sizeLine) :
    wpAny (model prog w) A (mergeMapping d (.ref o) false) Q E s := by
  obtain ⟨od, esd, epd, hod, hcd, hdd, hkd, hpd, hnd⟩ := id hd
  obtain ⟨oo, eso, epo, hoo, hco, hdo', hko, hpo, hno⟩ := id ho
  have hlen : more.length = eso.size := by rw [← hpo.length]; simp
  unfold mergeMapping
  refine wpAny_bind (wpAny_isInstance (U := "dict") (b := true) ho.typeIs (by with_unfolding_all rfl) ?_)
  rw [if_pos rfl]
  refine wpAny_bind (wpAny_specialOf ho.typeIs F.slot_dict_iter.lookup ?_)
  rw [pure_bind]
  rw [show (some (Value.builtin "dict.__iter__") == some (Value.builtin "dict.__iter__")) = true from beq_self_eq_true _]
  dsimp only
  rw [if_neg (by rw [hoS]; exact Bool.false_ne_true)]
  refine wpAny_bind (wpAny_dictEntries hod hdd ?_)
  split
  · refine wpAny_bind (wpAny_dictEntries hoo hdo' ?_)
    refine wpAny_bind ?_
    rw [← Array.forIn_toList]
    refine wpAny_of_eq (a := PUnit.unit) (by
      refine forIn_yield_id _ fun e he c => ?_
      obtain ⟨k, hkey, _⟩ := hko e (Array.mem_toList_iff.mp he)
      cases hk : e.key with
      | ref a =>
        rw [hk, hnr k a] at hkey
        cases hkey
      | _ => rfl) ?_
    exact wp_mergeLoop hdo hd ho hQ hsz
  · exact wp_mergeLoop hdo hd ho hQ hsz
end
end Jl

set_option Elab.async false
set_option linter.all false
set_option maxRecDepth 100000
set_option maxHeartbeats 1000000
set_option pp.maxSteps 300
namespace Jl
open PySem PySem.Spec PyProof.Rows L2
open Evl (sz_of sz_lt)
local macro_rules | `(tactic| walk_at "at") => `(tactic| first | exact box0 | exact box1 | exact box2)
local macro_rules | `(tactic| walk_at "sq") => `(tactic| first | (show SqL _ _ _ _; assumption) | (show SqT _ _ _ _; assumption) | (show _ = some _; assumption))
local macro_rules | `(tactic| walk_at "side") => `(tactic| first
  | (show (0 : Int) < _; decide)
  | (show (0 : Int) < _; omega)
  | exact ⟨by decide, by decide, by decide⟩
  | exact sz_of (Nat.le_of_ble_eq_true rfl)
  | exact rfl
  | exact Or.inl (by decide)
  | exact Or.inr (by decide)
  | exact Or.inr ⟨by omega, by omega⟩
  | exact Or.inl ⟨by omega, by omega⟩
  | exact ⟨by decide, by decide +kernel⟩)
local macro_rules | `(tactic| walk_at "ev1") => `(tactic| first
  | refine ⟨_, rfl, ?_⟩
  | refine ⟨_, _, rfl, rfl, ?_⟩
  | refine ⟨_, _, _, _, rfl, rfl, (by walk_at "sq"), (by walk_at "at"), ?_⟩
  | refine ⟨_, _, rfl, (by walk_at "sq"), ?_⟩
  | refine ⟨_, _, rfl, Or.inl (by walk_at "sq"), ?_⟩
  | refine ⟨_, _, rfl, Or.inr (by walk_at "sq"), ?_⟩
  | refine Or.inl ⟨_, rfl, ?_⟩
  | refine Or.inr ⟨_, rfl, ?_⟩
  | refine ⟨(by walk_at "side"), ?_⟩
  | refine ⟨.inl ⟨rfl, _, (by walk_at "sq")⟩, ?_⟩
  | refine ⟨_, _, rfl, ?_⟩)
local macro_rules | `(tactic| walk_at "nrm") => `(tactic| dsimp only [tNil, tCons, tC, tCB])
local macro_rules | `(tactic| walk_at "ev") => `(tactic| repeat (walk_at "ev1"))
section
variable {X : Cx} {m k v : Expr} {tm tk tv : TE} {pos : Pos}
def tDMix (tm tk tv : TE) : TE := fun σ H Q => ∀ p, H p = none → tm σ (upd H p (.dK [])) fun x H1 => ∃ (a : Addr) (kvs : List (Key × V)), x = .ref a ∧ a ≠ p ∧ H1 a = some (.dK kvs) ∧ H1 p = some (.dK []) ∧ kvs.length ≤ 100000 ∧
  ∀ q, (upd H1 p (.dK (mergeK [] kvs))) q = none → tPairs [(tk, tv)] σ (upd (upd H1 p (.dK (mergeK [] kvs))) q (.dK [])) fun ps H3 => ∃ (kk : Key) (z : V), ps = [(kV kk, z)] ∧ H3 q = some (.dK []) ∧ H3 p = some (.dK (mergeK [] kvs)) ∧ q ≠ p ∧
    Q (.ref p) (upd (upd H3 q (.dK (mergeK [] [(kk, z)]))) p (.dK (mergeK (mergeK [] kvs) (mergeK [] [(kk, z)]))))
theorem pe_dmix (hm : PE X m tm) (hk : PE X k tk) (hv : PE X v tv) : PE X (.Dict [none, some k] [m, v] pos) (tDMix tm tk tv) := by
  refine ⟨fun pins s σ H Q I h => ?_⟩
  rw [arm_eval_Dict]
  refine wpAny_bind (wpAny_standAt ?_)
  unfold dictDisplay
  have e1 : evalOpt none X.env = none := rfl
  have e2 : evalOpt (some k) X.env = some (eval k X.env) := rfl
  simp only [evalEachOpt, evalEach, List.map_cons, List.map_nil, List.zip_cons_cons, List.zip_nil_right, List.forIn_cons, List.forIn_nil, e1, e2, List.isEmpty_nil, if_true, pure_bind, bind_assoc, List.nil_append, List.length_singleton, Nat.reduceBEq, Bool.false_eq_true, if_false, List.isEmpty_cons]
  have hn := I.hok.fresh (Nat.le_refl s.heap.objs.size)
  have I1 := I.laid (a := s.heap.objs.size) (o := .dK []) (h' := s.heap.push { cls := .type "dict", data := .dict #[] }) (t' := s.toks) (fun _ _ q => Heap.get?_push_of_some _ q) (Nat.le_refl _) (dk_empty s.heap I.big)
  have hnr : ∀ (k : Key) (a : Addr), (mixKind X.prog X.w).is k (.ref a) = false := fun k a => by cases k <;> rfl
  refine wpAny_bind (wpAny_alloc ?_)
  have h := h _ hn
  generalize s.heap.objs.size = p at hn I1 h ⊢
  refine wpAny_bind (wpAny_holding (wpAny_bind (thn (hm.run pins _ σ _ _ I1 h) fun u s1 ⟨x, H1, I2, rx, q1⟩ => wpAny_bind (wpAny_standAt (wpAny_pure ?_)))))
  obtain ⟨a, kvs, rfl, hap, hka, hkp, hl, q2⟩ := q1
  cases rx
  obtain ⟨z1, hs1, va, ra, da⟩ := dk_of I2.hok hka
  obtain ⟨z2, hs2, vp, rp, dp⟩ := dk_of I2.hok hkp
  cases rp
  have sz : ∀ {n : Nat}, n ≤ 200000 → n ≤ sizeLine := fun h => Nat.le_trans h (by decide)
  have lva : va.length = kvs.length := ra.length.symm
  refine wpAny_bind (wpAny_onRaise (wpAny_tryCatch (wpAny_onRaise (wpAny_holding (wp_merge (knd := mixKind X.prog X.w) (Ne.symm hap) hs1 dp da hnr (fun h1 d1 _ b1 => ?_) (by rw [List.length_nil, lva]; exact sz (by omega)))))))
  have r1 : KV (mergeK [] kvs) (merged [] va) := ra.merge .nil
  have lm : (mergeK [] kvs).length ≤ kvs.length := by
    have := length_mergeK kvs []
    rw [List.length_nil] at this
    omega
  have I3 := d_write (t' := s1.toks) I2 (by rw [hkp]; exact True.intro) b1 (let ⟨q, _, _, hq, _⟩ := d1; ⟨q, hq⟩) (dk_new (sz (by omega)) hs2 r1 d1)
  have hq := I3.hok.fresh (Nat.le_refl h1.objs.size)
  refine wpAny_bind (wpAny_holding (wpAny_subDict (knd := mixKind X.prog X.w) (by show 1 ≤ 15; decide) ?_))
  have I4 := I3.laid (a := h1.objs.size) (o := .dK []) (h' := h1.push { cls := .type "dict", data := .dict #[] }) (t' := s1.toks) (fun _ _ q => Heap.get?_push_of_some _ q) (Nat.le_refl _) (dk_empty h1 I3.big)
  have q3 := q2 _ hq
  refine thn ((pps_cons (pos := pos) hk hv pps_nil).run pins _ σ _ _ I4 q3) fun ws s4 ⟨ps, H4, I5, rel, q4⟩ => ?_
  obtain ⟨kk, z, rfl, hqq, hqp, hne, q5⟩ := q4
  obtain ⟨rs, c, rk⟩ := carries_of (P := X.prog) (w := X.w) (kvs := [(kk, z)]) rel
  obtain ⟨z5, hs5, vq, rq, dq⟩ := dk_of I5.hok hqq
  cases rq
  refine ⟨rs, c, dq, fun h5 d5 b5 => ?_⟩
  have r5 : KV (mergeK [] [(kk, z)]) (merged [] rs) := rk.merge .nil
  have l5 : (mergeK [] [(kk, z)]).length ≤ 1 := length_mergeK [(kk, z)] []
  have I6 := d_write (t' := s4.toks + ws.length) I5 (by rw [hqq]; exact True.intro) b5 (let ⟨q, _, _, hq, _⟩ := d5; ⟨q, hq⟩) (dk_new (sz (by omega)) hs5 r5 d5)
  have h6q : (upd H4 h1.objs.size (.dK (mergeK [] [(kk, z)]))) h1.objs.size = some (.dK (mergeK [] [(kk, z)])) := upd_same
  have h6p : (upd H4 h1.objs.size (.dK (mergeK [] [(kk, z)]))) p = some (.dK (mergeK [] kvs)) := by
    rw [upd_ne hne.symm]
    exact hqp
  obtain ⟨_, hs6, v6, r6, d6⟩ := dk_of I6.hok h6q
  obtain ⟨_, hs7, v7, r7, d7⟩ := dk_of I6.hok h6p
  have l6 : v6.length = (mergeK [] [(kk, z)]).length := r6.length.symm
  have l7 : v7.length = (mergeK [] kvs).length := r7.length.symm
  refine wpAny_bind (wpAny_onRaise (wpAny_holding (wp_merge (knd := mixKind X.prog X.w) hne.symm hs6 d7 d6 hnr (fun h8 d8 _ b8 => ?_) (by rw [l6, l7]; exact sz (by omega)))))
  have r8 := r6.merge r7
  have l8 := length_mergeK (mergeK [] [(kk, z)]) (mergeK [] kvs)
  have I8 := d_write (t' := s4.toks + ws.length) I6 (by rw [h6p]; exact True.intro) b8 (let ⟨q, _, _, hq, _⟩ := d8; ⟨q, hq⟩) (dk_new (sz (by omega)) hs7 r8 d8)
  exact wpAny_pure ⟨.ref p, _, I8, rfl, q5⟩
end
end Jl

set_option Elab.async false
set_option linter.all false
set_option maxRecDepth 100000
set_option maxHeartbeats 1000000
set_option pp.maxSteps 300
namespace Jl
open PySem PySem.Spec PyProof.Rows L2
open Evl (sz_of sz_lt)
local macro_rules | `(tactic| walk_at "at") => `(tactic| first | exact box0 | exact box1 | exact box2)
local macro_rules | `(tactic| walk_at "sq") => `(tactic| first | (show SqL _ _ _ _; assumption) | (show SqT _ _ _ _; assumption) | (show _ = some _; assumption))
local macro_rules | `(tactic| walk_at "side") => `(tactic| first
  | (show (0 : Int) < _; decide)
  | (show (0 : Int) < _; omega)
  | exact ⟨by decide, by decide, by decide⟩
  | exact sz_of (Nat.le_of_ble_eq_true rfl)
  | exact rfl
  | exact Or.inl (by decide)
  | exact Or.inr (by decide)
  | exact Or.inr ⟨by omega, by omega⟩
  | exact Or.inl ⟨by omega, by omega⟩
  | exact ⟨by decide, by decide +kernel⟩)
local macro_rules | `(tactic| walk_at "ev1") => `(tactic| first
  | refine ⟨_, rfl, ?_⟩
  | refine ⟨_, _, rfl, rfl, ?_⟩
  | refine ⟨_, _, _, _, rfl, rfl, (by walk_at "sq"), (by walk_at "at"), ?_⟩
  | refine ⟨_, _, rfl, (by walk_at "sq"), ?_⟩
  | refine ⟨_, _, rfl, Or.inl (by walk_at "sq"), ?_⟩
  | refine ⟨_, _, rfl, Or.inr (by walk_at "sq"), ?_⟩
  | refine Or.inl ⟨_, rfl, ?_⟩
  | refine Or.inr ⟨_, rfl, ?_⟩
  | refine ⟨(by walk_at "side"), ?_⟩
  | refine ⟨.inl ⟨rfl, _, (by walk_at "sq")⟩, ?_⟩
  | refine ⟨_, _, rfl, ?_⟩)
local macro_rules | `(tactic| walk_at "nrm") => `(tactic| dsimp only [tNil, tCons, tC, tCB])
local macro_rules | `(tactic| walk_at "ev") => `(tactic| repeat (walk_at "ev1"))
/-! ### the free lasso: the pure side -/
abbrev Ent : Type := List Arc × List (Str × Int)
structure FB where
  best : List (Str × Ent)
  ag : Bool
def valE (e : Ent) (u : Str) : Int := (lk e.2 u).getD 0
def moreF (s : FB) (a : Arc) (r : Int) : Bool := match lk s.best a.to with
  | none => true
  | some f => decide (r > valE f a.to)
def hitF (e : Ent) (a : Arc) (r : Int) : Bool := match lk e.2 a.to with
  | none => false
  | some y => decide (r ≥ y)
def flStep (a : Arc) (s : FB) : FB ⊕ (List Arc × Arc) := match lk s.best a.fr with
  | none => .inl s
  | some e => if hitF e a (valE e a.fr - a.wt) = true then .inr (e.1, a)
    else if decide (valE e a.fr - a.wt ≥ 0) = true ∧ moreF s a (valE e a.fr - a.wt) = true then .inl ⟨putM s.best a.to (e.1 ++ [a], putM e.2 a.to (valE e a.fr - a.wt)), true⟩ else .inl s
def flA (as : List Arc) (x : FB ⊕ (List Arc × Arc)) (i : Nat) : FB ⊕ (List Arc × Arc) := match x with
  | .inr r => .inr r
  | .inl s => match as[i]? with
    | none => .inl s
    | some a => flStep a s
def flR (as : List Arc) (s : FB) (n : Nat) : FB ⊕ (List Arc × Arc) := (List.range n).foldl (flA as) (.inl { s with ag := false })
theorem flR_next {as : List Arc} {s : FB} {n : Nat} : flR as s (n + 1) = flA as (flR as s n) n := by
  unfold flR
  rw [List.range_succ, List.foldl_append]
  rfl
inductive FlEnd (as : List Arc) : Nat → FB → Option (List Arc × Arc) → Prop
  | stop {s r : FB} : flR as s as.length = .inl r → r.ag = false → FlEnd as 0 s none
  | found {s : FB} {x : List Arc × Arc} : flR as s as.length = .inr x → FlEnd as 0 s (some x)
  | go {n : Nat} {s r : FB} {o : Option (List Arc × Arc)} : flR as s as.length = .inl r → r.ag = true → FlEnd as n r o → FlEnd as (n + 1) s o
def boundM (as : List Arc) : Nat := (as.map fun a => a.wt.natAbs).sum
theorem le_sum_mem {l : List Nat} {x : Nat} (h : x ∈ l) : x ≤ l.sum := by
  induction l with
  | nil => cases h
  | cons y l ih =>
    rw [List.sum_cons]
    rcases List.mem_cons.mp h with rfl | h
    · omega
    · have := ih h
      omega
theorem bound_mem {as : List Arc} {a : Arc} (h : a ∈ as) : -a.wt ≤ (boundM as : Nat) := by
  have : a.wt.natAbs ≤ boundM as := le_sum_mem (List.mem_map.mpr ⟨a, h, rfl⟩)
  omega
structure EOk (as : List Arc) (U : List Str) (b : List (Str × Ent)) (k : Str) (e : Ent) : Prop where
  ky : Kys U e.2
  ks : (lk e.2 k).isSome = true
  ln : e.2.length = e.1.length + 1
  ge : ∀ x y, lk e.2 x = some y → ∃ f z, lk b x = some f ∧ lk f.2 x = some z ∧ y ≤ z
  bd : ∀ x y, lk e.2 x = some y → y ≤ ((e.1.length * boundM as : Nat) : Int)
  on : ∀ x, (lk e.2 x).isSome = true → x = k ∨ x ∈ e.1.map Arc.fr
structure FInv (as : List Arc) (U : List Str) (s : FB) : Prop where
  ky : Kys U s.best
  en : ∀ k e, lk s.best k = some e → EOk as U s.best k e
theorem start_inv {as : List Arc} {w : Str} : FInv as (w :: as.map Arc.to) ⟨[(w, ([], [(w, 0)]))], true⟩ := by
  have one : ∀ {α : Type} {v : α}, Kys (w :: as.map Arc.to) [(w, v)] := fun {α v} => ⟨by simp, fun k hk => by
    rw [show [(w, v)].map (·.1) = [w] from rfl] at hk
    rw [List.mem_singleton.mp hk]
    exact List.mem_cons_self⟩
  refine ⟨one, fun k e h => ?_⟩
  have h : (if w = k then some (([], [(w, 0)]) : Ent) else none) = some e := h
  by_cases ek : w = k
  · rw [if_pos ek] at h
    cases h
    subst ek
    have key : ∀ x y, lk [(w, (0 : Int))] x = some y → x = w ∧ y = 0 := fun x y hy => by
      have hy : (if w = x then some (0 : Int) else none) = some y := hy
      by_cases ex : w = x
      · rw [if_pos ex] at hy
        cases hy
        exact ⟨ex.symm, rfl⟩
      · rw [if_neg ex] at hy
        cases hy
    refine ⟨one, by show (if w = w then some (0 : Int) else none).isSome = true; rw [if_pos rfl]; rfl, rfl, fun x y hy => ?_, fun x y hy => ?_, fun x hx => ?_⟩
    · obtain ⟨rfl, rfl⟩ := key x y hy
      exact ⟨([], [(x, 0)]), 0, by show (if x = x then _ else _) = _; rw [if_pos rfl], by show (if x = x then _ else _) = _; rw [if_pos rfl], Int.le_refl _⟩
    · rw [(key x y hy).2]
      exact Int.natCast_nonneg _
    · cases hh : lk [(w, (0 : Int))] x with
      | none =>
        rw [show (([], [(w, 0)]) : Ent).2 = [(w, (0 : Int))] from rfl, hh] at hx
        cases hx
      | some y => exact .inl (key x y hh).1
  · rw [if_neg ek] at h
    cases h
theorem putM_len1 {α : Type} {m : List (Str × α)} {k : Str} {v : α} (h : lk m k = none) : (putM m k v).length = m.length + 1 := by
  unfold putM
  rw [h, if_neg (fun z => by cases z), List.length_append]
  rfl
def misF (U : List Str) (s : FB) : Nat := (U.map fun u => if lk s.best u = none then 1 else 0).sum
def valF (s : FB) (u : Str) : Int := match lk s.best u with
  | none => 0
  | some e => valE e u
def sumF (as : List Arc) (U : List Str) (s : FB) : Nat := (U.map fun u => (((U.length * boundM as : Nat) : Int) - valF s u).toNat).sum
def LtF (as : List Arc) (U : List Str) (s t : FB) : Prop := misF U s < misF U t ∨ (misF U s = misF U t ∧ sumF as U s < sumF as U t)
theorem LtF.trans {as : List Arc} {U : List Str} {s t u : FB} (h : LtF as U s t) (h2 : LtF as U t u) : LtF as U s u := by
  unfold LtF at *
  omega
/-- one arc: nothing, a lasso, or one entry more or better -/
theorem flStep_cases {as : List Arc} {U : List Str} {s : FB} {a : Arc} (hU : a.to ∈ U) (ha : a ∈ as) (hI : FInv as U s) :
    flStep a s = .inl s ∨ (∃ e, lk s.best a.fr = some e ∧ hitF e a (valE e a.fr - a.wt) = true ∧ flStep a s = .inr (e.1, a)) ∨
    (∃ e, lk s.best a.fr = some e ∧ hitF e a (valE e a.fr - a.wt) = false ∧ decide (valE e a.fr - a.wt ≥ 0) = true ∧ moreF s a (valE e a.fr - a.wt) = true ∧ flStep a s = .inl ⟨putM s.best a.to (e.1 ++ [a], putM e.2 a.to (valE e a.fr - a.wt)), true⟩ ∧ FInv as U ⟨putM s.best a.to (e.1 ++ [a], putM e.2 a.to (valE e a.fr - a.wt)), true⟩ ∧ LtF as U ⟨putM s.best a.to (e.1 ++ [a], putM e.2 a.to (valE e a.fr - a.wt)), true⟩ s) := by
  cases he : lk s.best a.fr with
  | none =>
    refine .inl ?_
    unfold flStep
    rw [he]
  | some e =>
    have E := hI.en a.fr e he
    obtain ⟨x0, hx0⟩ : ∃ x0, lk e.2 a.fr = some x0 := by
      cases hh : lk e.2 a.fr with
      | none =>
        have := E.ks
        rw [hh] at this
        cases this
      | some x0 => exact ⟨x0, rfl⟩
    have vx : valE e a.fr = x0 := by
      unfold valE
      rw [hx0]
      rfl
    have b0 := E.bd _ _ hx0
    have bw := bound_mem ha
    generalize hr : valE e a.fr - a.wt = r
    have hrb : r ≤ (((e.1.length + 1) * boundM as : Nat) : Int) := by
      rw [Nat.add_mul, Nat.one_mul]
      omega
    cases hh : hitF e a r with
    | true =>
      refine .inr (.inl ⟨e, rfl, by rw [hr]; exact hh, ?_⟩)
      unfold flStep
      rw [he]
      dsimp only
      rw [hr, if_pos hh]
    | false =>
      by_cases hc : decide (r ≥ 0) = true ∧ moreF s a r = true
      · refine .inr (.inr ⟨e, rfl, ?_⟩)
        rw [hr]
        refine ⟨hh, hc.1, hc.2, ?_, ?_, ?_⟩
        · unfold flStep
          rw [he]
          dsimp only
          rw [hr, if_neg (by rw [hh]; exact Bool.false_ne_true), if_pos hc]
        all_goals
          have hno : lk e.2 a.to = none := by
            cases hy : lk e.2 a.to with
            | none => rfl
            | some y =>
              exfalso
              obtain ⟨f, z, h1, h2, h3⟩ := E.ge _ _ hy
              unfold hitF at hh
              rw [hy] at hh
              have h4 : ¬ r ≥ y := of_decide_eq_false hh
              have h5 := hc.2
              unfold moreF at h5
              rw [h1] at h5
              have h5 : r > valE f a.to := of_decide_eq_true h5
              unfold valE at h5
              rw [h2] at h5
              have h5 : r > z := h5
              omega
          have hlen := E.ky.len
          have hln := E.ln
        · refine ⟨hI.ky.put hU, fun k f hf => ?_⟩
          have hf : lk (putM s.best a.to (e.1 ++ [a], putM e.2 a.to r)) k = some f := hf
          rw [lk_putL] at hf
          have nb : ∀ x, x ≠ a.to → lk (putM s.best a.to (e.1 ++ [a], putM e.2 a.to r)) x = lk s.best x := fun x hx => by
            rw [lk_putL, if_neg (Ne.symm hx)]
          have bt : lk (putM s.best a.to (e.1 ++ [a], putM e.2 a.to r)) a.to = some (e.1 ++ [a], putM e.2 a.to r) := by
            rw [lk_putL, if_pos rfl]
          have vt : lk (putM e.2 a.to r) a.to = some r := by
            rw [lk_putL, if_pos rfl]
          by_cases hk : a.to = k
          · rw [if_pos hk] at hf
            cases hf
            subst hk
            refine ⟨E.ky.put hU, by show (lk (putM e.2 a.to r) a.to).isSome = true; rw [vt]; rfl, ?_, fun x y hy => ?_, fun x y hy => ?_, fun x hx => ?_⟩
            · show (putM e.2 a.to r).length = (e.1 ++ [a]).length + 1
              rw [putM_len1 hno, List.length_append, hln]
              rfl
            · have hy : lk (putM e.2 a.to r) x = some y := hy
              by_cases ex : x = a.to
              · rw [ex, vt] at hy
                cases hy
                rw [ex]
                exact ⟨_, _, bt, vt, Int.le_refl _⟩
              · rw [lk_putL, if_neg (Ne.symm ex)] at hy
                obtain ⟨f, z, h1, h2, h3⟩ := E.ge _ _ hy
                exact ⟨f, z, (nb x ex).trans h1, h2, h3⟩
            · have hy : lk (putM e.2 a.to r) x = some y := hy
              show y ≤ (((e.1 ++ [a]).length * boundM as : Nat) : Int)
              rw [List.length_append, List.length_singleton]
              by_cases ex : x = a.to
              · rw [ex, vt] at hy
                cases hy
                exact hrb
              · rw [lk_putL, if_neg (Ne.symm ex)] at hy
                have := E.bd _ _ hy
                rw [Nat.add_mul, Nat.one_mul]
                omega
            · have hx : (lk (putM e.2 a.to r) x).isSome = true := hx
              by_cases ex : x = a.to
              · exact .inl ex
              · rw [lk_putL, if_neg (Ne.symm ex)] at hx
                refine .inr ?_
                show x ∈ (e.1 ++ [a]).map Arc.fr
                rw [List.map_append]
                rcases E.on x hx with h | h
                · rw [h]
                  exact List.mem_append_right _ List.mem_cons_self
                · exact List.mem_append_left _ h
          · rw [if_neg hk] at hf
            have F := hI.en k f hf
            refine ⟨F.ky, F.ks, F.ln, fun x y hy => ?_, F.bd, F.on⟩
            obtain ⟨g, z, h1, h2, h3⟩ := F.ge x y hy
            by_cases ex : x = a.to
            · rw [ex] at h1 h2 hy ⊢
              refine ⟨_, _, bt, vt, ?_⟩
              have h5 := hc.2
              unfold moreF at h5
              rw [h1] at h5
              have h5 : r > valE g a.to := of_decide_eq_true h5
              unfold valE at h5
              rw [h2] at h5
              have h5 : r > z := h5
              omega
            · exact ⟨g, z, (nb x ex).trans h1, h2, h3⟩
        · have top : r ≤ ((U.length * boundM as : Nat) : Int) := by
            have h1 : (e.1.length + 1) * boundM as ≤ U.length * boundM as := Nat.mul_le_mul_right _ (by omega)
            omega
          have vt : lk (putM e.2 a.to r) a.to = some r := by
            rw [lk_putL, if_pos rfl]
          cases hy : lk s.best a.to with
          | none =>
            refine .inl (sum_lt (fun u _ => ?_) ⟨a.to, hU, ?_⟩)
            · show (if lk (putM s.best a.to (e.1 ++ [a], putM e.2 a.to r)) u = none then 1 else 0) ≤ if lk s.best u = none then 1 else 0
              rw [lk_putL]
              by_cases ex : a.to = u
              · rw [if_pos ex, if_neg (fun z => by cases z)]
                exact Nat.zero_le _
              · rw [if_neg ex]
                exact Nat.le_refl _
            · show (if lk (putM s.best a.to (e.1 ++ [a], putM e.2 a.to r)) a.to = none then 1 else 0) < if lk s.best a.to = none then 1 else 0
              rw [lk_putL, if_pos rfl, hy, if_neg (fun z => by cases z), if_pos rfl]
              decide
          | some f =>
            have h5 := hc.2
            unfold moreF at h5
            rw [hy] at h5
            have h5 : r > valE f a.to := of_decide_eq_true h5
            have v1 : valF ⟨putM s.best a.to (e.1 ++ [a], putM e.2 a.to r), true⟩ a.to = r := by
              unfold valF
              dsimp only
              rw [lk_putL, if_pos rfl]
              unfold valE
              dsimp only
              rw [vt]
              rfl
            have v2 : valF s a.to = valE f a.to := by
              unfold valF
              rw [hy]
            have v3 : ∀ u, u ≠ a.to → valF ⟨putM s.best a.to (e.1 ++ [a], putM e.2 a.to r), true⟩ u = valF s u := fun u hu => by
              unfold valF
              dsimp only
              rw [lk_putL, if_neg (Ne.symm hu)]
            refine .inr ⟨?_, sum_lt (fun u _ => ?_) ⟨a.to, hU, ?_⟩⟩
            · unfold misF
              congr 1
              apply List.map_congr_left
              intro u _
              show (if lk (putM s.best a.to (e.1 ++ [a], putM e.2 a.to r)) u = none then 1 else 0) = if lk s.best u = none then 1 else 0
              rw [lk_putL]
              by_cases ex : a.to = u
              · rw [if_pos ex, ← ex, hy, if_neg (fun z => by cases z), if_neg (fun z => by cases z)]
              · rw [if_neg ex]
            · by_cases ex : u = a.to
              · rw [ex, v1, v2]
                omega
              · rw [v3 u ex]
                exact Nat.le_refl _
            · rw [v1, v2]
              omega
      · refine .inl ?_
        unfold flStep
        rw [he]
        dsimp only
        rw [hr, if_neg (by rw [hh]; exact Bool.false_ne_true), if_neg hc]
end Jl

set_option Elab.async false
set_option linter.all false
set_option maxRecDepth 100000
set_option maxHeartbeats 1000000
set_option pp.maxSteps 300
namespace Jl
open PySem PySem.Spec PyProof.Rows L2
open Evl (sz_of sz_lt)
local macro_rules | `(tactic| walk_at "at") => `(tactic| first | exact box0 | exact box1 | exact box2)
local macro_rules | `(tactic| walk_at "sq") => `(tactic| first | (show SqL _ _ _ _; assumption) | (show SqT _ _ _ _; assumption) | (show _ = some _; assumption))
local macro_rules | `(tactic| walk_at "side") => `(tactic| first
  | (show (0 : Int) < _; decide)
  | (show (0 : Int) < _; omega)
  | exact ⟨by decide, by decide, by decide⟩
  | exact sz_of (Nat.le_of_ble_eq_true rfl)
  | exact rfl
  | exact Or.inl (by decide)
  | exact Or.inr (by decide)
  | exact Or.inr ⟨by omega, by omega⟩
  | exact Or.inl ⟨by omega, by omega⟩
  | exact ⟨by decide, by decide +kernel⟩)
local macro_rules | `(tactic| walk_at "ev1") => `(tactic| first
  | refine ⟨_, rfl, ?_⟩
  | refine ⟨_, _, rfl, rfl, ?_⟩
  | refine ⟨_, _, _, _, rfl, rfl, (by walk_at "sq"), (by walk_at "at"), ?_⟩
  | refine ⟨_, _, rfl, (by walk_at "sq"), ?_⟩
  | refine ⟨_, _, rfl, Or.inl (by walk_at "sq"), ?_⟩
  | refine ⟨_, _, rfl, Or.inr (by walk_at "sq"), ?_⟩
  | refine Or.inl ⟨_, rfl, ?_⟩
  | refine Or.inr ⟨_, rfl, ?_⟩
  | refine ⟨(by walk_at "side"), ?_⟩
  | refine ⟨.inl ⟨rfl, _, (by walk_at "sq")⟩, ?_⟩
  | refine ⟨_, _, rfl, ?_⟩)
local macro_rules | `(tactic| walk_at "nrm") => `(tactic| dsimp only [tNil, tCons, tC, tCB])
local macro_rules | `(tactic| walk_at "ev") => `(tactic| repeat (walk_at "ev1"))
def RoundOk (as : List Arc) (U : List Str) (s : FB) (x : FB ⊕ (List Arc × Arc)) : Prop := match x with
  | .inr p => p.2 ∈ as ∧ p.2.to ∈ (p.1 ++ [p.2]).map Arc.fr ∧ p.1.length ≤ U.length
  | .inl r => FInv as U r ∧ ((r.ag = false ∧ r.best = s.best) ∨ (r.ag = true ∧ LtF as U r s))
theorem flR_ok {as : List Arc} {U : List Str} {s : FB} (hU : ∀ a ∈ as, a.to ∈ U) (hI : FInv as U s) : ∀ n, RoundOk as U s (flR as s n)
  | 0 => ⟨⟨hI.ky, hI.en⟩, .inl ⟨rfl, rfl⟩⟩
  | n + 1 => by
    rw [flR_next]
    have ih := flR_ok hU hI n
    cases hx : flR as s n with
    | inr p =>
      rw [hx] at ih
      exact ih
    | inl r =>
      rw [hx] at ih
      obtain ⟨i1, i2⟩ := ih
      unfold flA
      dsimp only
      cases ha : as[n]? with
      | none => exact ⟨i1, i2⟩
      | some a =>
        have hm := List.mem_of_getElem? ha
        dsimp only
        rcases flStep_cases (hU a hm) hm i1 with h | ⟨e, he, hh, h⟩ | ⟨e, he, _, _, _, h, j1, j2⟩
        · rw [h]
          exact ⟨i1, i2⟩
        · rw [h]
          have E := i1.en a.fr e he
          refine ⟨hm, ?_, ?_⟩
          · show a.to ∈ (e.1 ++ [a]).map Arc.fr
            rw [List.map_append]
            have : (lk e.2 a.to).isSome = true := by
              unfold hitF at hh
              cases hy : lk e.2 a.to with
              | none =>
                rw [hy] at hh
                cases hh
              | some y => rfl
            rcases E.on a.to this with h1 | h1
            · rw [h1]
              exact List.mem_append_right _ List.mem_cons_self
            · exact List.mem_append_left _ h1
          · show e.1.length ≤ U.length
            have := E.ky.len
            have := E.ln
            omega
        · rw [h]
          refine ⟨j1, .inr ⟨rfl, ?_⟩⟩
          rcases i2 with ⟨_, e2⟩ | ⟨_, l2⟩
          · have em : misF U r = misF U s := by
              unfold misF
              rw [e2]
            have ev : valF r = valF s := by
              funext u
              unfold valF
              rw [e2]
            have es : sumF as U r = sumF as U s := by
              unfold sumF
              rw [ev]
            unfold LtF at j2 ⊢
            rw [em, es] at j2
            exact j2
          · exact j2.trans l2
theorem fl_ends {as : List Arc} {U : List Str} (hU : ∀ a ∈ as, a.to ∈ U) : ∀ (a b : Nat) (s : FB), FInv as U s → misF U s = a → sumF as U s = b → ∃ n o, FlEnd as n s o := by
  intro a
  induction a using Nat.strongRecOn with
  | _ a iha =>
    intro b
    induction b using Nat.strongRecOn with
    | _ b ihb =>
      intro s hI ea eb
      have h := flR_ok hU hI as.length
      cases hx : flR as s as.length with
      | inr p => exact ⟨0, some p, .found hx⟩
      | inl r =>
        rw [hx] at h
        obtain ⟨h1, h2⟩ := h
        rcases h2 with ⟨h2, _⟩ | ⟨h2, hl⟩
        · exact ⟨0, none, .stop hx h2⟩
        · have : ∃ n o, FlEnd as n r o := by
            rcases hl with hl | ⟨he, hl⟩
            · exact iha _ (by omega) _ _ h1 rfl rfl
            · exact ihb _ (by omega) _ h1 (he.trans ea) rfl
          obtain ⟨n, o, h3⟩ := this
          exact ⟨n + 1, o, .go hx h2 h3⟩
end Jl

set_option Elab.async false
set_option linter.all false
set_option maxRecDepth 100000
set_option maxHeartbeats 1000000
set_option pp.maxSteps 300
namespace Jl
open PySem PySem.Spec PyProof.Rows L2
open Evl (sz_of sz_lt)
local macro_rules | `(tactic| walk_at "at") => `(tactic| first | exact box0 | exact box1 | exact box2)
local macro_rules | `(tactic| walk_at "sq") => `(tactic| first | (show SqL _ _ _ _; assumption) | (show SqT _ _ _ _; assumption) | (show _ = some _; assumption))
local macro_rules | `(tactic| walk_at "side") => `(tactic| first
  | (show (0 : Int) < _; decide)
  | (show (0 : Int) < _; omega)
  | exact ⟨by decide, by decide, by decide⟩
  | exact sz_of (Nat.le_of_ble_eq_true rfl)
  | exact rfl
  | exact Or.inl (by decide)
  | exact Or.inr (by decide)
  | exact Or.inr ⟨by omega, by omega⟩
  | exact Or.inl ⟨by omega, by omega⟩
  | exact ⟨by decide, by decide +kernel⟩)
local macro_rules | `(tactic| walk_at "ev1") => `(tactic| first
  | refine ⟨_, rfl, ?_⟩
  | refine ⟨_, _, rfl, rfl, ?_⟩
  | refine ⟨_, _, _, _, rfl, rfl, (by walk_at "sq"), (by walk_at "at"), ?_⟩
  | refine ⟨_, _, rfl, (by walk_at "sq"), ?_⟩
  | refine ⟨_, _, rfl, Or.inl (by walk_at "sq"), ?_⟩
  | refine ⟨_, _, rfl, Or.inr (by walk_at "sq"), ?_⟩
  | refine Or.inl ⟨_, rfl, ?_⟩
  | refine Or.inr ⟨_, rfl, ?_⟩
  | refine ⟨(by walk_at "side"), ?_⟩
  | refine ⟨.inl ⟨rfl, _, (by walk_at "sq")⟩, ?_⟩
  | refine ⟨_, _, rfl, ?_⟩)
local macro_rules | `(tactic| walk_at "nrm") => `(tactic| dsimp only [tNil, tCons, tC, tCB])
local macro_rules | `(tactic| walk_at "ev") => `(tactic| repeat (walk_at "ev1"))
abbrev sc_parted_N : List Str := ["walk", "arc", "place", "step"]
abbrev s_parted : Stmt := topS 23
theorem sc_parted : FnScope ["walk", "arc", "place", "step"] ["walk", "arc"] (defScope s_parted) := ⟨rfl, rfl, rfl, by decide +kernel, rfl, by decide +kernel, by decide +kernel⟩
theorem a2_strsL {α : Type} {f : α → Str} : ∀ {ys : List V} {zs : List α}, A2 (fun u z => u = V.str (f z)) ys zs → ys = (zs.map f).map V.str
  | _, _, .nil => rfl
  | _, _, .cons a b => by rw [a, a2_strsL b]; rfl
/-- the first place of x -/
theorem first_at {x : Str} : ∀ {l : List Str}, x ∈ l → ∃ j : Nat, l[j]? = some x ∧ ∀ m z, m < j → l[m]? = some z → z ≠ x
  | [], h => by cases h
  | y :: l, h => by
    by_cases e : y = x
    · exact ⟨0, by rw [e]; rfl, fun m z hm => absurd hm (Nat.not_lt_zero m)⟩
    · rcases List.mem_cons.mp h with h | h
      · exact absurd h.symm e
      · obtain ⟨j, h1, h2⟩ := first_at h
        refine ⟨j + 1, h1, fun m z hm hz => ?_⟩
        cases m with
        | zero =>
          cases hz
          exact e
        | succ m => exact h2 m z (by omega) hz
theorem six_nat {n d j : Nat} (h : j ≤ n) : HT.sIx n d (some (j : Int)) = j := by
  show (if (j : Int) < 0 then ((j : Int) + (n : Int)).toNat else min (j : Int).toNat n) = j
  rw [if_neg (by omega)]
  omega
theorem ic_toT {K : PySem.W.Frag} {H0 : Hp} {σ : L2.St} {te : TE} {ds : List PyData} {i j : Nat} (h : IsC K [] H0 te (.tuple ds) σ) (hi : σ[i]? = some (some (.int (j : Nat)))) (hj : j ≤ ds.length) : IsC K [] H0 (tSl (rSlA K) te tNoPart (tPart (tVar i))) (.tuple (ds.take j)) σ := fun H Q e tr q => h H _ e tr fun H1 v s1 d1 => by
  rw [cutS_nil] at d1
  obtain ⟨a, xs, rfl, ha, hx⟩ := Dp.seq_of (f := true) d1
  have lx := dpa_len hx
  have tk : DpAll K H1 (xs.take j) (ds.take j) := by
    have : ∀ {xs : List V} {ds : List PyData} (j : Nat), DpAll K H1 xs ds → DpAll K H1 (xs.take j) (ds.take j) := fun {xs ds} j h => by
      induction j generalizing xs ds with
      | zero => exact .nil
      | succ j ih =>
        cases h with
        | nil => exact .nil
        | cons a b => exact .cons a (ih b)
    exact this j hx
  refine ⟨_, hi, (j : Nat), rfl, a, _, rfl, ha, fun z => ?_, fun z p hp => ?_⟩
  · have z2 := z.2
    rw [six_nat (by omega)] at z2
    refine q _ _ s1 ?_
    rw [cutS_nil]
    rw [List.take_of_length_le (by omega)]
    exact .tup ha hx
  · refine q _ _ (s1.trans (.upd hp)) ?_
    have e2 : cutV xs none (some (j : Int)) = xs.take j := by
      unfold cutV
      rw [six_nat (by omega), show HT.sIx xs.length 0 none = 0 from HT.sIx_none _ _, List.drop_zero, Nat.sub_zero]
    rw [cutS_nil, e2]
    exact .tup (sqt_of upd_same) ((Same.upd hp).dpa tk)
theorem ic_fromT {K : PySem.W.Frag} {H0 : Hp} {σ : L2.St} {te : TE} {ds : List PyData} {i j : Nat} (h : IsC K [] H0 te (.tuple ds) σ) (hi : σ[i]? = some (some (.int (j : Nat)))) (hj : j ≤ ds.length) : IsC K [] H0 (tSl (rSlA K) te (tPart (tVar i)) tNoPart) (.tuple (ds.drop j)) σ := fun H Q e tr q => h H _ e tr fun H1 v s1 d1 => by
  rw [cutS_nil] at d1
  obtain ⟨a, xs, rfl, ha, hx⟩ := Dp.seq_of (f := true) d1
  have lx := dpa_len hx
  have tk : DpAll K H1 (xs.drop j) (ds.drop j) := by
    have : ∀ {xs : List V} {ds : List PyData} (j : Nat), DpAll K H1 xs ds → DpAll K H1 (xs.drop j) (ds.drop j) := fun {xs ds} j h => by
      induction j generalizing xs ds with
      | zero => exact h
      | succ j ih =>
        cases h with
        | nil => exact .nil
        | cons a b => exact ih b
    exact this j hx
  refine ⟨_, hi, (j : Nat), rfl, a, _, rfl, ha, fun z => ?_, fun z p hp => ?_⟩
  · have z2 := z.1
    rw [six_nat (by omega)] at z2
    refine q _ _ s1 ?_
    rw [cutS_nil, z2]
    exact .tup ha hx
  · refine q _ _ (s1.trans (.upd hp)) ?_
    have e2 : cutV xs (some (j : Int)) none = xs.drop j := by
      unfold cutV
      rw [six_nat (by omega), show HT.sIx xs.length xs.length none = xs.length from HT.sIx_none _ _]
      exact List.take_of_length_le (by rw [List.length_drop]; omega)
    rw [cutS_nil, e2]
    exact .tup (sqt_of upd_same) ((Same.upd hp).dpa tk)
theorem ic_catP {K : PySem.W.Frag} {H0 : Hp} {σ : L2.St} {ta tb : TE} {ds es : List PyData} (h1 : IsC K [] H0 ta (.tuple ds) σ) (h2 : IsC K [] H0 tb (.tuple es) σ) (hl : ds.length + es.length ≤ 100000) : IsC K [] H0 (tOp (rCatA K) ta tb) (.tuple (ds ++ es)) σ := fun H Q e tr q => h1 H _ e tr fun H1 v s1 d1 => h2 H1 _ (e.trans s1) (tr.mono s1) fun H2 u s2 d2 => by
  rw [cutS_nil] at d1 d2
  obtain ⟨a, xs, rfl, ha, hx⟩ := Dp.seq_of (f := true) (s2.dp d1)
  obtain ⟨b, ys, rfl, hb, hy⟩ := Dp.seq_of (f := true) d2
  have lx := dpa_len hx
  have ly := dpa_len hy
  refine ⟨a, b, xs, ys, rfl, rfl, ha, hb, Nat.le_trans (show xs.length + ys.length ≤ 100000 by omega) (by decide), fun e => ?_, fun _ e => ?_, fun _ _ p hp => ?_⟩
  · subst e
    cases hx
    refine q H2 _ (s1.trans s2) ?_
    rw [cutS_nil]
    exact .tup hb hy
  · subst e
    cases hy
    refine q H2 _ (s1.trans s2) ?_
    rw [cutS_nil, List.append_nil]
    exact .tup ha hx
  · refine q _ _ ((s1.trans s2).trans (.upd hp)) ?_
    rw [cutS_nil]
    exact .tup (sqt_of upd_same) (dpa_app ((Same.upd hp).dpa hx) ((Same.upd hp).dpa hy))
section
variable {P : Program} {w : World} {K : PySem.W.Frag} {mg : Str → Option Value} {base : Heap}
def spParted (K : PySem.W.Frag) : Sp := fun vs H Q _ => ∃ (v u : V) (w : List Arc) (a : Arc), vs = [v, u] ∧ Dp K H v (.tuple (w.map Arc.d)) ∧ Dp K H u a.d ∧ a.to ∈ (w ++ [a]).map Arc.fr ∧ w.length ≤ 5000 ∧ ∀ H' t (j : Nat), Same H H' → ((w ++ [a]).map Arc.fr)[j]? = some a.to → (∀ m z, m < j → ((w ++ [a]).map Arc.fr)[m]? = some z → z ≠ a.to) → Dp K H' t (.tuple [.tuple ((w.take j).map Arc.d), .tuple ((w.drop j ++ [a]).map Arc.d)]) → Q t H'
theorem ok_parted {f : Addr} {fd : FuncData} {k : Nat} (F : Fun K "parted" "parted" s_parted f fd) : FnOk P w K mg base CX0 (k + 1) f fd ["walk", "arc"] (spParted K) := by
  refine F.ok sc_parted (fun vs H Q E h => ?_) (fun cdv A outer s0 H vs Q E hr h => ?_)
  · obtain ⟨v, u, w, a, rfl, _⟩ := h
    rfl
  · obtain ⟨v, u, w, a, rfl, hD, hU, hm, hl, q⟩ := h
    refine ⟨_, (pss_cons (ps_set (i := 2) sc_parted.nd rfl (Or.inl rfl) (pe_bm PySem.F.plainAttrs_list PySem.F.slot_list_index PySem.F.type_list_index mt_index (pe_lcX (pe_lc (own := [("step", 3)]) (g := gName 3) (tt := tYes) (te := (tOp (rIxF K) (tVar 3) (tC (.int 0)))) (by rfl) sc_parted.nd (pi_seq (pe_op op_catA (pv 0) (pe_tup (pa_cons (pv 1) pa_nil)))) (blkOk_by (own := [("step", 3)]) (N := sc_parted_N) (sc := defScope s_parted) (by decide +kernel)) (fun _ _ _ _ _ => pg_name (i := 3) sc_parted.nd rfl (Or.inl rfl)) (fun _ _ _ _ _ => pts_nil) (fun _ _ _ _ _ => (pe_ix ix_lt (pv 3) pe_int (fun _ _ => rfl))))) (pa_cons (pe_ix ix_lt (pv 1) pe_int (fun _ _ => rfl)) pa_nil))) 
    (pss_one (ps_ret (pe_tup (pa_cons (pe_slice sl_tupA (pv 0) po_none (po_some (pv 2))) (pa_cons (pe_op op_catA (pe_slice sl_tupA (pv 0) (po_some (pv 2)) po_none) (pe_tup (pa_cons (pv 1) pa_nil))) pa_nil)))))), ?_⟩
    obtain ⟨a0, xw, rfl, ha0, hxw⟩ := Dp.seq_of (f := true) (show Dp K H v (seqD true _) from hD)
    have lw := dpa_len hxw
    rw [List.length_map] at lw
    have hda : DpAll K H (xw ++ [u]) ((w ++ [a]).map Arc.d) := by
      rw [List.map_append]
      exact dpa_app hxw (dpa_one hU)
    obtain ⟨ta, v4, rfl, hta⟩ := arc_row hU
    refine asg_of ?_
    refine lcsD (K := K) (xs := xw ++ [V.ref ta]) (w ++ [a]) (fun x z => Dp K H x z.d) (fun _ v z => v = V.str z.fr) (fun _ => true) (fun R' r => ?_) (fun i x z h1 h2 => ?_) (by rw [List.length_append, List.length_append, lw]; rfl) (by rw [List.length_append, List.length_singleton]; omega) (fun _ _ _ _ _ h => h) (fun x => rfl) (fun x z H1 hz e1 hr Q' q' => q' H1 fun _ _ e => e) (fun x z H2 T hz _ e1 e2 tr hr hT Q' q' => ?_) (fun D ys H' s1 h0 h1 hA => ?_)
    · refine ⟨_, rfl, ⟨_, rfl, by show 1 ≤ sizeLine; decide, fun p1 hp1 => ?_⟩⟩
      refine ⟨a0, p1, xw, [.ref ta], rfl, rfl, (Same.upd hp1).sqT ha0, sqt_of upd_same, Nat.le_trans (show xw.length + 1 ≤ 6000 by omega) (by decide), fun e => ?_, (fun _ e => by cases e), fun _ _ p2 hp2 => ?_⟩
      · subst e
        exact r p1 _ (.upd hp1) (sqt_of upd_same)
      · exact r p2 _ ((Same.upd hp1).trans (.upd hp2)) (sqt_of upd_same)
    · obtain ⟨d, hd, h3⟩ := dpa_get hda h1
      rw [List.getElem?_map, h2] at hd
      cases hd
      exact h3
    · obtain ⟨t, v5, rfl, hs⟩ := arc_row hr
      exact ⟨_, rfl, rIxF_at (f := true) (e1.sqT hs) (atI_nat (j := 0) rfl) (q' H2 _ (fun _ _ e => e) rfl)⟩
    · rw [List.filter_eq_self.mpr fun _ _ => rfl] at hA
      have e := a2_strsL hA
      subst e
      obtain ⟨j, hj, hjm⟩ := first_at hm
      refine ⟨.inl ⟨rfl, _, sql_of h1⟩, ?_⟩
      walk_at "nrm"
      refine ⟨_, rfl, rIxF_at (f := true) (s1.sqT hta) (atI_nat (j := 1) rfl) ?_⟩
      refine ⟨D, _, .str a.to, j, .str a.to, rfl, rfl, sql_of h1, rfl, ?_, ?_, ?_, fun m z' hm' hz' => ?_, ?_⟩
      · exact List.all_eq_true.mpr fun x hx => by
          obtain ⟨y, _, rfl⟩ := List.mem_map.mp hx
          rfl
      · rw [List.getElem?_map, hj]
        rfl
      · show (a.to == a.to) = true
        exact beq_self_eq_true _
      · rw [List.getElem?_map] at hz'
        cases hz2 : ((w ++ [a]).map Arc.fr)[m]? with
        | none =>
          rw [hz2] at hz'
          cases hz'
        | some y =>
          rw [hz2] at hz'
          cases hz'
          show (y == a.to) = false
          exact beq_eq_false_iff_ne.mpr (hjm m y hm' hz2)
      · dsimp only [List.set]
        have hjl : j ≤ w.length := by
          have := (List.getElem?_eq_some_iff.mp hj).1
          rw [List.length_map, List.length_append, List.length_singleton] at this
          omega
        have ed : ((w.drop j ++ [a]).map Arc.d) = (w.map Arc.d).drop j ++ [a.d] := by
          rw [List.map_append, List.map_drop]
          rfl
        refine (ic_tup (K := K) (H0 := H') (ac_cons (ic_toT (j := j) (ic_var rfl (by rw [cutS_nil]; exact s1.dp hD)) rfl (by rw [List.length_map]; exact hjl)) (ac_cons (ic_catP (ic_fromT (j := j) (ic_var rfl (by rw [cutS_nil]; exact s1.dp hD)) rfl (by rw [List.length_map]; exact hjl)) (ic_tup (ac_cons (ic_var rfl (by rw [cutS_nil]; exact s1.dp hU)) ac_nil) (by show 1 ≤ 1000; decide)) (by rw [List.length_drop, List.length_map]; show _ + 1 ≤ _; omega)) ac_nil)) (by show 2 ≤ 1000; decide)) H' _ (fun _ _ e => e) Trk.nil fun H2 t s2 d2 => q H2 t j (s1.trans s2) hj hjm ?_
        rw [cutS_nil, ← List.map_take, ← ed] at d2
        exact d2
end
end Jl

set_option Elab.async false
set_option linter.all false
set_option maxRecDepth 100000
set_option maxHeartbeats 1000000
set_option pp.maxSteps 300
namespace Jl
open PySem PySem.Spec PyProof.Rows L2
open Evl (sz_of sz_lt)
local macro_rules | `(tactic| walk_at "at") => `(tactic| first | exact box0 | exact box1 | exact box2)
local macro_rules | `(tactic| walk_at "sq") => `(tactic| first | (show SqL _ _ _ _; assumption) | (show SqT _ _ _ _; assumption) | (show _ = some _; assumption))
local macro_rules | `(tactic| walk_at "side") => `(tactic| first
  | (show (0 : Int) < _; decide)
  | (show (0 : Int) < _; omega)
  | exact ⟨by decide, by decide, by decide⟩
  | exact sz_of (Nat.le_of_ble_eq_true rfl)
  | exact rfl
  | exact Or.inl (by decide)
  | exact Or.inr (by decide)
  | exact Or.inr ⟨by omega, by omega⟩
  | exact Or.inl ⟨by omega, by omega⟩
  | exact ⟨by decide, by decide +kernel⟩)
local macro_rules | `(tactic| walk_at "ev1") => `(tactic| first
  | refine ⟨_, rfl, ?_⟩
  | refine ⟨_, _, rfl, rfl, ?_⟩
  | refine ⟨_, _, _, _, rfl, rfl, (by walk_at "sq"), (by walk_at "at"), ?_⟩
  | refine ⟨_, _, rfl, (by walk_at "sq"), ?_⟩
  | refine ⟨_, _, rfl, Or.inl (by walk_at "sq"), ?_⟩
  | refine ⟨_, _, rfl, Or.inr (by walk_at "sq"), ?_⟩
  | refine Or.inl ⟨_, rfl, ?_⟩
  | refine Or.inr ⟨_, rfl, ?_⟩
  | refine ⟨(by walk_at "side"), ?_⟩
  | refine ⟨.inl ⟨rfl, _, (by walk_at "sq")⟩, ?_⟩
  | refine ⟨_, _, rfl, ?_⟩)
local macro_rules | `(tactic| walk_at "nrm") => `(tactic| dsimp only [tNil, tCons, tC, tCB])
local macro_rules | `(tactic| walk_at "ev") => `(tactic| repeat (walk_at "ev1"))
abbrev sc_free_lasso_N : List Str := ["arcs", "worker", "best", "again", "arc", "start", "end", "cost", "_", "walk", "left", "rest"]
abbrev s_free_lasso : Stmt := topS 24
theorem sc_free_lasso : FnScope ["arcs", "worker", "best", "again", "arc", "start", "end", "cost", "_", "walk", "left", "rest"] ["arcs", "worker"] (defScope s_free_lasso) := ⟨rfl, rfl, rfl, by decide +kernel, rfl, by decide +kernel, by decide +kernel⟩
theorem merge_kvM {α : Type} {f : α → V} : ∀ {m acc : List (Str × α)}, ((acc ++ m).map (·.1)).Nodup → mergeK (kvM f acc) (kvM f m) = kvM f (acc ++ m)
  | [], acc, _ => by rw [List.append_nil]; rfl
  | p :: m, acc, h => by
    have hno : p.1 ∉ acc.map (·.1) := fun z => by
      rw [List.map_append, List.nodup_append] at h
      exact h.2.2 p.1 z p.1 (by rw [List.map_cons]; exact List.mem_cons_self) rfl
    have e : putK (kvM f acc) (.inr p.1) (f p.2) = kvM f (acc ++ [p]) := by
      rw [put_kvM]
      unfold putM
      rw [lk_none hno]
      rfl
    show mergeK (putK (kvM f acc) (.inr p.1) (f p.2)) (kvM f m) = _
    rw [e, merge_kvM (by rw [List.append_assoc]; exact h), List.append_assoc]
    rfl
theorem flR_inr {as : List Arc} {s : FB} {x : List Arc × Arc} {i : Nat} (h : flR as s i = .inr x) : ∀ k, flR as s (i + k) = .inr x
  | 0 => h
  | k + 1 => by
    rw [← Nat.add_assoc, flR_next, flR_inr h k]
    rfl
abbrev EntB : Type := List (Str × (V × Ent))
def pureB (b : EntB) : List (Str × Ent) := b.map fun p => (p.1, p.2.2)
theorem lk_pure {k : Str} : ∀ {b : EntB}, lk (pureB b) k = (lk b k).map (·.2)
  | [] => rfl
  | p :: b => by
    show (if p.1 = k then some p.2.2 else lk (pureB b) k) = (if p.1 = k then some p.2 else lk b k).map (·.2)
    by_cases e : p.1 = k
    · rw [if_pos e, if_pos e]
      rfl
    · rw [if_neg e, if_neg e]
      exact lk_pure
theorem put_pure {k : Str} {v : V} {e : Ent} {b : EntB} : pureB (putM b k (v, e)) = putM (pureB b) k e := by
  unfold putM
  rw [lk_pure, Option.isSome_map]
  by_cases h : (lk b k).isSome = true
  · rw [if_pos h, if_pos h]
    unfold pureB
    rw [List.map_map, List.map_map]
    apply List.map_congr_left
    intro p _
    show ((if p.1 = k then (p.1, (v, e)) else p).1, (if p.1 = k then (p.1, (v, e)) else p).2.2) = (if p.1 = k then (p.1, e) else (p.1, p.2.2))
    by_cases e2 : p.1 = k
    · rw [if_pos e2, if_pos e2]
    · rw [if_neg e2, if_neg e2]
  · rw [if_neg h, if_neg h]
    unfold pureB
    rw [List.map_append]
    rfl
def EntV (K : PySem.W.Frag) (H : Hp) (v : V) (e : Ent) : Prop := ∃ t wa d, v = .ref t ∧ H t = some (.tup [.ref wa, .ref d]) ∧ Dp K H (.ref wa) (.tuple (e.1.map Arc.d)) ∧ H d = some (.dK (kvM V.int e.2))
theorem EntV.same {K : PySem.W.Frag} {H H' : Hp} {v : V} {e : Ent} (h : EntV K H v e) (s : Same H H') : EntV K H' v e := by
  obtain ⟨t, wa, d, rfl, h1, h2, h3⟩ := h
  exact ⟨t, wa, d, rfl, s _ _ h1, s.dp h2, s _ _ h3⟩
structure FH (K : PySem.W.Frag) (H : Hp) (B : Addr) (s : FB) (Hc : Hp) (b : EntB) : Prop where
  sm : Same H Hc
  hb : Hc B = some (.dK (kvM (fun x : V × Ent => x.1) b))
  pu : pureB b = s.best
  en : ∀ k x, lk b k = some x → EntV K (cutS [B] Hc) x.1 x.2
theorem FH.same {K : PySem.W.Frag} {H Hc Hd : Hp} {B : Addr} {s : FB} {b : EntB} (h : FH K H B s Hc b) (e : Same Hc Hd) : FH K H B s Hd b := ⟨h.sm.trans e, e _ _ h.hb, h.pu, fun k x hx => (h.en k x hx).same (cutS_mono e)⟩
theorem FH.put {K : PySem.W.Frag} {H Hc : Hp} {B : Addr} {s : FB} {b : EntB} {k : Str} {v : V} {e : Ent} {f : Bool} (h : FH K H B s Hc b) (hB : H B = none) (hv : EntV K (cutS [B] Hc) v e) : FH K H B ⟨putM s.best k e, f⟩ (upd Hc B (.dK (kvM (fun x : V × Ent => x.1) (putM b k (v, e))))) (putM b k (v, e)) := by
  refine ⟨h.sm.mut hB, upd_same, by rw [put_pure, h.pu], fun k' x hx => ?_⟩
  rw [cutS_upd List.mem_cons_self]
  rw [lk_putL] at hx
  by_cases ek : k = k'
  · rw [if_pos ek] at hx
    cases hx
    exact hv
  · rw [if_neg ek] at hx
    exact h.en k' x hx
def LasD (K : PySem.W.Frag) (H : Hp) (t : V) : Option (List Arc × Arc) → Prop
  | none => t = .non
  | some (w, a) => ∃ j : Nat, ((w ++ [a]).map Arc.fr)[j]? = some a.to ∧ (∀ m z, m < j → ((w ++ [a]).map Arc.fr)[m]? = some z → z ≠ a.to) ∧ Dp K H t (.tuple [.tuple ((w.take j).map Arc.d), .tuple ((w.drop j ++ [a]).map Arc.d)])
section
variable {P : Program} {w : World} {K : PySem.W.Frag} {mg : Str → Option Value} {base : Heap}
def spFreeL (K : PySem.W.Frag) : Sp := fun vs H Q _ => ∃ (la : Addr) (w : Str) (ys : List V) (as : List Arc), vs = [.ref la, .str w] ∧ SqL K H la ys ∧ DpAll K H ys (as.map Arc.d) ∧ as.length ≤ 1000 ∧
  ∀ H' t n o, Same H H' → FlEnd as n ⟨[(w, ([], [(w, 0)]))], true⟩ o → LasD K H' t o → Q t H'
theorem ok_free_lasso {f fP : Addr} {fd fdP : FuncData} {k : Nat} (F : Fun K "free_lasso" "free_lasso" s_free_lasso f fd) (G_parted : FnOk P w K mg base CX0 k fP fdP ["walk", "arc"] (spParted K)) (g_parted : mg "parted" = some (.ref fP)) (F_parted : Fun K "parted" "parted" s_parted fP fdP) (b_parted : Binds K fdP ["walk", "arc"] []) : FnOk P w K mg base CX0 (k + 1) f fd ["arcs", "worker"] (spFreeL K) := by
  refine F.ok sc_free_lasso (fun vs H Q E h => ?_) (fun cdv A outer s0 H vs Q E hr h => ?_)
  · obtain ⟨la, w, ys, as, rfl, _⟩ := h
    rfl
  · obtain ⟨la, w, ys, as, rfl, hla, hda, ha1, q⟩ := h
    have hu := hu_of hr
    refine ⟨_, (pss_cons (ps_set (i := 2) sc_free_lasso.nd rfl (Or.inl rfl) (pe_disp (pps_cons (pv 1) (pe_tup (pa_cons (pe_tup pa_nil) (pa_cons (pe_disp (pps_cons (pv 1) pe_int pps_nil) (by rfl) (by rfl) (by simp) (by decide)) pa_nil))) pps_nil) (by rfl) (by rfl) (by simp) (by decide))) 
    (pss_cons (ps_set (i := 3) sc_free_lasso.nd rfl (Or.inl rfl) pe_bl) 
    (pss_cons (ps_whileX (ps_while PassesOwn.never (pt_val (pv 3)) 
      (pss_cons (ps_set (i := 3) sc_free_lasso.nd rfl (Or.inl rfl) pe_bl) 
      (pss_one (ps_forX (ps_for PassesOwn.never rfl (pi_seq (pv 0)) (pg_name (i := 4) sc_free_lasso.nd rfl (Or.inl rfl)) 
        (pss_cons (ps_asg (pv 4) (pg_tup rfl (pgs_cons (pg_name (i := 5) sc_free_lasso.nd rfl (Or.inl rfl)) (pgs_cons (pg_name (i := 6) sc_free_lasso.nd rfl (Or.inl rfl)) (pgs_cons (pg_name (i := 7) sc_free_lasso.nd rfl (Or.inl rfl)) (pgs_cons (pg_name (i := 8) sc_free_lasso.nd rfl (Or.inl rfl)) pgs_nil)))))) 
        (pss_one (ps_if (pt_cmp (pc_din hu (pv 5) (pv 2))) 
          (pss_cons (ps_asg (pe_dget hu (pv 2) (pv 5) (fun _ _ => rfl)) (pg_tup rfl (pgs_cons (pg_name (i := 9) sc_free_lasso.nd rfl (Or.inl rfl)) (pgs_cons (pg_name (i := 10) sc_free_lasso.nd rfl (Or.inl rfl)) pgs_nil)))) 
          (pss_cons (ps_set (i := 11) sc_free_lasso.nd rfl (Or.inl rfl) (pe_op op_sub (pe_dget hu (pv 10) (pv 5) (fun _ _ => rfl)) (pv 7))) 
          (pss_cons (ps_if (PW.pt (pw_and (pt_cmp (pc_din hu (pv 6) (pv 10))) (pw_and1 (pt_cmpR op_ge (pv 11) (pe_dget hu (pv 10) (pv 6) (fun _ _ => rfl)) (nomark _))))) (pss_one (ps_ret (pe_call G_parted hr (by rfl) g_parted F_parted.kp b_parted .nil pass0 (pa_cons (pv 9) (pa_cons (pv 4) pa_nil))))) pss_nil) 
          (pss_one (ps_if (PW.pt (pw_and (pt_cmpR op_ge (pv 11) pe_int (nomark _)) (pw_and1 (PW.pt (pw_or (pt_cmp (pc_dnotin hu (pv 6) (pv 2))) (pw_or1 (pt_cmpR op_gt (pv 11) (pe_dget hu (pe_ix ix_lt (pe_dget hu (pv 2) (pv 6) (fun _ _ => rfl)) pe_int (fun _ _ => rfl)) (pv 6) (fun _ _ => rfl)) (nomark _)))))))) 
            (pss_cons (ps_dput hu (pv 2) (pv 6) (pe_tup (pa_cons (pe_op op_catA (pv 9) (pe_tup (pa_cons (pv 4) pa_nil))) (pa_cons (pe_dmix (pv 10) (pv 6) (pv 11)) pa_nil))) rfl) 
            (pss_one (ps_set (i := 3) sc_free_lasso.nd rfl (Or.inl rfl) pe_bl))) pss_nil))))) pss_nil))))))))) 
    (pss_one (ps_ret pe_non))))), ?_⟩
    rw [show L2.start (["arcs", "worker", "best", "again", "arc", "start", "end", "cost", "_", "walk", "left", "rest"] : List Str) [.ref la, .str w] = [some (.ref la), some (.str w), none, none, none, none, none, none, none, none, none, none] from rfl]
    have hU : ∀ a ∈ as, a.to ∈ w :: as.map Arc.to := fun a ha => List.mem_cons_of_mem _ (List.mem_map_of_mem ha)
    have hI0 := start_inv (as := as) (w := w)
    obtain ⟨nE, oE, hE⟩ := fl_ends hU _ _ _ hI0 rfl rfl
    have lU : (w :: as.map Arc.to).length ≤ 1001 := by
      rw [List.length_cons, List.length_map]
      omega
    have lys : ys.length = as.length := by
      have := dpa_len hda
      rwa [List.length_map] at this
    refine asg_of ?_
    intro B hB
    have s1 : Same H (upd H B (.dK [])) := .upd hB
    have hB1 : (upd H B (.dK [])) B = some (.dK []) := upd_same
    generalize upd H B (.dK []) = H1 at s1 hB1 ⊢
    refine ⟨_, rfl, ?_⟩
    refine ⟨by show 0 ≤ sizeLine; exact Nat.zero_le _, fun wa hwa => ?_⟩
    have s2 : Same H1 (upd H1 wa (.tup [])) := .upd hwa
    have hw2 : (upd H1 wa (.tup [])) wa = some (.tup []) := upd_same
    have nwB : wa ≠ B := fun z => by
      rw [z, hB1] at hwa
      cases hwa
    generalize upd H1 wa (.tup []) = H2 at s2 hw2 ⊢
    intro d hd
    have s3 : Same H2 (upd H2 d (.dK [])) := .upd hd
    have ndB : d ≠ B := fun z => by
      rw [z, s2 _ _ hB1] at hd
      cases hd
    have nwd : wa ≠ d := fun z => by
      rw [← z, hw2] at hd
      cases hd
    refine ⟨_, rfl, ⟨upd_same, [(.inr w, .int 0)], rfl, by show 1 ≤ 15; decide, ?_⟩⟩
    have s4 : Same H2 (upd (upd H2 d (.dK [])) d (.dK (mergeK [] [(.inr w, .int 0)]))) := fun a o ha => by
      have na : a ≠ d := ne_of_none ha hd
      rw [upd_ne na, upd_ne na]
      exact ha
    have hd4 : (upd (upd H2 d (.dK [])) d (.dK (mergeK [] [(.inr w, .int 0)]))) d = some (.dK (kvM V.int [(w, 0)])) := upd_same
    generalize upd (upd H2 d (.dK [])) d (.dK (mergeK [] [(.inr w, .int 0)])) = H4 at s4 hd4 ⊢
    refine ⟨by show 2 ≤ sizeLine; decide, fun t ht => ?_⟩
    have s5 : Same H4 (upd H4 t (.tup [.ref wa, .ref d])) := .upd ht
    have ht5 : (upd H4 t (.tup [.ref wa, .ref d])) t = some (.tup [.ref wa, .ref d]) := upd_same
    have ntB : t ≠ B := fun z => by
      rw [z, s4 _ _ (s2 _ _ hB1)] at ht
      cases ht
    generalize upd H4 t (.tup [.ref wa, .ref d]) = H5 at s5 ht5 ⊢
    have s15 := (s2.trans s4).trans s5
    refine ⟨s15 _ _ hB1, [(.inr w, .ref t)], rfl, by show 1 ≤ 15; decide, ?_⟩
    have f0 : FH K H B ⟨[(w, ([], [(w, 0)]))], true⟩ (upd H5 B (.dK (mergeK [] [(.inr w, .ref t)]))) [(w, (.ref t, ([], [(w, 0)])))] := by
      refine ⟨(s1.trans s15).mut hB, upd_same, rfl, fun k x hx => ?_⟩
      rw [cutS_upd List.mem_cons_self]
      have hx : (if w = k then some ((V.ref t, ([], [(w, 0)])) : V × Ent) else none) = some x := hx
      by_cases ek : w = k
      · rw [if_pos ek] at hx
        cases hx
        exact ⟨t, wa, d, rfl, cutS_at ht5 (not1 ntB), .tup (sqt_of (cutS_at (s5 _ _ (s4 _ _ hw2)) (not1 nwB))) .nil, cutS_at (s5 _ _ hd4) (not1 ndB)⟩
      · rw [if_neg ek] at hx
        cases hx
    generalize upd H5 B (.dK (mergeK [] [(.inr w, .ref t)])) = H6 at f0 ⊢
    clear s1 hB1 s2 hw2 s3 s4 hd4 s5 ht5 s15 hwa hd ht ntB nwB ndB nwd
    dsimp only [List.set]
    refine asg_of ?_
    dsimp only [tC, List.set]
    refine whl_ofL ?_
    refine ⟨fun m σ Hc => ∃ (x4 x5 x6 x7 x8 x9 x10 x11 : Option V) (g : Bool) (s : FB) (b : EntB), σ = [some (.ref la), some (.str w), some (.ref B), some (.bl g), x4, x5, x6, x7, x8, x9, x10, x11] ∧ ((g = true ∧ ∃ n, m = n + 1 ∧ FlEnd as n s oE) ∨ (g = false ∧ oE = none)) ∧ FH K H B s Hc b ∧ FInv as (w :: as.map Arc.to) s, ⟨nE + 1, _, _, _, _, _, _, _, _, true, _, _, rfl, .inl ⟨rfl, nE, rfl, hE⟩, f0, hI0⟩, fun m σ Hc hW => ?_⟩
    obtain ⟨x4, x5, x6, x7, x8, x9, x10, x11, g, s, b, rfl, hm, fc, hI⟩ := hW
    refine ⟨_, rfl, g, rfl, ?_⟩
    cases g with
    | false =>
      refine iteF ?_
      obtain ⟨h, _⟩ | ⟨_, rfl⟩ := hm
      · cases h
      exact q Hc .non nE none fc.sm hE rfl
    | true =>
      refine iteT ?_
      obtain ⟨_, n, rfl, hEnd⟩ | ⟨h, _⟩ := hm
      rotate_left
      · cases h
      have hR := flR_ok hU hI as.length
      refine ⟨fun σ' H' => ∃ (r : FB) (x4 x5 x6 x7 x8 x9 x10 x11 : Option V) (b : EntB), flR as s as.length = .inl r ∧ σ' = [some (.ref la), some (.str w), some (.ref B), some (.bl r.ag), x4, x5, x6, x7, x8, x9, x10, x11] ∧ FH K H B r H' b, fun σ' H' hN => ?_, ?_⟩
      · obtain ⟨r, x4, x5, x6, x7, x8, x9, x10, x11, b', hr', rfl, fh⟩ := hN
        rw [hr'] at hR
        obtain ⟨i1, _⟩ := hR
        cases hEnd with
        | stop h1 h2 =>
          cases hr'.symm.trans h1
          exact ⟨0, by omega, x4, x5, x6, x7, x8, x9, x10, x11, false, r, b', by rw [h2], .inr ⟨rfl, rfl⟩, fh, i1⟩
        | found h1 =>
          cases hr'.symm.trans h1
        | @go n' _ _ _ h1 h2 h3 =>
          cases hr'.symm.trans h1
          exact ⟨n' + 1, by omega, x4, x5, x6, x7, x8, x9, x10, x11, true, r, b', by rw [h2], .inl ⟨rfl, n', rfl, h3⟩, fh, i1⟩
      refine asg_ofL ?_
      dsimp only [tC, List.set]
      refine for_of ?_
      refine iSeq_at (f := false) (fun R' r => ⟨_, rfl, r⟩) (fc.sm.sqL hla) fun J w' => ?_
      refine forR_it w' (fun i σ Hd => ∃ (r : FB) (x4 x5 x6 x7 x8 x9 x10 x11 : Option V) (b : EntB), flR as s i = .inl r ∧ σ = [some (.ref la), some (.str w), some (.ref B), some (.bl r.ag), x4, x5, x6, x7, x8, x9, x10, x11] ∧ FH K H B r Hd b ∧ FInv as (w :: as.map Arc.to) r) ⟨{ s with ag := false }, _, _, _, _, _, _, _, _, b, rfl, rfl, ⟨fc.sm, fc.hb, fc.pu, fc.en⟩, ⟨hI.ky, hI.en⟩⟩ (fun i σ Hd _ hh => ?_) (fun i v σ Hd Hd' hi hh y => ?_) (fun σ Hd hh => ?_)
      · obtain ⟨r, _, _, _, _, _, _, _, _, _, _, _, fd, _⟩ := hh
        exact fd.sm.sqL hla
      · obtain ⟨r, x4, x5, x6, x7, x8, x9, x10, x11, b, hri, rfl, fd, hJ⟩ := hh
        obtain ⟨rfl, hx⟩ := y
        obtain ⟨dd, hd, hxd⟩ := dpa_get hda hx
        rw [List.getElem?_map] at hd
        cases ha : as[i]? with
        | none =>
          rw [ha] at hd
          cases hd
        | some a =>
          rw [ha] at hd
          cases hd
          obtain ⟨t, v4, rfl, hs⟩ := arc_row hxd
          have hs' := fd.sm.sqT hs
          have hm := List.mem_of_getElem? ha
          have nxt : flR as s (i + 1) = flStep a r := by
            rw [flR_next, hri]
            unfold flA
            dsimp only
            rw [ha]
          dsimp only [List.set]
          refine ⟨_, rfl, t, _, rfl, hs', rfl, _, _, rfl, _, _, rfl, _, _, rfl, _, _, rfl, rfl, ?_⟩
          dsimp only [List.set]
          refine ⟨_, rfl, _, rfl, B, _, rfl, DGet.k (k := .inr a.fr) fd.hb, ?_⟩
          rw [val_kvM, Option.isSome_map]
          refine ⟨_, rfl, ?_⟩
          have lkb := lk_pure (k := a.fr) (b := b)
          rw [fd.pu] at lkb
          cases hfr : lk b a.fr with
          | none =>
            rw [hfr] at lkb
            refine iteF ?_
            have e : flStep a r = .inl r := by
              unfold flStep
              rw [lkb]
              rfl
            exact ⟨r, _, _, _, _, _, _, _, _, b, nxt.trans e, rfl, fd, hJ⟩
          | some x =>
            rw [hfr] at lkb
            have lkb : lk r.best a.fr = some x.2 := lkb
            have E0 := hJ.en _ _ lkb
            refine iteT ?_
            obtain ⟨te, wa, d, hte, g1, g2, g3⟩ := fd.en _ _ hfr
            have dg : DGet Hd' B (.str a.fr) (some (.ref te)) := by
              have := DGet.k (k := .inr a.fr) fd.hb
              rw [val_kvM, hfr] at this
              rw [← hte]
              exact this
            refine ⟨_, rfl, _, rfl, B, _, rfl, dg, te, _, rfl, sqt_of (cutS_le _ _ g1), rfl, _, _, rfl, _, _, rfl, rfl, ?_⟩
            dsimp only [List.set]
            obtain ⟨x0, hx0⟩ : ∃ x0, lk x.2.2 a.fr = some x0 := by
              cases hh : lk x.2.2 a.fr with
              | none =>
                have := E0.ks
                rw [hh] at this
                cases this
              | some x0 => exact ⟨x0, rfl⟩
            have g3' : Hd' d = some (.dK (kvM V.int x.2.2)) := cutS_le _ _ g3
            have dg2 : DGet Hd' d (.str a.fr) (some (.int x0)) := by
              have := DGet.k (k := .inr a.fr) g3'
              rw [val_kvM, hx0] at this
              exact this
            have vx : valE x.2 a.fr = x0 := by
              unfold valE
              rw [hx0]
              rfl
            refine ⟨_, rfl, _, rfl, d, _, rfl, dg2, _, rfl, _, _, rfl, rfl, ?_⟩
            dsimp only [List.set]
            refine ⟨_, rfl, _, rfl, d, _, rfl, DGet.k (k := .inr a.to) g3', ?_⟩
            rw [val_kvM, Option.isSome_map]
            refine ⟨_, rfl, ?_⟩
            cases hto : lk x.2.2 a.to with
            | none =>
              have hit : hitF x.2 a (x0 - a.wt) = false := by
                unfold hitF
                rw [hto]
              refine iteF ?_
              refine iteF ?_
              dsimp only [tNext]
              have stay : ¬ (decide (x0 - a.wt ≥ 0) = true ∧ moreF r a (x0 - a.wt) = true) → flStep a r = .inl r := fun hc => by
                unfold flStep
                rw [lkb]
                dsimp only
                rw [vx, hit, if_neg Bool.false_ne_true, if_neg hc]
              have stepY : decide (x0 - a.wt ≥ 0) = true ∧ moreF r a (x0 - a.wt) = true → flStep a r ≠ .inl r := fun hc z => by
                unfold flStep at z
                rw [lkb] at z
                dsimp only at z
                rw [vx, hit, if_neg Bool.false_ne_true, if_pos hc] at z
                have z2 := congrArg FB.best (Sum.inl.inj z)
                have z3 : lk (putM r.best a.to (x.2.1 ++ [a], putM x.2.2 a.to (x0 - a.wt))) a.to = lk r.best a.to := congrArg (fun l => lk l a.to) z2
                rw [lk_putL, if_pos rfl] at z3
                have h5 := hc.2
                unfold moreF at h5
                rw [← z3] at h5
                have h5 : x0 - a.wt > valE (x.2.1 ++ [a], putM x.2.2 a.to (x0 - a.wt)) a.to := of_decide_eq_true h5
                unfold valE at h5
                dsimp only at h5
                rw [lk_putL, if_pos rfl] at h5
                exact absurd h5 (Int.lt_irrefl _)
              refine ⟨_, rfl, _, _, rfl, rfl, ⟨_, rfl, ?_⟩⟩
              by_cases h0 : 0 ≤ x0 - a.wt
              · rw [decide_eq_true h0]
                refine iteT ?_
                refine ⟨_, rfl, _, rfl, B, _, rfl, DGet.k (k := .inr a.to) fd.hb, ?_⟩
                rw [val_kvM, Option.isSome_map]
                refine ⟨_, rfl, ?_⟩
                have lkt := lk_pure (k := a.to) (b := b)
                rw [fd.pu] at lkt
                cases hbt : lk b a.to with
                | none =>
                  rw [hbt] at lkt
                  have hmo : moreF r a (x0 - a.wt) = true := by
                    unfold moreF
                    rw [lkt]
                    rfl
                  have stepN := stepY ⟨decide_eq_true h0, hmo⟩
                  refine iteT ?_
                  refine iteT ?_
                  rcases flStep_cases (hU a hm) hm hJ with hz | ⟨e', he', hh', _⟩ | ⟨e', he', hh', h0', h1', hz, j1, j2⟩
                  · exact absurd hz stepN
                  · rw [lkb] at he'
                    cases he'
                    rw [vx] at hh'
                    rw [hh'] at hit
                    cases hit
                  rw [lkb] at he'
                  cases he'
                  rw [vx] at hz j1
                  have smc : Same H (cutS [B] Hd') := fun a' o ha' => cutS_at (fd.sm _ _ ha') (not1 (ne_of_none ha' hB))
                  have arcC : Dp K (cutS [B] Hd') (.ref t) a.d := smc.dp hxd
                  have ltC : ∀ {H' : Hp} {a' : Addr}, Same Hd' H' → H' a' = none → a' ≠ B := fun {H' a'} s' h' z => by
                    rw [z, s' _ _ fd.hb] at h'
                    cases h'
                  obtain ⟨aw, xw, ew, haw, hxw⟩ := Dp.seq_of (f := true) (show Dp K _ (.ref wa) (seqD true _) from g2)
                  cases ew
                  have lxw := dpa_len hxw
                  rw [List.length_map] at lxw
                  have lE := E0.ky.len
                  have lE2 := E0.ln
                  refine ⟨_, rfl, ⟨_, rfl, by show 1 ≤ sizeLine; decide, fun p1 hp1 => ?_⟩⟩
                  have sp1 : Same Hd' (upd Hd' p1 (.tup [.ref t])) := .upd hp1
                  have np1 := ltC (fun _ _ e => e) hp1
                  refine ⟨wa, p1, xw, [.ref t], rfl, rfl, sp1.sqT (cutS_le.sqT haw), sqt_of upd_same, Nat.le_trans (show xw.length + 1 ≤ 6000 by omega) (by decide), fun e => ?_, (fun _ e => by cases e), fun _ _ p2 hp2 => ?_⟩
                  · have sw := sp1
                    have hwv : Dp K (cutS [B] (upd Hd' p1 (.tup [.ref t]))) (.ref p1) (.tuple ((x.2.1 ++ [a]).map Arc.d)) := by
                      subst e
                      rw [show x.2.1 = [] from List.eq_nil_of_length_eq_zero lxw.symm]
                      exact .tup (sqt_of (cutS_at upd_same (not1 np1))) (.cons ((cutS_mono sp1).dp arcC) .nil)
                    generalize upd Hd' p1 (.tup [.ref t]) = H2 at sw hwv ⊢
                    generalize p1 = wv at hwv ⊢
                    intro p hp
                    have npB := ltC sw hp
                    have w1 : Same H2 (upd H2 p (.dK [])) := .upd hp
                    have hdw : H2 d = some (.dK (kvM V.int x.2.2)) := sw _ _ g3'
                    have ndp : d ≠ p := ne_of_none hdw hp
                    refine ⟨_, rfl, d, kvM V.int x.2.2, rfl, ndp, w1 _ _ hdw, upd_same, by rw [kvM_len]; omega, fun q hq => ?_⟩
                    have em : mergeK [] (kvM V.int x.2.2) = kvM V.int x.2.2 := merge_kvM (f := V.int) (acc := []) E0.ky.nd
                    rw [em] at hq ⊢
                    have nqp : q ≠ p := fun z => by
                      rw [z, upd_same] at hq
                      cases hq
                    have hq2 : H2 q = none := by
                      rw [upd_ne nqp, upd_ne nqp] at hq
                      exact hq
                    have nqB := ltC sw hq2
                    refine ⟨_, rfl, _, rfl, .inr a.to, .int (x0 - a.wt), rfl, upd_same, by rw [upd_ne nqp.symm]; exact upd_same, nqp, ?_⟩
                    have e5 : mergeK (kvM V.int x.2.2) (mergeK [] [((.inr a.to : Key), V.int (x0 - a.wt))]) = kvM V.int (putM x.2.2 a.to (x0 - a.wt)) := put_kvM (f := V.int) (m := x.2.2) (k := a.to) (v := x0 - a.wt)
                    rw [e5]
                    have s7 : Same H2 (upd (upd (upd (upd (upd H2 p (.dK [])) p (.dK (kvM V.int x.2.2))) q (.dK [])) q (.dK (mergeK [] [((.inr a.to : Key), V.int (x0 - a.wt))]))) p (.dK (kvM V.int (putM x.2.2 a.to (x0 - a.wt))))) := fun a' o ha' => by
                      have n1 : a' ≠ p := ne_of_none ha' hp
                      have n2 : a' ≠ q := ne_of_none ha' hq2
                      rw [upd_ne n1, upd_ne n2, upd_ne n2, upd_ne n1, upd_ne n1]
                      exact ha'
                    have hp7 : (upd (upd (upd (upd (upd H2 p (.dK [])) p (.dK (kvM V.int x.2.2))) q (.dK [])) q (.dK (mergeK [] [((.inr a.to : Key), V.int (x0 - a.wt))]))) p (.dK (kvM V.int (putM x.2.2 a.to (x0 - a.wt))))) p = some (.dK (kvM V.int (putM x.2.2 a.to (x0 - a.wt)))) := upd_same
                    generalize (upd (upd (upd (upd (upd H2 p (.dK [])) p (.dK (kvM V.int x.2.2))) q (.dK [])) q (.dK (mergeK [] [((.inr a.to : Key), V.int (x0 - a.wt))]))) p (.dK (kvM V.int (putM x.2.2 a.to (x0 - a.wt))))) = H7 at s7 hp7 ⊢
                    refine ⟨by show 2 ≤ sizeLine; decide, fun tt htt => ?_⟩
                    have s8 : Same H7 (upd H7 tt (.tup [.ref wv, .ref p])) := .upd htt
                    have ht8 : (upd H7 tt (.tup [.ref wv, .ref p])) tt = some (.tup [.ref wv, .ref p]) := upd_same
                    have ntt := ltC (sw.trans s7) htt
                    generalize upd H7 tt (.tup [.ref wv, .ref p]) = H8 at s8 ht8 ⊢
                    have t8 := (sw.trans s7).trans s8
                    have f8 := fd.same t8
                    have lb : b.length = r.best.length := by
                      rw [← fd.pu]
                      exact (List.length_map ..).symm
                    have lk1 := hJ.ky.len
                    refine ⟨_, rfl, _, rfl, B, _, rfl, DPut.k (k := .inr a.to) f8.hb (by rw [kvM_len]; exact szL (by omega)), ?_⟩
                    have ep := put_kvM (f := fun x : V × Ent => x.1) (m := b) (k := a.to) (v := (V.ref tt, (x.2.1 ++ [a], putM x.2.2 a.to (x0 - a.wt))))
                    rw [show putK (kvM (fun x : V × Ent => x.1) b) (.inr a.to) (V.ref tt) = kvM (fun x : V × Ent => x.1) (putM b a.to (V.ref tt, (x.2.1 ++ [a], putM x.2.2 a.to (x0 - a.wt)))) from ep]
                    have fz := f8.put (k := a.to) (v := .ref tt) (e := (x.2.1 ++ [a], putM x.2.2 a.to (x0 - a.wt))) (f := true) hB ⟨tt, wv, p, rfl, cutS_at ht8 (not1 ntt), (cutS_mono (s7.trans s8)).dp hwv, cutS_at (s8 _ _ hp7) (not1 npB)⟩
                    exact ⟨_, _, _, _, _, _, _, _, _, _, nxt.trans hz, rfl, fz, j1⟩
                  · have sp2 : Same (upd Hd' p1 (.tup [.ref t])) (upd (upd Hd' p1 (.tup [.ref t])) p2 (.tup (xw ++ [.ref t]))) := .upd hp2
                    have sw := sp1.trans sp2
                    have np2 := ltC sp1 hp2
                    have hwv : Dp K (cutS [B] (upd (upd Hd' p1 (.tup [.ref t])) p2 (.tup (xw ++ [.ref t])))) (.ref p2) (.tuple ((x.2.1 ++ [a]).map Arc.d)) := by
                      rw [List.map_append]
                      exact .tup (sqt_of (cutS_at upd_same (not1 np2))) (dpa_app ((cutS_mono sw).dpa hxw) (dpa_one ((cutS_mono sw).dp arcC)))
                    generalize upd (upd Hd' p1 (.tup [.ref t])) p2 (.tup (xw ++ [.ref t])) = H2 at sw hwv ⊢
                    generalize p2 = wv at hwv ⊢
                    intro p hp
                    have npB := ltC sw hp
                    have w1 : Same H2 (upd H2 p (.dK [])) := .upd hp
                    have hdw : H2 d = some (.dK (kvM V.int x.2.2)) := sw _ _ g3'
                    have ndp : d ≠ p := ne_of_none hdw hp
                    refine ⟨_, rfl, d, kvM V.int x.2.2, rfl, ndp, w1 _ _ hdw, upd_same, by rw [kvM_len]; omega, fun q hq => ?_⟩
                    have em : mergeK [] (kvM V.int x.2.2) = kvM V.int x.2.2 := merge_kvM (f := V.int) (acc := []) E0.ky.nd
                    rw [em] at hq ⊢
                    have nqp : q ≠ p := fun z => by
                      rw [z, upd_same] at hq
                      cases hq
                    have hq2 : H2 q = none := by
                      rw [upd_ne nqp, upd_ne nqp] at hq
                      exact hq
                    have nqB := ltC sw hq2
                    refine ⟨_, rfl, _, rfl, .inr a.to, .int (x0 - a.wt), rfl, upd_same, by rw [upd_ne nqp.symm]; exact upd_same, nqp, ?_⟩
                    have e5 : mergeK (kvM V.int x.2.2) (mergeK [] [((.inr a.to : Key), V.int (x0 - a.wt))]) = kvM V.int (putM x.2.2 a.to (x0 - a.wt)) := put_kvM (f := V.int) (m := x.2.2) (k := a.to) (v := x0 - a.wt)
                    rw [e5]
                    have s7 : Same H2 (upd (upd (upd (upd (upd H2 p (.dK [])) p (.dK (kvM V.int x.2.2))) q (.dK [])) q (.dK (mergeK [] [((.inr a.to : Key), V.int (x0 - a.wt))]))) p (.dK (kvM V.int (putM x.2.2 a.to (x0 - a.wt))))) := fun a' o ha' => by
                      have n1 : a' ≠ p := ne_of_none ha' hp
                      have n2 : a' ≠ q := ne_of_none ha' hq2
                      rw [upd_ne n1, upd_ne n2, upd_ne n2, upd_ne n1, upd_ne n1]
                      exact ha'
                    have hp7 : (upd (upd (upd (upd (upd H2 p (.dK [])) p (.dK (kvM V.int x.2.2))) q (.dK [])) q (.dK (mergeK [] [((.inr a.to : Key), V.int (x0 - a.wt))]))) p (.dK (kvM V.int (putM x.2.2 a.to (x0 - a.wt))))) p = some (.dK (kvM V.int (putM x.2.2 a.to (x0 - a.wt)))) := upd_same
                    generalize (upd (upd (upd (upd (upd H2 p (.dK [])) p (.dK (kvM V.int x.2.2))) q (.dK [])) q (.dK (mergeK [] [((.inr a.to : Key), V.int (x0 - a.wt))]))) p (.dK (kvM V.int (putM x.2.2 a.to (x0 - a.wt))))) = H7 at s7 hp7 ⊢
                    refine ⟨by show 2 ≤ sizeLine; decide, fun tt htt => ?_⟩
                    have s8 : Same H7 (upd H7 tt (.tup [.ref wv, .ref p])) := .upd htt
                    have ht8 : (upd H7 tt (.tup [.ref wv, .ref p])) tt = some (.tup [.ref wv, .ref p]) := upd_same
                    have ntt := ltC (sw.trans s7) htt
                    generalize upd H7 tt (.tup [.ref wv, .ref p]) = H8 at s8 ht8 ⊢
                    have t8 := (sw.trans s7).trans s8
                    have f8 := fd.same t8
                    have lb : b.length = r.best.length := by
                      rw [← fd.pu]
                      exact (List.length_map ..).symm
                    have lk1 := hJ.ky.len
                    refine ⟨_, rfl, _, rfl, B, _, rfl, DPut.k (k := .inr a.to) f8.hb (by rw [kvM_len]; exact szL (by omega)), ?_⟩
                    have ep := put_kvM (f := fun x : V × Ent => x.1) (m := b) (k := a.to) (v := (V.ref tt, (x.2.1 ++ [a], putM x.2.2 a.to (x0 - a.wt))))
                    rw [show putK (kvM (fun x : V × Ent => x.1) b) (.inr a.to) (V.ref tt) = kvM (fun x : V × Ent => x.1) (putM b a.to (V.ref tt, (x.2.1 ++ [a], putM x.2.2 a.to (x0 - a.wt)))) from ep]
                    have fz := f8.put (k := a.to) (v := .ref tt) (e := (x.2.1 ++ [a], putM x.2.2 a.to (x0 - a.wt))) (f := true) hB ⟨tt, wv, p, rfl, cutS_at ht8 (not1 ntt), (cutS_mono (s7.trans s8)).dp hwv, cutS_at (s8 _ _ hp7) (not1 npB)⟩
                    exact ⟨_, _, _, _, _, _, _, _, _, _, nxt.trans hz, rfl, fz, j1⟩
                | some x2 =>
                  rw [hbt] at lkt
                  have lkt : lk r.best a.to = some x2.2 := lkt
                  obtain ⟨te2, wa2, d2, hte2, k1, k2, k3⟩ := fd.en _ _ hbt
                  have dgB : DGet Hd' B (.str a.to) (some (.ref te2)) := by
                    have := DGet.k (k := .inr a.to) fd.hb
                    rw [val_kvM, hbt] at this
                    rw [← hte2]
                    exact this
                  obtain ⟨z, hz0⟩ : ∃ z, lk x2.2.2 a.to = some z := by
                    cases hh : lk x2.2.2 a.to with
                    | none =>
                      have := (hJ.en _ _ lkt).ks
                      rw [hh] at this
                      cases this
                    | some z => exact ⟨z, rfl⟩
                  have dgz : DGet Hd' d2 (.str a.to) (some (.int z)) := by
                    have := DGet.k (k := .inr a.to) (cutS_le _ _ k3)
                    rw [val_kvM, hz0] at this
                    exact this
                  refine iteF ?_
                  refine ⟨_, rfl, _, rfl, _, rfl, B, _, rfl, dgB, rIxF_at (f := true) (sqt_of (cutS_le _ _ k1)) (atI_nat (j := 1) rfl) ⟨_, rfl, d2, _, rfl, dgz, _, _, rfl, rfl, ?_⟩⟩
                  refine ⟨_, rfl, ?_⟩
                  have hmo : moreF r a (x0 - a.wt) = decide (z < x0 - a.wt) := by
                    unfold moreF valE
                    rw [lkt]
                    dsimp only
                    rw [hz0]
                    rfl
                  by_cases hlt : z < x0 - a.wt
                  · rw [decide_eq_true hlt]
                    have stepN := stepY ⟨decide_eq_true h0, by rw [hmo, decide_eq_true hlt]⟩
                    refine iteT ?_
                    rcases flStep_cases (hU a hm) hm hJ with hz | ⟨e', he', hh', _⟩ | ⟨e', he', hh', h0', h1', hz, j1, j2⟩
                    · exact absurd hz stepN
                    · rw [lkb] at he'
                      cases he'
                      rw [vx] at hh'
                      rw [hh'] at hit
                      cases hit
                    rw [lkb] at he'
                    cases he'
                    rw [vx] at hz j1
                    have smc : Same H (cutS [B] Hd') := fun a' o ha' => cutS_at (fd.sm _ _ ha') (not1 (ne_of_none ha' hB))
                    have arcC : Dp K (cutS [B] Hd') (.ref t) a.d := smc.dp hxd
                    have ltC : ∀ {H' : Hp} {a' : Addr}, Same Hd' H' → H' a' = none → a' ≠ B := fun {H' a'} s' h' z => by
                      rw [z, s' _ _ fd.hb] at h'
                      cases h'
                    obtain ⟨aw, xw, ew, haw, hxw⟩ := Dp.seq_of (f := true) (show Dp K _ (.ref wa) (seqD true _) from g2)
                    cases ew
                    have lxw := dpa_len hxw
                    rw [List.length_map] at lxw
                    have lE := E0.ky.len
                    have lE2 := E0.ln
                    refine ⟨_, rfl, ⟨_, rfl, by show 1 ≤ sizeLine; decide, fun p1 hp1 => ?_⟩⟩
                    have sp1 : Same Hd' (upd Hd' p1 (.tup [.ref t])) := .upd hp1
                    have np1 := ltC (fun _ _ e => e) hp1
                    refine ⟨wa, p1, xw, [.ref t], rfl, rfl, sp1.sqT (cutS_le.sqT haw), sqt_of upd_same, Nat.le_trans (show xw.length + 1 ≤ 6000 by omega) (by decide), fun e => ?_, (fun _ e => by cases e), fun _ _ p2 hp2 => ?_⟩
                    · have sw := sp1
                      have hwv : Dp K (cutS [B] (upd Hd' p1 (.tup [.ref t]))) (.ref p1) (.tuple ((x.2.1 ++ [a]).map Arc.d)) := by
                        subst e
                        rw [show x.2.1 = [] from List.eq_nil_of_length_eq_zero lxw.symm]
                        exact .tup (sqt_of (cutS_at upd_same (not1 np1))) (.cons ((cutS_mono sp1).dp arcC) .nil)
                      generalize upd Hd' p1 (.tup [.ref t]) = H2 at sw hwv ⊢
                      generalize p1 = wv at hwv ⊢
                      intro p hp
                      have npB := ltC sw hp
                      have w1 : Same H2 (upd H2 p (.dK [])) := .upd hp
                      have hdw : H2 d = some (.dK (kvM V.int x.2.2)) := sw _ _ g3'
                      have ndp : d ≠ p := ne_of_none hdw hp
                      refine ⟨_, rfl, d, kvM V.int x.2.2, rfl, ndp, w1 _ _ hdw, upd_same, by rw [kvM_len]; omega, fun q hq => ?_⟩
                      have em : mergeK [] (kvM V.int x.2.2) = kvM V.int x.2.2 := merge_kvM (f := V.int) (acc := []) E0.ky.nd
                      rw [em] at hq ⊢
                      have nqp : q ≠ p := fun z => by
                        rw [z, upd_same] at hq
                        cases hq
                      have hq2 : H2 q = none := by
                        rw [upd_ne nqp, upd_ne nqp] at hq
                        exact hq
                      have nqB := ltC sw hq2
                      refine ⟨_, rfl, _, rfl, .inr a.to, .int (x0 - a.wt), rfl, upd_same, by rw [upd_ne nqp.symm]; exact upd_same, nqp, ?_⟩
                      have e5 : mergeK (kvM V.int x.2.2) (mergeK [] [((.inr a.to : Key), V.int (x0 - a.wt))]) = kvM V.int (putM x.2.2 a.to (x0 - a.wt)) := put_kvM (f := V.int) (m := x.2.2) (k := a.to) (v := x0 - a.wt)
                      rw [e5]
                      have s7 : Same H2 (upd (upd (upd (upd (upd H2 p (.dK [])) p (.dK (kvM V.int x.2.2))) q (.dK [])) q (.dK (mergeK [] [((.inr a.to : Key), V.int (x0 - a.wt))]))) p (.dK (kvM V.int (putM x.2.2 a.to (x0 - a.wt))))) := fun a' o ha' => by
                        have n1 : a' ≠ p := ne_of_none ha' hp
                        have n2 : a' ≠ q := ne_of_none ha' hq2
                        rw [upd_ne n1, upd_ne n2, upd_ne n2, upd_ne n1, upd_ne n1]
                        exact ha'
                      have hp7 : (upd (upd (upd (upd (upd H2 p (.dK [])) p (.dK (kvM V.int x.2.2))) q (.dK [])) q (.dK (mergeK [] [((.inr a.to : Key), V.int (x0 - a.wt))]))) p (.dK (kvM V.int (putM x.2.2 a.to (x0 - a.wt))))) p = some (.dK (kvM V.int (putM x.2.2 a.to (x0 - a.wt)))) := upd_same
                      generalize (upd (upd (upd (upd (upd H2 p (.dK [])) p (.dK (kvM V.int x.2.2))) q (.dK [])) q (.dK (mergeK [] [((.inr a.to : Key), V.int (x0 - a.wt))]))) p (.dK (kvM V.int (putM x.2.2 a.to (x0 - a.wt))))) = H7 at s7 hp7 ⊢
                      refine ⟨by show 2 ≤ sizeLine; decide, fun tt htt => ?_⟩
                      have s8 : Same H7 (upd H7 tt (.tup [.ref wv, .ref p])) := .upd htt
                      have ht8 : (upd H7 tt (.tup [.ref wv, .ref p])) tt = some (.tup [.ref wv, .ref p]) := upd_same
                      have ntt := ltC (sw.trans s7) htt
                      generalize upd H7 tt (.tup [.ref wv, .ref p]) = H8 at s8 ht8 ⊢
                      have t8 := (sw.trans s7).trans s8
                      have f8 := fd.same t8
                      have lb : b.length = r.best.length := by
                        rw [← fd.pu]
                        exact (List.length_map ..).symm
                      have lk1 := hJ.ky.len
                      refine ⟨_, rfl, _, rfl, B, _, rfl, DPut.k (k := .inr a.to) f8.hb (by rw [kvM_len]; exact szL (by omega)), ?_⟩
                      have ep := put_kvM (f := fun x : V × Ent => x.1) (m := b) (k := a.to) (v := (V.ref tt, (x.2.1 ++ [a], putM x.2.2 a.to (x0 - a.wt))))
                      rw [show putK (kvM (fun x : V × Ent => x.1) b) (.inr a.to) (V.ref tt) = kvM (fun x : V × Ent => x.1) (putM b a.to (V.ref tt, (x.2.1 ++ [a], putM x.2.2 a.to (x0 - a.wt)))) from ep]
                      have fz := f8.put (k := a.to) (v := .ref tt) (e := (x.2.1 ++ [a], putM x.2.2 a.to (x0 - a.wt))) (f := true) hB ⟨tt, wv, p, rfl, cutS_at ht8 (not1 ntt), (cutS_mono (s7.trans s8)).dp hwv, cutS_at (s8 _ _ hp7) (not1 npB)⟩
                      exact ⟨_, _, _, _, _, _, _, _, _, _, nxt.trans hz, rfl, fz, j1⟩
                    · have sp2 : Same (upd Hd' p1 (.tup [.ref t])) (upd (upd Hd' p1 (.tup [.ref t])) p2 (.tup (xw ++ [.ref t]))) := .upd hp2
                      have sw := sp1.trans sp2
                      have np2 := ltC sp1 hp2
                      have hwv : Dp K (cutS [B] (upd (upd Hd' p1 (.tup [.ref t])) p2 (.tup (xw ++ [.ref t])))) (.ref p2) (.tuple ((x.2.1 ++ [a]).map Arc.d)) := by
                        rw [List.map_append]
                        exact .tup (sqt_of (cutS_at upd_same (not1 np2))) (dpa_app ((cutS_mono sw).dpa hxw) (dpa_one ((cutS_mono sw).dp arcC)))
                      generalize upd (upd Hd' p1 (.tup [.ref t])) p2 (.tup (xw ++ [.ref t])) = H2 at sw hwv ⊢
                      generalize p2 = wv at hwv ⊢
                      intro p hp
                      have npB := ltC sw hp
                      have w1 : Same H2 (upd H2 p (.dK [])) := .upd hp
                      have hdw : H2 d = some (.dK (kvM V.int x.2.2)) := sw _ _ g3'
                      have ndp : d ≠ p := ne_of_none hdw hp
                      refine ⟨_, rfl, d, kvM V.int x.2.2, rfl, ndp, w1 _ _ hdw, upd_same, by rw [kvM_len]; omega, fun q hq => ?_⟩
                      have em : mergeK [] (kvM V.int x.2.2) = kvM V.int x.2.2 := merge_kvM (f := V.int) (acc := []) E0.ky.nd
                      rw [em] at hq ⊢
                      have nqp : q ≠ p := fun z => by
                        rw [z, upd_same] at hq
                        cases hq
                      have hq2 : H2 q = none := by
                        rw [upd_ne nqp, upd_ne nqp] at hq
                        exact hq
                      have nqB := ltC sw hq2
                      refine ⟨_, rfl, _, rfl, .inr a.to, .int (x0 - a.wt), rfl, upd_same, by rw [upd_ne nqp.symm]; exact upd_same, nqp, ?_⟩
                      have e5 : mergeK (kvM V.int x.2.2) (mergeK [] [((.inr a.to : Key), V.int (x0 - a.wt))]) = kvM V.int (putM x.2.2 a.to (x0 - a.wt)) := put_kvM (f := V.int) (m := x.2.2) (k := a.to) (v := x0 - a.wt)
                      rw [e5]
                      have s7 : Same H2 (upd (upd (upd (upd (upd H2 p (.dK [])) p (.dK (kvM V.int x.2.2))) q (.dK [])) q (.dK (mergeK [] [((.inr a.to : Key), V.int (x0 - a.wt))]))) p (.dK (kvM V.int (putM x.2.2 a.to (x0 - a.wt))))) := fun a' o ha' => by
                        have n1 : a' ≠ p := ne_of_none ha' hp
                        have n2 : a' ≠ q := ne_of_none ha' hq2
                        rw [upd_ne n1, upd_ne n2, upd_ne n2, upd_ne n1, upd_ne n1]
                        exact ha'
                      have hp7 : (upd (upd (upd (upd (upd H2 p (.dK [])) p (.dK (kvM V.int x.2.2))) q (.dK [])) q (.dK (mergeK [] [((.inr a.to : Key), V.int (x0 - a.wt))]))) p (.dK (kvM V.int (putM x.2.2 a.to (x0 - a.wt))))) p = some (.dK (kvM V.int (putM x.2.2 a.to (x0 - a.wt)))) := upd_same
                      generalize (upd (upd (upd (upd (upd H2 p (.dK [])) p (.dK (kvM V.int x.2.2))) q (.dK [])) q (.dK (mergeK [] [((.inr a.to : Key), V.int (x0 - a.wt))]))) p (.dK (kvM V.int (putM x.2.2 a.to (x0 - a.wt))))) = H7 at s7 hp7 ⊢
                      refine ⟨by show 2 ≤ sizeLine; decide, fun tt htt => ?_⟩
                      have s8 : Same H7 (upd H7 tt (.tup [.ref wv, .ref p])) := .upd htt
                      have ht8 : (upd H7 tt (.tup [.ref wv, .ref p])) tt = some (.tup [.ref wv, .ref p]) := upd_same
                      have ntt := ltC (sw.trans s7) htt
                      generalize upd H7 tt (.tup [.ref wv, .ref p]) = H8 at s8 ht8 ⊢
                      have t8 := (sw.trans s7).trans s8
                      have f8 := fd.same t8
                      have lb : b.length = r.best.length := by
                        rw [← fd.pu]
                        exact (List.length_map ..).symm
                      have lk1 := hJ.ky.len
                      refine ⟨_, rfl, _, rfl, B, _, rfl, DPut.k (k := .inr a.to) f8.hb (by rw [kvM_len]; exact szL (by omega)), ?_⟩
                      have ep := put_kvM (f := fun x : V × Ent => x.1) (m := b) (k := a.to) (v := (V.ref tt, (x.2.1 ++ [a], putM x.2.2 a.to (x0 - a.wt))))
                      rw [show putK (kvM (fun x : V × Ent => x.1) b) (.inr a.to) (V.ref tt) = kvM (fun x : V × Ent => x.1) (putM b a.to (V.ref tt, (x.2.1 ++ [a], putM x.2.2 a.to (x0 - a.wt)))) from ep]
                      have fz := f8.put (k := a.to) (v := .ref tt) (e := (x.2.1 ++ [a], putM x.2.2 a.to (x0 - a.wt))) (f := true) hB ⟨tt, wv, p, rfl, cutS_at ht8 (not1 ntt), (cutS_mono (s7.trans s8)).dp hwv, cutS_at (s8 _ _ hp7) (not1 npB)⟩
                      exact ⟨_, _, _, _, _, _, _, _, _, _, nxt.trans hz, rfl, fz, j1⟩
                  · rw [decide_eq_false hlt]
                    refine iteF ?_
                    exact ⟨r, _, _, _, _, _, _, _, _, b, nxt.trans (stay fun hc => by rw [hmo, decide_eq_false hlt] at hc; cases hc.2), rfl, fd, hJ⟩
              · rw [decide_eq_false h0]
                refine iteF ?_
                refine iteF ?_
                exact ⟨r, _, _, _, _, _, _, _, _, b, nxt.trans (stay fun hc => h0 (of_decide_eq_true hc.1)), rfl, fd, hJ⟩
            | some y =>
              have dg3 : DGet Hd' d (.str a.to) (some (.int y)) := by
                have := DGet.k (k := .inr a.to) g3'
                rw [val_kvM, hto] at this
                exact this
              have hit0 : hitF x.2 a (x0 - a.wt) = decide (y ≤ x0 - a.wt) := by
                unfold hitF
                rw [hto]
              refine iteT ?_
              refine ⟨_, rfl, _, rfl, _, rfl, d, _, rfl, dg3, _, _, rfl, rfl, ?_⟩
              refine ⟨_, rfl, ?_⟩
              by_cases hge : y ≤ x0 - a.wt
              · rw [decide_eq_true hge]
                refine iteT ?_
                have e : flStep a r = .inr (x.2.1, a) := by
                  unfold flStep
                  rw [lkb]
                  dsimp only
                  rw [vx, hit0, decide_eq_true hge, if_pos rfl]
                have hil : i < as.length := (List.getElem?_eq_some_iff.mp ha).1
                have hfin : flR as s as.length = .inr (x.2.1, a) := by
                  have := flR_inr (nxt.trans e) (as.length - (i + 1))
                  rwa [show i + 1 + (as.length - (i + 1)) = as.length by omega] at this
                rw [hfin] at hR
                obtain ⟨_, m2, m3⟩ := hR
                have m3 : x.2.1.length ≤ (w :: as.map Arc.to).length := m3
                obtain rfl : oE = some (x.2.1, a) := by
                  cases hEnd with
                  | stop h1 h2 =>
                    rw [hfin] at h1
                    cases h1
                  | found h1 =>
                    rw [hfin] at h1
                    cases h1
                    rfl
                  | go h1 h2 h3 =>
                    rw [hfin] at h1
                    cases h1
                exact ⟨_, rfl, _, rfl, .ref wa, .ref t, x.2.1, a, rfl, cutS_le.dp g2, fd.sm.dp hxd, m2, by omega, fun H' tv j s' hj hjm hdv => q H' tv nE _ (fd.sm.trans s') hE ⟨j, hj, hjm, hdv⟩⟩
              · rw [decide_eq_false hge]
                have hit : hitF x.2 a (x0 - a.wt) = false := by rw [hit0, decide_eq_false hge]
                refine iteF ?_
                dsimp only [tNext]
                have stay : ¬ (decide (x0 - a.wt ≥ 0) = true ∧ moreF r a (x0 - a.wt) = true) → flStep a r = .inl r := fun hc => by
                  unfold flStep
                  rw [lkb]
                  dsimp only
                  rw [vx, hit, if_neg Bool.false_ne_true, if_neg hc]
                have stepY : decide (x0 - a.wt ≥ 0) = true ∧ moreF r a (x0 - a.wt) = true → flStep a r ≠ .inl r := fun hc z => by
                  unfold flStep at z
                  rw [lkb] at z
                  dsimp only at z
                  rw [vx, hit, if_neg Bool.false_ne_true, if_pos hc] at z
                  have z2 := congrArg FB.best (Sum.inl.inj z)
                  have z3 : lk (putM r.best a.to (x.2.1 ++ [a], putM x.2.2 a.to (x0 - a.wt))) a.to = lk r.best a.to := congrArg (fun l => lk l a.to) z2
                  rw [lk_putL, if_pos rfl] at z3
                  have h5 := hc.2
                  unfold moreF at h5
                  rw [← z3] at h5
                  have h5 : x0 - a.wt > valE (x.2.1 ++ [a], putM x.2.2 a.to (x0 - a.wt)) a.to := of_decide_eq_true h5
                  unfold valE at h5
                  dsimp only at h5
                  rw [lk_putL, if_pos rfl] at h5
                  exact absurd h5 (Int.lt_irrefl _)
                refine ⟨_, rfl, _, _, rfl, rfl, ⟨_, rfl, ?_⟩⟩
                by_cases h0 : 0 ≤ x0 - a.wt
                · rw [decide_eq_true h0]
                  refine iteT ?_
                  refine ⟨_, rfl, _, rfl, B, _, rfl, DGet.k (k := .inr a.to) fd.hb, ?_⟩
                  rw [val_kvM, Option.isSome_map]
                  refine ⟨_, rfl, ?_⟩
                  have lkt := lk_pure (k := a.to) (b := b)
                  rw [fd.pu] at lkt
                  cases hbt : lk b a.to with
                  | none =>
                    rw [hbt] at lkt
                    have hmo : moreF r a (x0 - a.wt) = true := by
                      unfold moreF
                      rw [lkt]
                      rfl
                    have stepN := stepY ⟨decide_eq_true h0, hmo⟩
                    refine iteT ?_
                    refine iteT ?_
                    rcases flStep_cases (hU a hm) hm hJ with hz | ⟨e', he', hh', _⟩ | ⟨e', he', hh', h0', h1', hz, j1, j2⟩
                    · exact absurd hz stepN
                    · rw [lkb] at he'
                      cases he'
                      rw [vx] at hh'
                      rw [hh'] at hit
                      cases hit
                    rw [lkb] at he'
                    cases he'
                    rw [vx] at hz j1
                    have smc : Same H (cutS [B] Hd') := fun a' o ha' => cutS_at (fd.sm _ _ ha') (not1 (ne_of_none ha' hB))
                    have arcC : Dp K (cutS [B] Hd') (.ref t) a.d := smc.dp hxd
                    have ltC : ∀ {H' : Hp} {a' : Addr}, Same Hd' H' → H' a' = none → a' ≠ B := fun {H' a'} s' h' z => by
                      rw [z, s' _ _ fd.hb] at h'
                      cases h'
                    obtain ⟨aw, xw, ew, haw, hxw⟩ := Dp.seq_of (f := true) (show Dp K _ (.ref wa) (seqD true _) from g2)
                    cases ew
                    have lxw := dpa_len hxw
                    rw [List.length_map] at lxw
                    have lE := E0.ky.len
                    have lE2 := E0.ln
                    refine ⟨_, rfl, ⟨_, rfl, by show 1 ≤ sizeLine; decide, fun p1 hp1 => ?_⟩⟩
                    have sp1 : Same Hd' (upd Hd' p1 (.tup [.ref t])) := .upd hp1
                    have np1 := ltC (fun _ _ e => e) hp1
                    refine ⟨wa, p1, xw, [.ref t], rfl, rfl, sp1.sqT (cutS_le.sqT haw), sqt_of upd_same, Nat.le_trans (show xw.length + 1 ≤ 6000 by omega) (by decide), fun e => ?_, (fun _ e => by cases e), fun _ _ p2 hp2 => ?_⟩
                    · have sw := sp1
                      have hwv : Dp K (cutS [B] (upd Hd' p1 (.tup [.ref t]))) (.ref p1) (.tuple ((x.2.1 ++ [a]).map Arc.d)) := by
                        subst e
                        rw [show x.2.1 = [] from List.eq_nil_of_length_eq_zero lxw.symm]
                        exact .tup (sqt_of (cutS_at upd_same (not1 np1))) (.cons ((cutS_mono sp1).dp arcC) .nil)
                      generalize upd Hd' p1 (.tup [.ref t]) = H2 at sw hwv ⊢
                      generalize p1 = wv at hwv ⊢
                      intro p hp
                      have npB := ltC sw hp
                      have w1 : Same H2 (upd H2 p (.dK [])) := .upd hp
                      have hdw : H2 d = some (.dK (kvM V.int x.2.2)) := sw _ _ g3'
                      have ndp : d ≠ p := ne_of_none hdw hp
                      refine ⟨_, rfl, d, kvM V.int x.2.2, rfl, ndp, w1 _ _ hdw, upd_same, by rw [kvM_len]; omega, fun q hq => ?_⟩
                      have em : mergeK [] (kvM V.int x.2.2) = kvM V.int x.2.2 := merge_kvM (f := V.int) (acc := []) E0.ky.nd
                      rw [em] at hq ⊢
                      have nqp : q ≠ p := fun z => by
                        rw [z, upd_same] at hq
                        cases hq
                      have hq2 : H2 q = none := by
                        rw [upd_ne nqp, upd_ne nqp] at hq
                        exact hq
                      have nqB := ltC sw hq2
                      refine ⟨_, rfl, _, rfl, .inr a.to, .int (x0 - a.wt), rfl, upd_same, by rw [upd_ne nqp.symm]; exact upd_same, nqp, ?_⟩
                      have e5 : mergeK (kvM V.int x.2.2) (mergeK [] [((.inr a.to : Key), V.int (x0 - a.wt))]) = kvM V.int (putM x.2.2 a.to (x0 - a.wt)) := put_kvM (f := V.int) (m := x.2.2) (k := a.to) (v := x0 - a.wt)
                      rw [e5]
                      have s7 : Same H2 (upd (upd (upd (upd (upd H2 p (.dK [])) p (.dK (kvM V.int x.2.2))) q (.dK [])) q (.dK (mergeK [] [((.inr a.to : Key), V.int (x0 - a.wt))]))) p (.dK (kvM V.int (putM x.2.2 a.to (x0 - a.wt))))) := fun a' o ha' => by
                        have n1 : a' ≠ p := ne_of_none ha' hp
                        have n2 : a' ≠ q := ne_of_none ha' hq2
                        rw [upd_ne n1, upd_ne n2, upd_ne n2, upd_ne n1, upd_ne n1]
                        exact ha'
                      have hp7 : (upd (upd (upd (upd (upd H2 p (.dK [])) p (.dK (kvM V.int x.2.2))) q (.dK [])) q (.dK (mergeK [] [((.inr a.to : Key), V.int (x0 - a.wt))]))) p (.dK (kvM V.int (putM x.2.2 a.to (x0 - a.wt))))) p = some (.dK (kvM V.int (putM x.2.2 a.to (x0 - a.wt)))) := upd_same
                      generalize (upd (upd (upd (upd (upd H2 p (.dK [])) p (.dK (kvM V.int x.2.2))) q (.dK [])) q (.dK (mergeK [] [((.inr a.to : Key), V.int (x0 - a.wt))]))) p (.dK (kvM V.int (putM x.2.2 a.to (x0 - a.wt))))) = H7 at s7 hp7 ⊢
                      refine ⟨by show 2 ≤ sizeLine; decide, fun tt htt => ?_⟩
                      have s8 : Same H7 (upd H7 tt (.tup [.ref wv, .ref p])) := .upd htt
                      have ht8 : (upd H7 tt (.tup [.ref wv, .ref p])) tt = some (.tup [.ref wv, .ref p]) := upd_same
                      have ntt := ltC (sw.trans s7) htt
                      generalize upd H7 tt (.tup [.ref wv, .ref p]) = H8 at s8 ht8 ⊢
                      have t8 := (sw.trans s7).trans s8
                      have f8 := fd.same t8
                      have lb : b.length = r.best.length := by
                        rw [← fd.pu]
                        exact (List.length_map ..).symm
                      have lk1 := hJ.ky.len
                      refine ⟨_, rfl, _, rfl, B, _, rfl, DPut.k (k := .inr a.to) f8.hb (by rw [kvM_len]; exact szL (by omega)), ?_⟩
                      have ep := put_kvM (f := fun x : V × Ent => x.1) (m := b) (k := a.to) (v := (V.ref tt, (x.2.1 ++ [a], putM x.2.2 a.to (x0 - a.wt))))
                      rw [show putK (kvM (fun x : V × Ent => x.1) b) (.inr a.to) (V.ref tt) = kvM (fun x : V × Ent => x.1) (putM b a.to (V.ref tt, (x.2.1 ++ [a], putM x.2.2 a.to (x0 - a.wt)))) from ep]
                      have fz := f8.put (k := a.to) (v := .ref tt) (e := (x.2.1 ++ [a], putM x.2.2 a.to (x0 - a.wt))) (f := true) hB ⟨tt, wv, p, rfl, cutS_at ht8 (not1 ntt), (cutS_mono (s7.trans s8)).dp hwv, cutS_at (s8 _ _ hp7) (not1 npB)⟩
                      exact ⟨_, _, _, _, _, _, _, _, _, _, nxt.trans hz, rfl, fz, j1⟩
                    · have sp2 : Same (upd Hd' p1 (.tup [.ref t])) (upd (upd Hd' p1 (.tup [.ref t])) p2 (.tup (xw ++ [.ref t]))) := .upd hp2
                      have sw := sp1.trans sp2
                      have np2 := ltC sp1 hp2
                      have hwv : Dp K (cutS [B] (upd (upd Hd' p1 (.tup [.ref t])) p2 (.tup (xw ++ [.ref t])))) (.ref p2) (.tuple ((x.2.1 ++ [a]).map Arc.d)) := by
                        rw [List.map_append]
                        exact .tup (sqt_of (cutS_at upd_same (not1 np2))) (dpa_app ((cutS_mono sw).dpa hxw) (dpa_one ((cutS_mono sw).dp arcC)))
                      generalize upd (upd Hd' p1 (.tup [.ref t])) p2 (.tup (xw ++ [.ref t])) = H2 at sw hwv ⊢
                      generalize p2 = wv at hwv ⊢
                      intro p hp
                      have npB := ltC sw hp
                      have w1 : Same H2 (upd H2 p (.dK [])) := .upd hp
                      have hdw : H2 d = some (.dK (kvM V.int x.2.2)) := sw _ _ g3'
                      have ndp : d ≠ p := ne_of_none hdw hp
                      refine ⟨_, rfl, d, kvM V.int x.2.2, rfl, ndp, w1 _ _ hdw, upd_same, by rw [kvM_len]; omega, fun q hq => ?_⟩
                      have em : mergeK [] (kvM V.int x.2.2) = kvM V.int x.2.2 := merge_kvM (f := V.int) (acc := []) E0.ky.nd
                      rw [em] at hq ⊢
                      have nqp : q ≠ p := fun z => by
                        rw [z, upd_same] at hq
                        cases hq
                      have hq2 : H2 q = none := by
                        rw [upd_ne nqp, upd_ne nqp] at hq
                        exact hq
                      have nqB := ltC sw hq2
                      refine ⟨_, rfl, _, rfl, .inr a.to, .int (x0 - a.wt), rfl, upd_same, by rw [upd_ne nqp.symm]; exact upd_same, nqp, ?_⟩
                      have e5 : mergeK (kvM V.int x.2.2) (mergeK [] [((.inr a.to : Key), V.int (x0 - a.wt))]) = kvM V.int (putM x.2.2 a.to (x0 - a.wt)) := put_kvM (f := V.int) (m := x.2.2) (k := a.to) (v := x0 - a.wt)
                      rw [e5]
                      have s7 : Same H2 (upd (upd (upd (upd (upd H2 p (.dK [])) p (.dK (kvM V.int x.2.2))) q (.dK [])) q (.dK (mergeK [] [((.inr a.to : Key), V.int (x0 - a.wt))]))) p (.dK (kvM V.int (putM x.2.2 a.to (x0 - a.wt))))) := fun a' o ha' => by
                        have n1 : a' ≠ p := ne_of_none ha' hp
                        have n2 : a' ≠ q := ne_of_none ha' hq2
                        rw [upd_ne n1, upd_ne n2, upd_ne n2, upd_ne n1, upd_ne n1]
                        exact ha'
                      have hp7 : (upd (upd (upd (upd (upd H2 p (.dK [])) p (.dK (kvM V.int x.2.2))) q (.dK [])) q (.dK (mergeK [] [((.inr a.to : Key), V.int (x0 - a.wt))]))) p (.dK (kvM V.int (putM x.2.2 a.to (x0 - a.wt))))) p = some (.dK (kvM V.int (putM x.2.2 a.to (x0 - a.wt)))) := upd_same
                      generalize (upd (upd (upd (upd (upd H2 p (.dK [])) p (.dK (kvM V.int x.2.2))) q (.dK [])) q (.dK (mergeK [] [((.inr a.to : Key), V.int (x0 - a.wt))]))) p (.dK (kvM V.int (putM x.2.2 a.to (x0 - a.wt))))) = H7 at s7 hp7 ⊢
                      refine ⟨by show 2 ≤ sizeLine; decide, fun tt htt => ?_⟩
                      have s8 : Same H7 (upd H7 tt (.tup [.ref wv, .ref p])) := .upd htt
                      have ht8 : (upd H7 tt (.tup [.ref wv, .ref p])) tt = some (.tup [.ref wv, .ref p]) := upd_same
                      have ntt := ltC (sw.trans s7) htt
                      generalize upd H7 tt (.tup [.ref wv, .ref p]) = H8 at s8 ht8 ⊢
                      have t8 := (sw.trans s7).trans s8
                      have f8 := fd.same t8
                      have lb : b.length = r.best.length := by
                        rw [← fd.pu]
                        exact (List.length_map ..).symm
                      have lk1 := hJ.ky.len
                      refine ⟨_, rfl, _, rfl, B, _, rfl, DPut.k (k := .inr a.to) f8.hb (by rw [kvM_len]; exact szL (by omega)), ?_⟩
                      have ep := put_kvM (f := fun x : V × Ent => x.1) (m := b) (k := a.to) (v := (V.ref tt, (x.2.1 ++ [a], putM x.2.2 a.to (x0 - a.wt))))
                      rw [show putK (kvM (fun x : V × Ent => x.1) b) (.inr a.to) (V.ref tt) = kvM (fun x : V × Ent => x.1) (putM b a.to (V.ref tt, (x.2.1 ++ [a], putM x.2.2 a.to (x0 - a.wt)))) from ep]
                      have fz := f8.put (k := a.to) (v := .ref tt) (e := (x.2.1 ++ [a], putM x.2.2 a.to (x0 - a.wt))) (f := true) hB ⟨tt, wv, p, rfl, cutS_at ht8 (not1 ntt), (cutS_mono (s7.trans s8)).dp hwv, cutS_at (s8 _ _ hp7) (not1 npB)⟩
                      exact ⟨_, _, _, _, _, _, _, _, _, _, nxt.trans hz, rfl, fz, j1⟩
                  | some x2 =>
                    rw [hbt] at lkt
                    have lkt : lk r.best a.to = some x2.2 := lkt
                    obtain ⟨te2, wa2, d2, hte2, k1, k2, k3⟩ := fd.en _ _ hbt
                    have dgB : DGet Hd' B (.str a.to) (some (.ref te2)) := by
                      have := DGet.k (k := .inr a.to) fd.hb
                      rw [val_kvM, hbt] at this
                      rw [← hte2]
                      exact this
                    obtain ⟨z, hz0⟩ : ∃ z, lk x2.2.2 a.to = some z := by
                      cases hh : lk x2.2.2 a.to with
                      | none =>
                        have := (hJ.en _ _ lkt).ks
                        rw [hh] at this
                        cases this
                      | some z => exact ⟨z, rfl⟩
                    have dgz : DGet Hd' d2 (.str a.to) (some (.int z)) := by
                      have := DGet.k (k := .inr a.to) (cutS_le _ _ k3)
                      rw [val_kvM, hz0] at this
                      exact this
                    refine iteF ?_
                    refine ⟨_, rfl, _, rfl, _, rfl, B, _, rfl, dgB, rIxF_at (f := true) (sqt_of (cutS_le _ _ k1)) (atI_nat (j := 1) rfl) ⟨_, rfl, d2, _, rfl, dgz, _, _, rfl, rfl, ?_⟩⟩
                    refine ⟨_, rfl, ?_⟩
                    have hmo : moreF r a (x0 - a.wt) = decide (z < x0 - a.wt) := by
                      unfold moreF valE
                      rw [lkt]
                      dsimp only
                      rw [hz0]
                      rfl
                    by_cases hlt : z < x0 - a.wt
                    · rw [decide_eq_true hlt]
                      have stepN := stepY ⟨decide_eq_true h0, by rw [hmo, decide_eq_true hlt]⟩
                      refine iteT ?_
                      rcases flStep_cases (hU a hm) hm hJ with hz | ⟨e', he', hh', _⟩ | ⟨e', he', hh', h0', h1', hz, j1, j2⟩
                      · exact absurd hz stepN
                      · rw [lkb] at he'
                        cases he'
                        rw [vx] at hh'
                        rw [hh'] at hit
                        cases hit
                      rw [lkb] at he'
                      cases he'
                      rw [vx] at hz j1
                      have smc : Same H (cutS [B] Hd') := fun a' o ha' => cutS_at (fd.sm _ _ ha') (not1 (ne_of_none ha' hB))
                      have arcC : Dp K (cutS [B] Hd') (.ref t) a.d := smc.dp hxd
                      have ltC : ∀ {H' : Hp} {a' : Addr}, Same Hd' H' → H' a' = none → a' ≠ B := fun {H' a'} s' h' z => by
                        rw [z, s' _ _ fd.hb] at h'
                        cases h'
                      obtain ⟨aw, xw, ew, haw, hxw⟩ := Dp.seq_of (f := true) (show Dp K _ (.ref wa) (seqD true _) from g2)
                      cases ew
                      have lxw := dpa_len hxw
                      rw [List.length_map] at lxw
                      have lE := E0.ky.len
                      have lE2 := E0.ln
                      refine ⟨_, rfl, ⟨_, rfl, by show 1 ≤ sizeLine; decide, fun p1 hp1 => ?_⟩⟩
                      have sp1 : Same Hd' (upd Hd' p1 (.tup [.ref t])) := .upd hp1
                      have np1 := ltC (fun _ _ e => e) hp1
                      refine ⟨wa, p1, xw, [.ref t], rfl, rfl, sp1.sqT (cutS_le.sqT haw), sqt_of upd_same, Nat.le_trans (show xw.length + 1 ≤ 6000 by omega) (by decide), fun e => ?_, (fun _ e => by cases e), fun _ _ p2 hp2 => ?_⟩
                      · have sw := sp1
                        have hwv : Dp K (cutS [B] (upd Hd' p1 (.tup [.ref t]))) (.ref p1) (.tuple ((x.2.1 ++ [a]).map Arc.d)) := by
                          subst e
                          rw [show x.2.1 = [] from List.eq_nil_of_length_eq_zero lxw.symm]
                          exact .tup (sqt_of (cutS_at upd_same (not1 np1))) (.cons ((cutS_mono sp1).dp arcC) .nil)
                        generalize upd Hd' p1 (.tup [.ref t]) = H2 at sw hwv ⊢
                        generalize p1 = wv at hwv ⊢
                        intro p hp
                        have npB := ltC sw hp
                        have w1 : Same H2 (upd H2 p (.dK [])) := .upd hp
                        have hdw : H2 d = some (.dK (kvM V.int x.2.2)) := sw _ _ g3'
                        have ndp : d ≠ p := ne_of_none hdw hp
                        refine ⟨_, rfl, d, kvM V.int x.2.2, rfl, ndp, w1 _ _ hdw, upd_same, by rw [kvM_len]; omega, fun q hq => ?_⟩
                        have em : mergeK [] (kvM V.int x.2.2) = kvM V.int x.2.2 := merge_kvM (f := V.int) (acc := []) E0.ky.nd
                        rw [em] at hq ⊢
                        have nqp : q ≠ p := fun z => by
                          rw [z, upd_same] at hq
                          cases hq
                        have hq2 : H2 q = none := by
                          rw [upd_ne nqp, upd_ne nqp] at hq
                          exact hq
                        have nqB := ltC sw hq2
                        refine ⟨_, rfl, _, rfl, .inr a.to, .int (x0 - a.wt), rfl, upd_same, by rw [upd_ne nqp.symm]; exact upd_same, nqp, ?_⟩
                        have e5 : mergeK (kvM V.int x.2.2) (mergeK [] [((.inr a.to : Key), V.int (x0 - a.wt))]) = kvM V.int (putM x.2.2 a.to (x0 - a.wt)) := put_kvM (f := V.int) (m := x.2.2) (k := a.to) (v := x0 - a.wt)
                        rw [e5]
                        have s7 : Same H2 (upd (upd (upd (upd (upd H2 p (.dK [])) p (.dK (kvM V.int x.2.2))) q (.dK [])) q (.dK (mergeK [] [((.inr a.to : Key), V.int (x0 - a.wt))]))) p (.dK (kvM V.int (putM x.2.2 a.to (x0 - a.wt))))) := fun a' o ha' => by
                          have n1 : a' ≠ p := ne_of_none ha' hp
                          have n2 : a' ≠ q := ne_of_none ha' hq2
                          rw [upd_ne n1, upd_ne n2, upd_ne n2, upd_ne n1, upd_ne n1]
                          exact ha'
                        have hp7 : (upd (upd (upd (upd (upd H2 p (.dK [])) p (.dK (kvM V.int x.2.2))) q (.dK [])) q (.dK (mergeK [] [((.inr a.to : Key), V.int (x0 - a.wt))]))) p (.dK (kvM V.int (putM x.2.2 a.to (x0 - a.wt))))) p = some (.dK (kvM V.int (putM x.2.2 a.to (x0 - a.wt)))) := upd_same
                        generalize (upd (upd (upd (upd (upd H2 p (.dK [])) p (.dK (kvM V.int x.2.2))) q (.dK [])) q (.dK (mergeK [] [((.inr a.to : Key), V.int (x0 - a.wt))]))) p (.dK (kvM V.int (putM x.2.2 a.to (x0 - a.wt))))) = H7 at s7 hp7 ⊢
                        refine ⟨by show 2 ≤ sizeLine; decide, fun tt htt => ?_⟩
                        have s8 : Same H7 (upd H7 tt (.tup [.ref wv, .ref p])) := .upd htt
                        have ht8 : (upd H7 tt (.tup [.ref wv, .ref p])) tt = some (.tup [.ref wv, .ref p]) := upd_same
                        have ntt := ltC (sw.trans s7) htt
                        generalize upd H7 tt (.tup [.ref wv, .ref p]) = H8 at s8 ht8 ⊢
                        have t8 := (sw.trans s7).trans s8
                        have f8 := fd.same t8
                        have lb : b.length = r.best.length := by
                          rw [← fd.pu]
                          exact (List.length_map ..).symm
                        have lk1 := hJ.ky.len
                        refine ⟨_, rfl, _, rfl, B, _, rfl, DPut.k (k := .inr a.to) f8.hb (by rw [kvM_len]; exact szL (by omega)), ?_⟩
                        have ep := put_kvM (f := fun x : V × Ent => x.1) (m := b) (k := a.to) (v := (V.ref tt, (x.2.1 ++ [a], putM x.2.2 a.to (x0 - a.wt))))
                        rw [show putK (kvM (fun x : V × Ent => x.1) b) (.inr a.to) (V.ref tt) = kvM (fun x : V × Ent => x.1) (putM b a.to (V.ref tt, (x.2.1 ++ [a], putM x.2.2 a.to (x0 - a.wt)))) from ep]
                        have fz := f8.put (k := a.to) (v := .ref tt) (e := (x.2.1 ++ [a], putM x.2.2 a.to (x0 - a.wt))) (f := true) hB ⟨tt, wv, p, rfl, cutS_at ht8 (not1 ntt), (cutS_mono (s7.trans s8)).dp hwv, cutS_at (s8 _ _ hp7) (not1 npB)⟩
                        exact ⟨_, _, _, _, _, _, _, _, _, _, nxt.trans hz, rfl, fz, j1⟩
                      · have sp2 : Same (upd Hd' p1 (.tup [.ref t])) (upd (upd Hd' p1 (.tup [.ref t])) p2 (.tup (xw ++ [.ref t]))) := .upd hp2
                        have sw := sp1.trans sp2
                        have np2 := ltC sp1 hp2
                        have hwv : Dp K (cutS [B] (upd (upd Hd' p1 (.tup [.ref t])) p2 (.tup (xw ++ [.ref t])))) (.ref p2) (.tuple ((x.2.1 ++ [a]).map Arc.d)) := by
                          rw [List.map_append]
                          exact .tup (sqt_of (cutS_at upd_same (not1 np2))) (dpa_app ((cutS_mono sw).dpa hxw) (dpa_one ((cutS_mono sw).dp arcC)))
                        generalize upd (upd Hd' p1 (.tup [.ref t])) p2 (.tup (xw ++ [.ref t])) = H2 at sw hwv ⊢
                        generalize p2 = wv at hwv ⊢
                        intro p hp
                        have npB := ltC sw hp
                        have w1 : Same H2 (upd H2 p (.dK [])) := .upd hp
                        have hdw : H2 d = some (.dK (kvM V.int x.2.2)) := sw _ _ g3'
                        have ndp : d ≠ p := ne_of_none hdw hp
                        refine ⟨_, rfl, d, kvM V.int x.2.2, rfl, ndp, w1 _ _ hdw, upd_same, by rw [kvM_len]; omega, fun q hq => ?_⟩
                        have em : mergeK [] (kvM V.int x.2.2) = kvM V.int x.2.2 := merge_kvM (f := V.int) (acc := []) E0.ky.nd
                        rw [em] at hq ⊢
                        have nqp : q ≠ p := fun z => by
                          rw [z, upd_same] at hq
                          cases hq
                        have hq2 : H2 q = none := by
                          rw [upd_ne nqp, upd_ne nqp] at hq
                          exact hq
                        have nqB := ltC sw hq2
                        refine ⟨_, rfl, _, rfl, .inr a.to, .int (x0 - a.wt), rfl, upd_same, by rw [upd_ne nqp.symm]; exact upd_same, nqp, ?_⟩
                        have e5 : mergeK (kvM V.int x.2.2) (mergeK [] [((.inr a.to : Key), V.int (x0 - a.wt))]) = kvM V.int (putM x.2.2 a.to (x0 - a.wt)) := put_kvM (f := V.int) (m := x.2.2) (k := a.to) (v := x0 - a.wt)
                        rw [e5]
                        have s7 : Same H2 (upd (upd (upd (upd (upd H2 p (.dK [])) p (.dK (kvM V.int x.2.2))) q (.dK [])) q (.dK (mergeK [] [((.inr a.to : Key), V.int (x0 - a.wt))]))) p (.dK (kvM V.int (putM x.2.2 a.to (x0 - a.wt))))) := fun a' o ha' => by
                          have n1 : a' ≠ p := ne_of_none ha' hp
                          have n2 : a' ≠ q := ne_of_none ha' hq2
                          rw [upd_ne n1, upd_ne n2, upd_ne n2, upd_ne n1, upd_ne n1]
                          exact ha'
                        have hp7 : (upd (upd (upd (upd (upd H2 p (.dK [])) p (.dK (kvM V.int x.2.2))) q (.dK [])) q (.dK (mergeK [] [((.inr a.to : Key), V.int (x0 - a.wt))]))) p (.dK (kvM V.int (putM x.2.2 a.to (x0 - a.wt))))) p = some (.dK (kvM V.int (putM x.2.2 a.to (x0 - a.wt)))) := upd_same
                        generalize (upd (upd (upd (upd (upd H2 p (.dK [])) p (.dK (kvM V.int x.2.2))) q (.dK [])) q (.dK (mergeK [] [((.inr a.to : Key), V.int (x0 - a.wt))]))) p (.dK (kvM V.int (putM x.2.2 a.to (x0 - a.wt))))) = H7 at s7 hp7 ⊢
                        refine ⟨by show 2 ≤ sizeLine; decide, fun tt htt => ?_⟩
                        have s8 : Same H7 (upd H7 tt (.tup [.ref wv, .ref p])) := .upd htt
                        have ht8 : (upd H7 tt (.tup [.ref wv, .ref p])) tt = some (.tup [.ref wv, .ref p]) := upd_same
                        have ntt := ltC (sw.trans s7) htt
                        generalize upd H7 tt (.tup [.ref wv, .ref p]) = H8 at s8 ht8 ⊢
                        have t8 := (sw.trans s7).trans s8
                        have f8 := fd.same t8
                        have lb : b.length = r.best.length := by
                          rw [← fd.pu]
                          exact (List.length_map ..).symm
                        have lk1 := hJ.ky.len
                        refine ⟨_, rfl, _, rfl, B, _, rfl, DPut.k (k := .inr a.to) f8.hb (by rw [kvM_len]; exact szL (by omega)), ?_⟩
                        have ep := put_kvM (f := fun x : V × Ent => x.1) (m := b) (k := a.to) (v := (V.ref tt, (x.2.1 ++ [a], putM x.2.2 a.to (x0 - a.wt))))
                        rw [show putK (kvM (fun x : V × Ent => x.1) b) (.inr a.to) (V.ref tt) = kvM (fun x : V × Ent => x.1) (putM b a.to (V.ref tt, (x.2.1 ++ [a], putM x.2.2 a.to (x0 - a.wt)))) from ep]
                        have fz := f8.put (k := a.to) (v := .ref tt) (e := (x.2.1 ++ [a], putM x.2.2 a.to (x0 - a.wt))) (f := true) hB ⟨tt, wv, p, rfl, cutS_at ht8 (not1 ntt), (cutS_mono (s7.trans s8)).dp hwv, cutS_at (s8 _ _ hp7) (not1 npB)⟩
                        exact ⟨_, _, _, _, _, _, _, _, _, _, nxt.trans hz, rfl, fz, j1⟩
                    · rw [decide_eq_false hlt]
                      refine iteF ?_
                      exact ⟨r, _, _, _, _, _, _, _, _, b, nxt.trans (stay fun hc => by rw [hmo, decide_eq_false hlt] at hc; cases hc.2), rfl, fd, hJ⟩
                · rw [decide_eq_false h0]
                  refine iteF ?_
                  refine iteF ?_
                  exact ⟨r, _, _, _, _, _, _, _, _, b, nxt.trans (stay fun hc => h0 (of_decide_eq_true hc.1)), rfl, fd, hJ⟩
      · obtain ⟨r, x4, x5, x6, x7, x8, x9, x10, x11, b, hri, rfl, fd, hJ⟩ := hh
        rw [lys] at hri
        exact ⟨r, _, _, _, _, _, _, _, _, b, hri, rfl, fd⟩
end
end Jl

set_option Elab.async false
set_option linter.all false
set_option maxRecDepth 100000
set_option maxHeartbeats 1000000
set_option pp.maxSteps 300
namespace Jl
open PySem PySem.Spec PyProof.Rows L2
open Evl (sz_of sz_lt)
local macro_rules | `(tactic| walk_at "at") => `(tactic| first | exact box0 | exact box1 | exact box2)
local macro_rules | `(tactic| walk_at "sq") => `(tactic| first | (show SqL _ _ _ _; assumption) | (show SqT _ _ _ _; assumption) | (show _ = some _; assumption))
local macro_rules | `(tactic| walk_at "side") => `(tactic| first
  | (show (0 : Int) < _; decide)
  | (show (0 : Int) < _; omega)
  | exact ⟨by decide, by decide, by decide⟩
  | exact sz_of (Nat.le_of_ble_eq_true rfl)
  | exact rfl
  | exact Or.inl (by decide)
  | exact Or.inr (by decide)
  | exact Or.inr ⟨by omega, by omega⟩
  | exact Or.inl ⟨by omega, by omega⟩
  | exact ⟨by decide, by decide +kernel⟩)
local macro_rules | `(tactic| walk_at "ev1") => `(tactic| first
  | refine ⟨_, rfl, ?_⟩
  | refine ⟨_, _, rfl, rfl, ?_⟩
  | refine ⟨_, _, _, _, rfl, rfl, (by walk_at "sq"), (by walk_at "at"), ?_⟩
  | refine ⟨_, _, rfl, (by walk_at "sq"), ?_⟩
  | refine ⟨_, _, rfl, Or.inl (by walk_at "sq"), ?_⟩
  | refine ⟨_, _, rfl, Or.inr (by walk_at "sq"), ?_⟩
  | refine Or.inl ⟨_, rfl, ?_⟩
  | refine Or.inr ⟨_, rfl, ?_⟩
  | refine ⟨(by walk_at "side"), ?_⟩
  | refine ⟨.inl ⟨rfl, _, (by walk_at "sq")⟩, ?_⟩
  | refine ⟨_, _, rfl, ?_⟩)
local macro_rules | `(tactic| walk_at "nrm") => `(tactic| dsimp only [tNil, tCons, tC, tCB])
local macro_rules | `(tactic| walk_at "ev") => `(tactic| repeat (walk_at "ev1"))
abbrev sc_free_lassos_N : List Str := ["net", "arcs", "found", "worker"]
abbrev s_free_lassos : Stmt := topS 25
theorem sc_free_lassos : FnScope ["net", "arcs", "found", "worker"] ["net"] (defScope s_free_lassos) := ⟨rfl, rfl, rfl, by decide +kernel, rfl, by decide +kernel, by decide +kernel⟩
theorem FlEnd.det {as : List Arc} {n n' : Nat} {s : FB} {o o' : Option (List Arc × Arc)} (h : FlEnd as n s o) (h' : FlEnd as n' s o') : o = o' := by
  induction h generalizing n' with
  | stop h1 h2 =>
    cases h' with
    | stop h3 h4 => rfl
    | found h3 => rw [h1] at h3; cases h3
    | go h3 h4 h5 => rw [h1] at h3; cases h3; rw [h2] at h4; cases h4
  | found h1 =>
    cases h' with
    | stop h3 h4 => rw [h1] at h3; cases h3
    | found h3 => rw [h1] at h3; cases h3; rfl
    | go h3 h4 h5 => rw [h1] at h3; cases h3
  | go h1 h2 h3 ih =>
    cases h' with
    | stop h4 h5 => rw [h1] at h4; cases h4; rw [h2] at h5; cases h5
    | found h4 => rw [h1] at h4; cases h4
    | go h4 h5 h6 =>
      rw [h1] at h4
      cases h4
      exact ih h6
def startB (w : Str) : FB := ⟨[(w, ([], [(w, 0)]))], true⟩
open Classical in
/-- a free lasso is found from here -/
noncomputable def lasB (as : List Arc) (w : Str) : Bool := decide (∃ n x, FlEnd as n (startB w) (some x))
open Classical in
theorem lasB_of {as : List Arc} {w : Str} {n : Nat} {o : Option (List Arc × Arc)} (h : FlEnd as n (startB w) o) : lasB as w = o.isSome := by
  unfold lasB
  cases o with
  | none => exact decide_eq_false fun ⟨_, _, h2⟩ => by cases h.det h2
  | some x => exact decide_eq_true ⟨_, _, h⟩
theorem las_non {K : PySem.W.Frag} {H : Hp} {t : V} {o : Option (List Arc × Arc)} (h : LasD K H t o) : t = .non ↔ o.isSome = false := by
  cases o with
  | none => exact ⟨fun _ => rfl, fun _ => h⟩
  | some x =>
    obtain ⟨w1, a⟩ := x
    obtain ⟨j, _, _, hd⟩ := h
    obtain ⟨p, xs, rfl, _⟩ := Dp.seq_of (f := true) hd
    exact ⟨(fun z => by cases z), (fun z => by cases z)⟩
section
variable {P : Program} {w : World} {K : PySem.W.Frag} {mg : Str → Option Value} {base : Heap}
def spFreeLs (K : PySem.W.Frag) : Sp := fun vs H Q _ => ∃ (v : V) (fb : Bool) (ws : List Str) (qs : List QD), vs = [v] ∧ Dp K H v (netD fb ws qs) ∧ (∀ q ∈ qs, q.st ≠ q.en) ∧ ws.Nodup ∧ ws.length ≤ 400 ∧ qs.length ≤ 400 ∧
  ∀ H' M (m : List (Str × V)), Same H H' → H M = none → H' M = some (.dK (kvM (fun x => x) m)) → m.map (·.1) = ws.filter (lasB (arcsF 1 0 qs)) → Q (.ref M) H'
theorem ok_free_lassos {f fA fL : Addr} {fd fdA fdL : FuncData} {k : Nat} (F : Fun K "free_lassos" "free_lassos" s_free_lassos f fd)
    (G_arcs_of : FnOk P w K mg base CX0 k fA fdA ["net", "scale", "toll"] (spArcs K)) (g_arcs_of : mg "arcs_of" = some (.ref fA)) (F_arcs_of : Fun K "arcs_of" "arcs_of" s_arcs_of fA fdA) (b_arcs_of : Binds K fdA ["net", "scale", "toll"] [])
    (G_free_lasso : FnOk P w K mg base CX0 k fL fdL ["arcs", "worker"] (spFreeL K)) (g_free_lasso : mg "free_lasso" = some (.ref fL)) (F_free_lasso : Fun K "free_lasso" "free_lasso" s_free_lasso fL fdL) (b_free_lasso : Binds K fdL ["arcs", "worker"] []) : FnOk P w K mg base CX0 (k + 1) f fd ["net"] (spFreeLs K) := by
  refine F.ok sc_free_lassos (fun vs H Q E h => ?_) (fun cdv A outer s0 H vs Q E hr h => ?_)
  · obtain ⟨v, fb, ws, qs, rfl, _⟩ := h
    rfl
  · obtain ⟨v, fb, ws, qs, rfl, hD, hne, hnd, wl, ql, q⟩ := h
    have hu := hu_of hr
    refine ⟨_, (pss_cons (ps_set (i := 1) sc_free_lassos.nd rfl (Or.inr rfl) (pe_call G_arcs_of hr (by rfl) g_arcs_of F_arcs_of.kp b_arcs_of .nil pass0 (pa_cons (pv 0) (pa_cons pe_int (pa_cons pe_int pa_nil))))) 
    (pss_cons (ps_set (i := 2) sc_free_lassos.nd rfl (Or.inr rfl) (pe_dcX (pe_dc (own := [("worker", 3)]) (g := gName 3) (tt := tYes) (by rfl) sc_free_lassos.nd (pi_seq (pe_ix ix_lt (pv 0) pe_int (fun _ _ => rfl))) (blkOk_by (own := [("worker", 3)]) (N := sc_free_lassos_N) (sc := defScope s_free_lassos) (by decide +kernel)) (fun _ _ _ _ _ => pg_name (i := 3) sc_free_lassos.nd rfl (Or.inl rfl)) (fun _ _ _ _ _ => pts_nil) (fun _ _ _ _ _ => (pv 3)) (fun _ _ _ _ _ => (pe_call G_free_lasso hr (by rfl) g_free_lasso F_free_lasso.kp b_free_lasso .nil pass0 (pa_cons (pv 1) (pa_cons (pv 3) pa_nil))))))) 
    (pss_one (ps_ret (pe_dcX (pe_dc (own := [("worker", 3)]) (g := gName 3) (by rfl) sc_free_lassos.nd (pi_seq (pe_ix ix_lt (pv 0) pe_int (fun _ _ => rfl))) (blkOk_by (own := [("worker", 3)]) (N := sc_free_lassos_N) (sc := defScope s_free_lassos) (by decide +kernel)) (fun _ _ _ _ _ => pg_name (i := 3) sc_free_lassos.nd rfl (Or.inl rfl)) (fun _ _ _ _ _ => (pts_one (pt_cmpR op_notN (pe_dget hu (pv 2) (pv 3) (fun _ _ => rfl)) pe_non (nomark _)))) (fun _ _ _ _ _ => (pv 3)) (fun _ _ _ _ _ => (pe_dget hu (pv 2) (pv 3) (fun _ _ => rfl))))))))), ?_⟩
    obtain ⟨a0, a1, a2, xq, rfl, N0⟩ := netAt hD
    have i0 : atI [V.ref a1, V.ref a2] 0 = some (.ref a1) := atI_nat (j := 0) rfl
    rw [show L2.start (["net", "arcs", "found", "worker"] : List Str) [.ref a0] = [some (.ref a0), none, none, none] from rfl]
    refine asg_of ?_
    refine ⟨_, rfl, .ref a0, fb, ws, qs, 1, 0, rfl, hD, hne, by omega, by decide, by decide, fun H1 la ys s1 hl0 hl1 d1 => ?_⟩
    dsimp only [List.set]
    have N1 := N0.same s1
    have hla : SqL K H1 la ys := sql_of hl1
    have hda : DpAll K H1 ys ((arcsF 1 0 qs).map Arc.d) := cutS_le.dpa d1
    have al : (arcsF 1 0 qs).length ≤ 1000 := by
      rw [arcs_len]
      omega
    generalize arcsF 1 0 qs = as at hda al q ⊢
    refine dc_of ?_
    refine iSeq_at (f := fb) (fun R' r => ⟨_, rfl, rIxF_at N1.h0 i0 r⟩) N1.h1 fun J w' D hD0 => ?_
    refine dc_it w' (fun i H' => ∃ m : List (Str × V), Same H1 H' ∧ H' D = some (.dK (kvM (fun x => x) m)) ∧ m.map (·.1) = ws.take i ∧ ∀ p ∈ m, (p.2 = .non ↔ lasB as p.1 = false)) ⟨[], .upd hD0, upd_same, rfl, fun p hp => absurd hp List.not_mem_nil⟩ (fun i H' _ p => ?_) (fun i x H2 H2' hi p y => ?_) (fun H4 p => ?_)
    · obtain ⟨m, e1, _⟩ := p
      exact e1.sqF N1.h1
    · obtain ⟨m, e1, e2, e3, e4⟩ := p
      obtain ⟨rfl, hx⟩ := y
      rw [List.getElem?_map] at hx
      cases hz : ws[i]? with
      | none =>
        rw [hz] at hx
        cases hx
      | some wi =>
        rw [hz] at hx
        cases hx
        refine ⟨rfl, ?_⟩
        dsimp only [tYes]
        refine iteT ?_
        refine ⟨_, rfl, _, rfl, _, rfl, la, wi, ys, as, rfl, e1.sqL hla, e1.dpa hda, al, fun H5 t n o s5 hE hL => ?_⟩
        have lm : m.length = (ws.take i).length := by
          rw [← e3, List.length_map]
        have ml : m.length ≤ 400 := by
          rw [lm, List.length_take]
          omega
        refine ⟨_, .inr wi, rfl, s5 _ _ e2, by rw [kvM_len]; exact szL (by omega), m ++ [(wi, t)], (e1.trans s5).mut hD0, ?_, ?_, ?_⟩
        · have hno : wi ∉ m.map (·.1) := fun z => by
            rw [e3] at z
            obtain ⟨k', hk1, hk2⟩ := List.mem_take_iff_getElem.mp z
            have := nd_ix hnd (x := wi) hz (by rw [List.getElem?_eq_getElem (show k' < ws.length by omega)]; exact congrArg some hk2)
            omega
          rw [upd_same, put_kvM (f := fun x => x)]
          unfold putM
          rw [lk_none hno]
          rfl
        · rw [List.map_append, e3, List.take_add_one, hz]
          rfl
        · intro p hp
          rcases List.mem_append.mp hp with hp | hp
          · exact e4 p hp
          · rw [List.mem_singleton.mp hp]
            show t = .non ↔ lasB as wi = false
            rw [lasB_of hE]
            exact las_non hL
    · obtain ⟨m, e1, e2, e3, e4⟩ := p
      rw [List.length_map, List.take_length] at e3
      dsimp only [gName, List.set]
      have kn : (m.map (·.1)).Nodup := by
        rw [e3]
        exact hnd
      have ml : m.length ≤ 400 := by
        have : (m.map (·.1)).length = ws.length := by rw [e3]
        rw [List.length_map] at this
        omega
      have N4 := N1.same e1
      refine dc_of ?_
      refine iSeq_at (f := fb) (fun R' r => ⟨_, rfl, rIxF_at N4.h0 i0 r⟩) N4.h1 fun J2 w2 D2 hD2 => ?_
      refine dc_it w2 (fun i H' => ∃ m2 : List (Str × V), Same H4 H' ∧ H' D2 = some (.dK (kvM (fun x => x) m2)) ∧ m2.map (·.1) = (ws.take i).filter (lasB as)) ⟨[], .upd hD2, upd_same, rfl⟩ (fun i H' _ p => ?_) (fun i x H2 H2' hi p y => ?_) (fun H5 p => ?_)
      · obtain ⟨m2, f1, _⟩ := p
        exact f1.sqF N4.h1
      · obtain ⟨m2, f1, f2, f3⟩ := p
        obtain ⟨rfl, hx⟩ := y
        rw [List.getElem?_map] at hx
        cases hz : ws[i]? with
        | none =>
          rw [hz] at hx
          cases hx
        | some wi =>
          rw [hz] at hx
          cases hx
          obtain ⟨p, hp, hp1⟩ : ∃ p ∈ m, p.1 = wi := by
            have : wi ∈ m.map (·.1) := by
              rw [e3]
              exact List.mem_of_getElem? hz
            obtain ⟨p, hp, e⟩ := List.mem_map.mp this
            exact ⟨p, hp, e⟩
          have lkm := lk_mem kn hp
          rw [hp1] at lkm
          have hD4 := f1 _ _ e2
          have dg : DGet H2' D (.str wi) (some p.2) := by
            have := DGet.k (k := .inr wi) hD4
            rw [val_kvM, lkm] at this
            exact this
          have iff0 := e4 p hp
          rw [hp1] at iff0
          refine ⟨rfl, ?_⟩
          refine ⟨_, rfl, _, rfl, D, _, rfl, dg, rfl, _, rfl, ?_⟩
          have tk : ws.take (i + 1) = ws.take i ++ [wi] := by
            rw [List.take_add_one, hz]
            rfl
          cases hb : lasB as wi with
          | false =>
            rw [decide_eq_true (iff0.mpr hb)]
            refine iteF ⟨m2, f1, f2, ?_⟩
            rw [tk, List.filter_append, List.filter_cons_of_neg (by rw [hb]; exact Bool.false_ne_true), List.filter_nil, List.append_nil]
            exact f3
          | true =>
            have hn : p.2 ≠ .non := fun z => by
              rw [iff0.mp z] at hb
              cases hb
            rw [decide_eq_false hn]
            refine iteT ?_
            refine ⟨_, rfl, _, rfl, _, rfl, D, _, rfl, dg, ?_⟩
            have l2 : m2.length ≤ 400 := by
              have : (m2.map (·.1)).length = ((ws.take i).filter (lasB as)).length := by rw [f3]
              rw [List.length_map] at this
              have h1 := List.length_filter_le (lasB as) (ws.take i)
              rw [List.length_take] at h1
              omega
            have hno : wi ∉ m2.map (·.1) := fun z => by
              rw [f3] at z
              have z := (List.mem_filter.mp z).1
              obtain ⟨k', hk1, hk2⟩ := List.mem_take_iff_getElem.mp z
              have := nd_ix hnd (x := wi) hz (by rw [List.getElem?_eq_getElem (show k' < ws.length by omega)]; exact congrArg some hk2)
              omega
            refine ⟨_, .inr wi, rfl, f2, by rw [kvM_len]; exact szL (by omega), m2 ++ [(wi, p.2)], f1.mut hD2, ?_, ?_⟩
            · rw [upd_same, put_kvM (f := fun x => x)]
              unfold putM
              rw [lk_none hno]
              rfl
            · rw [List.map_append, f3, tk, List.filter_append, List.filter_cons_of_pos hb]
              rfl
      · obtain ⟨m2, f1, f2, f3⟩ := p
        rw [List.length_map, List.take_length] at f3
        have sA := s1.trans e1
        exact q H5 D2 m2 (sA.trans f1) (sA.free hD2) f2 f3
end
end Jl

set_option Elab.async false
set_option linter.all false
set_option maxRecDepth 100000
set_option maxHeartbeats 1000000
set_option pp.maxSteps 300
namespace Jl
open PySem PySem.Spec PyProof.Rows L2
open Evl (sz_of sz_lt)
local macro_rules | `(tactic| walk_at "at") => `(tactic| first | exact box0 | exact box1 | exact box2)
local macro_rules | `(tactic| walk_at "sq") => `(tactic| first | (show SqL _ _ _ _; assumption) | (show SqT _ _ _ _; assumption) | (show _ = some _; assumption))
local macro_rules | `(tactic| walk_at "side") => `(tactic| first
  | (show (0 : Int) < _; decide)
  | (show (0 : Int) < _; omega)
  | exact ⟨by decide, by decide, by decide⟩
  | exact sz_of (Nat.le_of_ble_eq_true rfl)
  | exact rfl
  | exact Or.inl (by decide)
  | exact Or.inr (by decide)
  | exact Or.inr ⟨by omega, by omega⟩
  | exact Or.inl ⟨by omega, by omega⟩
  | exact ⟨by decide, by decide +kernel⟩)
local macro_rules | `(tactic| walk_at "ev1") => `(tactic| first
  | refine ⟨_, rfl, ?_⟩
  | refine ⟨_, _, rfl, rfl, ?_⟩
  | refine ⟨_, _, _, _, rfl, rfl, (by walk_at "sq"), (by walk_at "at"), ?_⟩
  | refine ⟨_, _, rfl, (by walk_at "sq"), ?_⟩
  | refine ⟨_, _, rfl, Or.inl (by walk_at "sq"), ?_⟩
  | refine ⟨_, _, rfl, Or.inr (by walk_at "sq"), ?_⟩
  | refine Or.inl ⟨_, rfl, ?_⟩
  | refine Or.inr ⟨_, rfl, ?_⟩
  | refine ⟨(by walk_at "side"), ?_⟩
  | refine ⟨.inl ⟨rfl, _, (by walk_at "sq")⟩, ?_⟩
  | refine ⟨_, _, rfl, ?_⟩)
local macro_rules | `(tactic| walk_at "nrm") => `(tactic| dsimp only [tNil, tCons, tC, tCB])
local macro_rules | `(tactic| walk_at "ev") => `(tactic| repeat (walk_at "ev1"))
abbrev sc_needs_to_N : List Str := ["net", "lassos", "worker"]
abbrev s_needs_to : Stmt := topS 26
theorem sc_needs_to : FnScope ["net", "lassos", "worker"] ["net", "lassos"] (defScope s_needs_to) := ⟨rfl, rfl, rfl, by decide +kernel, rfl, by decide +kernel, by decide +kernel⟩
section
variable {P : Program} {w : World} {K : PySem.W.Frag} {mg : Str → Option Value} {base : Heap}
def zeroL (l : List Str) : List (Str × Int) := l.map fun x => (x, 0)
def spNeeds (K : PySem.W.Frag) : Sp := fun vs H Q _ => ∃ (v : V) (fb : Bool) (ws : List Str) (qs : List QD) (fa : Addr) (f0 : List (Str × V)), vs = [v, .ref fa] ∧ Dp K H v (netD fb ws qs) ∧ (∀ q ∈ qs, q.st ≠ q.en) ∧ qs.length ≤ 400 ∧ H fa = some (.dK (kvM (fun x => x) f0)) ∧ (f0.map (·.1)).Nodup ∧ f0.length ≤ 400 ∧
  ∀ H' p S L n t, Same H H' → H p = none → LowEnd (arcsF 1 0 qs) n ⟨zeroL (f0.map (·.1)), [], true⟩ t → H' p = some (.tup [.ref S, .ref L]) → H' S = some (.dK (kvM V.int t.needs)) → Q (.ref p) H'
theorem ok_needs_to {f fA fL : Addr} {fd fdA fdL : FuncData} {k : Nat} (F : Fun K "needs_to" "needs_to" s_needs_to f fd)
    (G_arcs_of : FnOk P w K mg base CX0 k fA fdA ["net", "scale", "toll"] (spArcs K)) (g_arcs_of : mg "arcs_of" = some (.ref fA)) (F_arcs_of : Fun K "arcs_of" "arcs_of" s_arcs_of fA fdA) (b_arcs_of : Binds K fdA ["net", "scale", "toll"] [])
    (G_lowered : FnOk P w K mg base CX0 k fL fdL ["arcs", "first"] (spLowered K)) (g_lowered : mg "lowered" = some (.ref fL)) (F_lowered : Fun K "lowered" "lowered" s_lowered fL fdL) (b_lowered : Binds K fdL ["arcs", "first"] []) : FnOk P w K mg base CX0 (k + 1) f fd ["net", "lassos"] (spNeeds K) := by
  refine F.ok sc_needs_to (fun vs H Q E h => ?_) (fun cdv A outer s0 H0 vs Q E hr h => ?_)
  · obtain ⟨v, fb, ws, qs, fa, f0, rfl, _⟩ := h
    rfl
  · obtain ⟨v, fb, ws, qs, fa, f0, rfl, hD, hne, ql, hfa0, hnd, hf1, q⟩ := h
    refine ⟨_, (pss_one (ps_ret (pe_call G_lowered hr (by rfl) g_lowered F_lowered.kp b_lowered .nil pass0 (pa_cons (pe_call G_arcs_of hr (by rfl) g_arcs_of F_arcs_of.kp b_arcs_of .nil pass0 (pa_cons (pv 0) (pa_cons pe_int (pa_cons pe_int pa_nil)))) (pa_cons (pe_lock (pe_dcX (pe_dc (own := [("worker", 2)]) (g := gName 2) (tt := tYes) (by rfl) sc_needs_to.nd (pi_keys (pv 1)) (blkOk_by (own := [("worker", 2)]) (N := sc_needs_to_N) (sc := defScope s_needs_to) (by decide +kernel)) (fun _ _ _ _ _ => pg_name (i := 2) sc_needs_to.nd rfl (Or.inl rfl)) (fun _ _ _ _ _ => pts_nil) (fun _ _ _ _ _ => (pv 2)) (fun _ _ _ _ _ => pe_int)))) pa_nil))))), ?_⟩
    refine ⟨_, rfl, v, fb, ws, qs, 1, 0, rfl, hD, hne, by omega, by decide, by decide, fun H la ys s1A hl0 hl1 d1 => ?_⟩
    have hfa := s1A _ _ hfa0
    have hda : DpAll K H ys ((arcsF 1 0 qs).map Arc.d) := cutS_le.dpa d1
    have al : (arcsF 1 0 qs).length ≤ 1000 := by
      rw [arcs_len]
      omega
    generalize arcsF 1 0 qs = as at hda al q ⊢
    refine ⟨fa, .dK (kvM (fun x => x) f0), hfa, trivial, fun od => ?_⟩
    have hF3 : (upd H fa (.frz od (.dK (kvM (fun x => x) f0)))) fa = some (.frz od (.dK (kvM (fun x => x) f0))) := upd_same
    have back : ∀ H4, Same (upd H fa (.frz od (.dK (kvM (fun x => x) f0)))) H4 → Same H (upd H4 fa (.dK (kvM (fun x => x) f0))) := fun H4 s4 a o ha => by
      by_cases ea : a = fa
      · rw [ea, upd_same, ← hfa, ← ea]
        exact ha
      · rw [upd_ne ea]
        refine s4 _ _ ?_
        rw [upd_ne ea]
        exact ha
    have free : ∀ a, (upd H fa (.frz od (.dK (kvM (fun x => x) f0)))) a = none → H a = none := fun a ha => by
      by_cases ea : a = fa
      · rw [ea, upd_same] at ha
        cases ha
      · rw [upd_ne ea] at ha
        exact ha
    generalize upd H fa (.frz od (.dK (kvM (fun x => x) f0))) = H3 at hF3 back free ⊢
    refine dc_of ?_
    refine ⟨_, rfl, fa, od, rfl, .inl ⟨kvM (fun x => x) f0, hF3, fun D2 hD2 => ?_⟩⟩
    refine dc_it walk_keys (fun i H' => Same H3 H' ∧ H' D2 = some (.dK (kvM V.int (zeroL ((f0.take i).map (·.1)))))) ⟨.upd hD2, upd_same⟩ (fun i H' _ p => p.1 _ _ hF3) (fun i x H1 H1' hi p y => ?_) (fun H4 p => ?_)
    · obtain ⟨s1, h1⟩ := p
      obtain ⟨rfl, k1, v1, hk, rfl⟩ := y
      unfold kvM at hk
      rw [List.getElem?_map] at hk
      cases hz : f0[i]? with
      | none =>
        rw [hz] at hk
        cases hk
      | some z =>
        rw [hz] at hk
        cases hk
        have ht : f0.take (i + 1) = f0.take i ++ [z] := by rw [List.take_add_one, hz]; rfl
        have hno : z.1 ∉ (f0.take i).map (·.1) := fun hz2 => by
          rw [List.map_take] at hz2
          obtain ⟨k, hk1, hk2⟩ := List.mem_take_iff_getElem.mp hz2
          rw [List.length_map] at hk1
          have := nd_ix hnd (x := z.1) (by rw [List.getElem?_map, hz]; rfl) (by rw [List.getElem?_eq_getElem (show k < (f0.map (·.1)).length by rw [List.length_map]; omega)]; exact congrArg some hk2)
          omega
        have lti : i < f0.length := by
          rw [kvM_len] at hi
          exact hi
        have zk : (zeroL ((f0.take i).map (·.1))).map (·.1) = (f0.take i).map (·.1) := by
          unfold zeroL
          rw [List.map_map]
          exact List.map_id' _
        refine ⟨rfl, ?_⟩
        dsimp only [tYes]
        refine iteT ?_
        refine ⟨_, rfl, ?_⟩
        refine ⟨_, .inr z.1, rfl, h1, by rw [kvM_len]; unfold zeroL; rw [List.length_map, List.length_map, List.length_take]; exact szL (by omega), s1.mut hD2, ?_⟩
        rw [upd_same, put_kvM (f := V.int) (v := 0), ht]
        unfold putM
        rw [lk_none (by rw [zk]; exact hno), if_neg (by decide)]
        unfold zeroL
        rw [List.map_append, List.map_append]
        rfl
    · obtain ⟨s4, h4⟩ := p
      rw [kvM_len, List.take_length] at h4
      have nD2 : D2 ≠ fa := fun z => by
        rw [z, hF3] at hD2
        cases hD2
      refine ⟨s4 _ _ hF3, ?_⟩
      have sa := back _ s4
      have hS0 := free _ hD2
      have hS1 : (upd H4 fa (.dK (kvM (fun x => x) f0))) D2 = some (.dK (kvM V.int (zeroL (f0.map (·.1))))) := by
        rw [upd_ne nD2]
        exact h4
      clear s4 h4
      generalize upd H4 fa (.dK (kvM (fun x => x) f0)) = H5 at sa hS1 ⊢
      clear hD2 nD2 back free hF3
      have zk : (zeroL (f0.map (·.1))).map (·.1) = f0.map (·.1) := by
        unfold zeroL
        rw [List.map_map]
        exact List.map_id' _
      exact ⟨la, D2, ys, as, zeroL (f0.map (·.1)), rfl, sa.sqL (sql_of hl1), sa.dpa hda, hS1, by rw [zk]; exact hnd, by unfold zeroL; rw [List.length_map, List.length_map]; omega, al, fun H' p S L n t s hp hS hL hE h1 h2 h3 => q H' p S L n t ((s1A.trans sa).trans s) ((s1A.trans sa).free hp) hE h1 h2⟩
end
end Jl

set_option Elab.async false
set_option linter.all false
set_option maxRecDepth 100000
set_option maxHeartbeats 1000000
set_option pp.maxSteps 300
namespace Jl
open PySem PySem.Spec PyProof.Rows L2
open Evl (sz_of sz_lt)
local macro_rules | `(tactic| walk_at "at") => `(tactic| first | exact box0 | exact box1 | exact box2)
local macro_rules | `(tactic| walk_at "sq") => `(tactic| first | (show SqL _ _ _ _; assumption) | (show SqT _ _ _ _; assumption) | (show _ = some _; assumption))
local macro_rules | `(tactic| walk_at "side") => `(tactic| first
  | (show (0 : Int) < _; decide)
  | (show (0 : Int) < _; omega)
  | exact ⟨by decide, by decide, by decide⟩
  | exact sz_of (Nat.le_of_ble_eq_true rfl)
  | exact rfl
  | exact Or.inl (by decide)
  | exact Or.inr (by decide)
  | exact Or.inr ⟨by omega, by omega⟩
  | exact Or.inl ⟨by omega, by omega⟩
  | exact ⟨by decide, by decide +kernel⟩)
local macro_rules | `(tactic| walk_at "ev1") => `(tactic| first
  | refine ⟨_, rfl, ?_⟩
  | refine ⟨_, _, rfl, rfl, ?_⟩
  | refine ⟨_, _, _, _, rfl, rfl, (by walk_at "sq"), (by walk_at "at"), ?_⟩
  | refine ⟨_, _, rfl, (by walk_at "sq"), ?_⟩
  | refine ⟨_, _, rfl, Or.inl (by walk_at "sq"), ?_⟩
  | refine ⟨_, _, rfl, Or.inr (by walk_at "sq"), ?_⟩
  | refine Or.inl ⟨_, rfl, ?_⟩
  | refine Or.inr ⟨_, rfl, ?_⟩
  | refine ⟨(by walk_at "side"), ?_⟩
  | refine ⟨.inl ⟨rfl, _, (by walk_at "sq")⟩, ?_⟩
  | refine ⟨_, _, rfl, ?_⟩)
local macro_rules | `(tactic| walk_at "nrm") => `(tactic| dsimp only [tNil, tCons, tC, tCB])
local macro_rules | `(tactic| walk_at "ev") => `(tactic| repeat (walk_at "ev1"))
abbrev sc_earliest_N : List Str := ["net", "needs", "_", "worker"]
abbrev s_earliest : Stmt := topS 27
theorem sc_earliest : FnScope ["net", "needs", "_", "worker"] ["net"] (defScope s_earliest) := ⟨rfl, rfl, rfl, by decide +kernel, rfl, by decide +kernel, by decide +kernel⟩
section
variable {P : Program} {w : World} {K : PySem.W.Frag} {mg : Str → Option Value} {base : Heap}
def optD : Option Int → PyData
  | none => .none
  | some i => .int i
def earlyD (ws : List Str) (t : LB) : PyData := .tuple (ws.map fun x => optD (lk t.needs x))
def spEarliest (K : PySem.W.Frag) : Sp := fun vs H Q _ => ∃ (v : V) (fb : Bool) (ws : List Str) (qs : List QD), vs = [v] ∧ Dp K H v (netD fb ws qs) ∧ (∀ q ∈ qs, q.st ≠ q.en) ∧ ws.Nodup ∧ ws.length ≤ 400 ∧ qs.length ≤ 400 ∧
  ∀ H' u n t, Same H H' → LowEnd (arcsF 1 0 qs) n ⟨zeroL (ws.filter (lasB (arcsF 1 0 qs))), [], true⟩ t → Dp K H' u (earlyD ws t) → Q u H'
theorem ok_earliest {f fL fN : Addr} {fd fdL fdN : FuncData} {k : Nat} (F : Fun K "earliest" "earliest" s_earliest f fd)
    (G_free_lassos : FnOk P w K mg base CX0 k fL fdL ["net"] (spFreeLs K)) (g_free_lassos : mg "free_lassos" = some (.ref fL)) (F_free_lassos : Fun K "free_lassos" "free_lassos" s_free_lassos fL fdL) (b_free_lassos : Binds K fdL ["net"] [])
    (G_needs_to : FnOk P w K mg base CX0 k fN fdN ["net", "lassos"] (spNeeds K)) (g_needs_to : mg "needs_to" = some (.ref fN)) (F_needs_to : Fun K "needs_to" "needs_to" s_needs_to fN fdN) (b_needs_to : Binds K fdN ["net", "lassos"] [])
    (m_tuple : mg "tuple" = none) : FnOk P w K mg base CX0 (k + 1) f fd ["net"] (spEarliest K) := by
  refine F.ok sc_earliest (fun vs H Q E h => ?_) (fun cdv A outer s0 H vs Q E hr h => ?_)
  · obtain ⟨v, fb, ws, qs, rfl, _⟩ := h
    rfl
  · obtain ⟨v, fb, ws, qs, rfl, hD, hne, hnd, wl, ql, q⟩ := h
    have hu := hu_of hr
    refine ⟨_, (pss_cons (ps_asg (pe_call G_needs_to hr (by rfl) g_needs_to F_needs_to.kp b_needs_to .nil pass0 (pa_cons (pv 0) (pa_cons (pe_call G_free_lassos hr (by rfl) g_free_lassos F_free_lassos.kp b_free_lassos .nil pass0 (pa_cons (pv 0) pa_nil)) pa_nil))) (pg_tup rfl (pgs_cons (pg_name (i := 1) sc_earliest.nd rfl (Or.inr rfl)) (pgs_cons (pg_name (i := 2) sc_earliest.nd rfl (Or.inl rfl)) pgs_nil)))) 
    (pss_one (ps_ret (pe_callTy call_tuple_of (by rfl) m_tuple (by decide +kernel) (pa_cons (pe_lcX (pe_lc (own := [("worker", 3)]) (g := gName 3) (tt := tYes) (by rfl) sc_earliest.nd (pi_seq (pe_ix ix_lt (pv 0) pe_int (fun _ _ => rfl))) (blkOk_by (own := [("worker", 3)]) (N := sc_earliest_N) (sc := defScope s_earliest) (by decide +kernel)) (fun _ _ _ _ _ => pg_name (i := 3) sc_earliest.nd rfl (Or.inl rfl)) (fun _ _ _ _ _ => pts_nil) (fun _ _ _ _ _ => (pe_dget1 hu (pv 1) (pv 3) ⟨by rfl, by rfl, by rfl, by rfl⟩)))) pa_nil))))), ?_⟩
    obtain ⟨a0, a1, a2, xq, rfl, N0⟩ := netAt hD
    have i0 : atI [V.ref a1, V.ref a2] 0 = some (.ref a1) := atI_nat (j := 0) rfl
    rw [show L2.start (["net", "needs", "_", "worker"] : List Str) [.ref a0] = [some (.ref a0), none, none, none] from rfl]
    refine ⟨_, rfl, _, rfl, .ref a0, fb, ws, qs, rfl, hD, hne, hnd, wl, ql, fun H1 M m s1 hM0 hM1 hk => ?_⟩
    have mlen : m.length ≤ 400 := by
      have : (m.map (·.1)).length = (ws.filter (lasB (arcsF 1 0 qs))).length := by rw [hk]
      rw [List.length_map] at this
      have := List.length_filter_le (lasB (arcsF 1 0 qs)) ws
      omega
    refine ⟨.ref a0, fb, ws, qs, M, m, rfl, s1.dp hD, hne, ql, hM1, by rw [hk]; exact hnd.sublist List.filter_sublist, mlen, fun H2 p S L n t s2 hp hE h1 h2 => ?_⟩
    rw [hk] at hE
    have t2 := s1.trans s2
    refine ⟨p, _, rfl, sqt_of h1, rfl, _, _, rfl, _, _, rfl, rfl, ?_⟩
    dsimp only [List.set]
    have N2 := N0.same t2
    refine lcs (K := K) (fb := fb) ws (fun x z => x = .str z) (fun H' u z => Dp K H' u (optD (lk t.needs z))) (fun _ => true) (fun R' r => ⟨_, rfl, rIxF_at N2.h0 i0 r⟩) N2.h1 (fun i x z g1 g2 => ?_) (by rw [List.length_map]) (by omega) (fun H' H'' u z e h => e.dp h) (fun x => rfl) (fun x z H3 hz e3 hx Q' q' => q' H3 fun _ _ e => e) (fun x z H3 T hz _ e1 e2 tr hx hT Q' q' => ?_) (fun D ys H3 s3 hD0 hD1 hA => ?_)
    · rw [List.getElem?_map, g2] at g1
      cases g1
      rfl
    · subst hx
      have hS3 := e1 _ _ h2
      have dg : DGet H3 S (.str z) ((lk t.needs z).map V.int) := by
        have := DGet.k (k := .inr z) hS3
        rw [val_kvM] at this
        exact this
      refine ⟨_, rfl, S, rfl, .inl ⟨_, .inl hS3⟩, _, rfl, _, dg, ?_⟩
      cases hz2 : lk t.needs z with
      | none => exact q' H3 _ (fun _ _ e => e) (by rw [hz2]; exact .non)
      | some i => exact q' H3 _ (fun _ _ e => e) (by rw [hz2]; exact .int i)
    · rw [List.filter_eq_self.mpr fun _ _ => rfl] at hA
      have hd := a2_dpa (h := fun z => optD (lk t.needs z)) hA
      exact ⟨D, _, rfl, .inl ⟨sql_of hD1, fun p2 hp2 => q _ (.ref p2) n t ((t2.trans s3).trans (.upd hp2)) hE (.tup (sqt_of upd_same) ((Same.upd hp2).dpa (cutS_le.dpa hd)))⟩⟩
end
end Jl

set_option Elab.async false
set_option linter.all false
set_option maxRecDepth 100000
set_option maxHeartbeats 1000000
set_option pp.maxSteps 300
namespace Jl
open PySem PySem.Spec PyProof.Rows L2
open Evl (sz_of sz_lt)
local macro_rules | `(tactic| walk_at "at") => `(tactic| first | exact box0 | exact box1 | exact box2)
local macro_rules | `(tactic| walk_at "sq") => `(tactic| first | (show SqL _ _ _ _; assumption) | (show SqT _ _ _ _; assumption) | (show _ = some _; assumption))
local macro_rules | `(tactic| walk_at "side") => `(tactic| first
  | (show (0 : Int) < _; decide)
  | (show (0 : Int) < _; omega)
  | exact ⟨by decide, by decide, by decide⟩
  | exact sz_of (Nat.le_of_ble_eq_true rfl)
  | exact rfl
  | exact Or.inl (by decide)
  | exact Or.inr (by decide)
  | exact Or.inr ⟨by omega, by omega⟩
  | exact Or.inl ⟨by omega, by omega⟩
  | exact ⟨by decide, by decide +kernel⟩)
local macro_rules | `(tactic| walk_at "ev1") => `(tactic| first
  | refine ⟨_, rfl, ?_⟩
  | refine ⟨_, _, rfl, rfl, ?_⟩
  | refine ⟨_, _, _, _, rfl, rfl, (by walk_at "sq"), (by walk_at "at"), ?_⟩
  | refine ⟨_, _, rfl, (by walk_at "sq"), ?_⟩
  | refine ⟨_, _, rfl, Or.inl (by walk_at "sq"), ?_⟩
  | refine ⟨_, _, rfl, Or.inr (by walk_at "sq"), ?_⟩
  | refine Or.inl ⟨_, rfl, ?_⟩
  | refine Or.inr ⟨_, rfl, ?_⟩
  | refine ⟨(by walk_at "side"), ?_⟩
  | refine ⟨.inl ⟨rfl, _, (by walk_at "sq")⟩, ?_⟩
  | refine ⟨_, _, rfl, ?_⟩)
local macro_rules | `(tactic| walk_at "nrm") => `(tactic| dsimp only [tNil, tCons, tC, tCB])
local macro_rules | `(tactic| walk_at "ev") => `(tactic| repeat (walk_at "ev1"))
/-! ### all costs so many times as great -/
def mapV {α β : Type} (f : α → β) (m : List (Str × α)) : List (Str × β) := m.map fun p => (p.1, f p.2)
theorem lk_mapV {α β : Type} {f : α → β} {k : Str} : ∀ {m : List (Str × α)}, lk (mapV f m) k = (lk m k).map f
  | [] => rfl
  | p :: m => by
    show (if p.1 = k then some (f p.2) else lk (mapV f m) k) = (if p.1 = k then some p.2 else lk m k).map f
    by_cases e : p.1 = k
    · rw [if_pos e, if_pos e]
      rfl
    · rw [if_neg e, if_neg e]
      exact lk_mapV
theorem put_mapV {α β : Type} {f : α → β} {k : Str} {v : α} {m : List (Str × α)} : mapV f (putM m k v) = putM (mapV f m) k (f v) := by
  unfold putM
  rw [lk_mapV, Option.isSome_map]
  by_cases h : (lk m k).isSome = true
  · rw [if_pos h, if_pos h]
    unfold mapV
    rw [List.map_map, List.map_map]
    apply List.map_congr_left
    intro p _
    show ((if p.1 = k then (p.1, v) else p).1, f (if p.1 = k then (p.1, v) else p).2) = (if p.1 = k then (p.1, f v) else (p.1, f p.2))
    by_cases e2 : p.1 = k
    · rw [if_pos e2, if_pos e2]
    · rw [if_neg e2, if_neg e2]
  · rw [if_neg h, if_neg h]
    unfold mapV
    rw [List.map_append]
    rfl
def scA (m : Int) (a : Arc) : Arc := { a with wt := m * a.wt }
def scE (m : Int) (e : Ent) : Ent := (e.1.map (scA m), mapV (fun x => m * x) e.2)
def scF (m : Int) (s : FB) : FB := ⟨mapV (scE m) s.best, s.ag⟩
def scR (m : Int) (x : List Arc × Arc) : List Arc × Arc := (x.1.map (scA m), scA m x.2)
def scS (m : Int) : FB ⊕ (List Arc × Arc) → FB ⊕ (List Arc × Arc)
  | .inl s => .inl (scF m s)
  | .inr x => .inr (scR m x)
theorem le_sc {m x y : Int} (hm : 0 < m) : m * x ≤ m * y ↔ x ≤ y := by
  constructor
  · intro h
    exact Int.le_of_mul_le_mul_left h hm
  · intro h
    exact Int.mul_le_mul_of_nonneg_left h (Int.le_of_lt hm)
theorem lt_sc {m x y : Int} (hm : 0 < m) : m * x < m * y ↔ x < y := by
  rw [← Int.not_le, ← Int.not_le, le_sc hm]
theorem val_sc {m : Int} {e : Ent} {u : Str} : valE (scE m e) u = m * valE e u := by
  unfold valE scE
  dsimp only
  rw [lk_mapV]
  cases lk e.2 u with
  | none => exact (Int.mul_zero m).symm
  | some x => rfl
theorem step_sc {m : Int} (hm : 0 < m) {a : Arc} {s : FB} : flStep (scA m a) (scF m s) = scS m (flStep a s) := by
  unfold flStep
  rw [show lk (scF m s).best (scA m a).fr = (lk s.best a.fr).map (scE m) from lk_mapV]
  cases he : lk s.best a.fr with
  | none => rfl
  | some e =>
    dsimp only [Option.map_some]
    have r0 : valE (scE m e) (scA m a).fr - (scA m a).wt = m * (valE e a.fr - a.wt) := by
      rw [show (scA m a).fr = a.fr from rfl, val_sc, show (scA m a).wt = m * a.wt from rfl, Int.mul_sub]
    rw [r0]
    generalize valE e a.fr - a.wt = r
    have h1 : hitF (scE m e) (scA m a) (m * r) = hitF e a r := by
      unfold hitF
      rw [show lk (scE m e).2 (scA m a).to = (lk e.2 a.to).map (fun x => m * x) from lk_mapV]
      cases lk e.2 a.to with
      | none => rfl
      | some y => exact decide_eq_decide.mpr (le_sc hm)
    have h2 : moreF (scF m s) (scA m a) (m * r) = moreF s a r := by
      unfold moreF
      rw [show lk (scF m s).best (scA m a).to = (lk s.best a.to).map (scE m) from lk_mapV]
      cases lk s.best a.to with
      | none => rfl
      | some f =>
        dsimp only [Option.map_some]
        rw [show (scA m a).to = a.to from rfl, val_sc]
        exact decide_eq_decide.mpr (lt_sc hm)
    have h3 : decide (m * r ≥ 0) = decide (r ≥ 0) := decide_eq_decide.mpr (by
      have := le_sc (x := 0) (y := r) hm
      rw [Int.mul_zero] at this
      exact this)
    rw [h1, h2, h3]
    by_cases c1 : hitF e a r = true
    · rw [if_pos c1, if_pos c1]
      rfl
    · rw [if_neg c1, if_neg c1]
      by_cases c2 : decide (r ≥ 0) = true ∧ moreF s a r = true
      · rw [if_pos c2, if_pos c2]
        show Sum.inl _ = Sum.inl _
        congr 1
        unfold scF
        dsimp only
        rw [put_mapV]
        congr 2
        unfold scE
        dsimp only
        rw [List.map_append, put_mapV]
        rfl
      · rw [if_neg c2, if_neg c2]
        rfl
theorem flR_sc {m : Int} (hm : 0 < m) {as : List Arc} {s : FB} : ∀ n, flR (as.map (scA m)) (scF m s) n = scS m (flR as s n)
  | 0 => rfl
  | n + 1 => by
    rw [flR_next, flR_next, flR_sc hm n]
    cases flR as s n with
    | inr x => rfl
    | inl r =>
      show flA (as.map (scA m)) (.inl (scF m r)) n = scS m (flA as (.inl r) n)
      unfold flA
      dsimp only
      rw [List.getElem?_map]
      cases as[n]? with
      | none => rfl
      | some a => exact step_sc hm
theorem flEnd_sc {m : Int} (hm : 0 < m) {as : List Arc} {n : Nat} {s : FB} {o : Option (List Arc × Arc)} (h : FlEnd as n s o) : FlEnd (as.map (scA m)) n (scF m s) (o.map (scR m)) := by
  have ll : (as.map (scA m)).length = as.length := List.length_map ..
  induction h with
  | @stop s r h1 h2 =>
    refine .stop (r := scF m r) ?_ h2
    rw [ll, flR_sc hm, h1]
    rfl
  | @found s x h1 =>
    refine .found ?_
    rw [ll, flR_sc hm, h1]
    rfl
  | @go n s r o h1 h2 h3 ih =>
    refine .go (r := scF m r) ?_ h2 ih
    rw [ll, flR_sc hm, h1]
    rfl
theorem las_sc {m : Int} (hm : 0 < m) {as : List Arc} {w : Str} : lasB (as.map (scA m)) w = lasB as w := by
  have hU : ∀ a ∈ as, a.to ∈ w :: as.map Arc.to := fun a ha => List.mem_cons_of_mem _ (List.mem_map_of_mem ha)
  obtain ⟨n, o, h⟩ := fl_ends hU _ _ _ (start_inv (as := as) (w := w)) rfl rfl
  have h2 := flEnd_sc hm h
  have e : scF m ⟨[(w, ([], [(w, 0)]))], true⟩ = startB w := by
    show (⟨[(w, ([], [(w, m * 0)]))], true⟩ : FB) = startB w
    rw [Int.mul_zero]
    rfl
  rw [e] at h2
  rw [lasB_of h2, lasB_of (show FlEnd as n (startB w) o from h), Option.isSome_map]
def scL (m : Int) (s : LB) : LB := ⟨mapV (fun x => m * x) s.needs, s.cho, s.ag⟩
theorem lowA_sc {m : Int} (hm : 0 < m) {as : List Arc} {s : LB} {i : Nat} : lowA (as.map (scA m)) (scL m s) i = scL m (lowA as s i) := by
  unfold lowA
  rw [List.getElem?_map]
  cases as[i]? with
  | none => rfl
  | some a =>
    dsimp only [Option.map_some]
    rw [show lk (scL m s).needs (scA m a).to = (lk s.needs a.to).map (fun x => m * x) from lk_mapV]
    cases lk s.needs a.to with
    | none => rfl
    | some x =>
      dsimp only [Option.map_some]
      have e0 : lowNum (scA m a) (m * x) = m * lowNum a x := by
        unfold lowNum
        rw [show m * x + (scA m a).wt = m * (x + a.wt) by rw [show (scA m a).wt = m * a.wt from rfl, Int.mul_add]]
        by_cases h : x + a.wt > 0
        · rw [if_pos h, if_pos (by have := (lt_sc (x := 0) (y := x + a.wt) hm).mpr h; rw [Int.mul_zero] at this; exact this)]
        · rw [if_neg h, if_neg (fun z => h (by have z : m * 0 < m * (x + a.wt) := by rw [Int.mul_zero]; exact z
                                               exact (lt_sc hm).mp z)), Int.mul_zero]
      rw [e0]
      have e1 : lessN (scL m s) (scA m a) (m * lowNum a x) = lessN s a (lowNum a x) := by
        unfold lessN
        rw [show lk (scL m s).needs (scA m a).fr = (lk s.needs a.fr).map (fun x => m * x) from lk_mapV]
        cases lk s.needs a.fr with
        | none => rfl
        | some y => exact decide_eq_decide.mpr (lt_sc hm)
      rw [e1]
      by_cases c : lessN s a (lowNum a x) = true
      · rw [if_pos c, if_pos c]
        unfold scL
        dsimp only
        rw [put_mapV]
        rfl
      · rw [if_neg c, if_neg c]
theorem lowR_sc {m : Int} (hm : 0 < m) {as : List Arc} {s : LB} : ∀ n, lowR (as.map (scA m)) (scL m s) n = scL m (lowR as s n)
  | 0 => rfl
  | n + 1 => by rw [lowR_next, lowR_next, lowR_sc hm n, lowA_sc hm]
theorem lowEnd_sc {m : Int} (hm : 0 < m) {as : List Arc} {n : Nat} {s t : LB} (h : LowEnd as n s t) : LowEnd (as.map (scA m)) n (scL m s) (scL m t) := by
  have ll : (as.map (scA m)).length = as.length := List.length_map ..
  induction h with
  | @stop s h1 =>
    have e := lowR_sc hm (as := as) (s := s) as.length
    rw [← e, ← ll]
    exact .stop (by rw [ll, e]; exact h1)
  | @go n s t h1 h2 ih =>
    have e := lowR_sc hm (as := as) (s := s) as.length
    exact .go (by rw [ll, e]; exact h1) (by rw [ll, e]; exact ih)
theorem LowEnd.det {as : List Arc} {n n' : Nat} {s t t' : LB} (h : LowEnd as n s t) (h' : LowEnd as n' s t') : t = t' := by
  induction h generalizing n' with
  | stop h1 =>
    cases h' with
    | stop h3 => rfl
    | go h3 h4 => rw [h1] at h3; cases h3
  | go h1 h2 ih =>
    cases h' with
    | stop h3 => rw [h1] at h3; cases h3
    | go h3 h4 => exact ih h4
/-- the earliest numbers of the greater net -/
theorem early_sc {m : Int} (hm : 0 < m) {as : List Arc} {ws : List Str} {n n' : Nat} {t t' : LB} (h : LowEnd as n ⟨zeroL (ws.filter (lasB as)), [], true⟩ t) (h' : LowEnd (as.map (scA m)) n' ⟨zeroL (ws.filter (lasB (as.map (scA m)))), [], true⟩ t') : earlyD ws t' = .tuple (ws.map fun x => optD ((lk t.needs x).map fun y => m * y)) := by
  have e1 : ws.filter (lasB (as.map (scA m))) = ws.filter (lasB as) := List.filter_congr fun x _ => las_sc hm
  rw [e1] at h'
  have h2 := lowEnd_sc hm h
  have e2 : scL m ⟨zeroL (ws.filter (lasB as)), [], true⟩ = ⟨zeroL (ws.filter (lasB as)), [], true⟩ := by
    unfold scL mapV zeroL
    dsimp only
    rw [List.map_map]
    congr 1
    apply List.map_congr_left
    intro x _
    show (x, m * 0) = (x, 0)
    rw [Int.mul_zero]
  rw [e2] at h2
  rw [h'.det h2]
  unfold earlyD
  congr 1
  apply List.map_congr_left
  intro x _
  show optD (lk (mapV (fun x => m * x) t.needs) x) = _
  rw [lk_mapV]
end Jl

set_option Elab.async false
set_option linter.all false
set_option maxRecDepth 100000
set_option maxHeartbeats 1000000
set_option pp.maxSteps 300
namespace Jl
open PySem PySem.Spec PyProof.Rows L2
open Evl (sz_of sz_lt)
local macro_rules | `(tactic| walk_at "at") => `(tactic| first | exact box0 | exact box1 | exact box2)
local macro_rules | `(tactic| walk_at "sq") => `(tactic| first | (show SqL _ _ _ _; assumption) | (show SqT _ _ _ _; assumption) | (show _ = some _; assumption))
local macro_rules | `(tactic| walk_at "side") => `(tactic| first
  | (show (0 : Int) < _; decide)
  | (show (0 : Int) < _; omega)
  | exact ⟨by decide, by decide, by decide⟩
  | exact sz_of (Nat.le_of_ble_eq_true rfl)
  | exact rfl
  | exact Or.inl (by decide)
  | exact Or.inr (by decide)
  | exact Or.inr ⟨by omega, by omega⟩
  | exact Or.inl ⟨by omega, by omega⟩
  | exact ⟨by decide, by decide +kernel⟩)
local macro_rules | `(tactic| walk_at "ev1") => `(tactic| first
  | refine ⟨_, rfl, ?_⟩
  | refine ⟨_, _, rfl, rfl, ?_⟩
  | refine ⟨_, _, _, _, rfl, rfl, (by walk_at "sq"), (by walk_at "at"), ?_⟩
  | refine ⟨_, _, rfl, (by walk_at "sq"), ?_⟩
  | refine ⟨_, _, rfl, Or.inl (by walk_at "sq"), ?_⟩
  | refine ⟨_, _, rfl, Or.inr (by walk_at "sq"), ?_⟩
  | refine Or.inl ⟨_, rfl, ?_⟩
  | refine Or.inr ⟨_, rfl, ?_⟩
  | refine ⟨(by walk_at "side"), ?_⟩
  | refine ⟨.inl ⟨rfl, _, (by walk_at "sq")⟩, ?_⟩
  | refine ⟨_, _, rfl, ?_⟩)
local macro_rules | `(tactic| walk_at "nrm") => `(tactic| dsimp only [tNil, tCons, tC, tCB])
local macro_rules | `(tactic| walk_at "ev") => `(tactic| repeat (walk_at "ev1"))
/-! ### how great the lowered numbers get -/
structure LBd (as : List Arc) (U : List Str) (s : LB) : Prop where
  ky : Kys U s.needs
  bd : ∀ x y, lk s.needs x = some y → 0 ≤ y ∧ y ≤ ((s.needs.length * boundM as : Nat) : Int)
theorem putM_len2 {α : Type} {m : List (Str × α)} {k : Str} {v : α} (h : (lk m k).isSome = true) : (putM m k v).length = m.length := by
  unfold putM
  rw [if_pos h, List.length_map]
theorem bound_mem2 {as : List Arc} {a : Arc} (h : a ∈ as) : a.wt ≤ (boundM as : Nat) := by
  have : a.wt.natAbs ≤ boundM as := le_sum_mem (List.mem_map.mpr ⟨a, h, rfl⟩)
  omega
theorem lowA_bd {as : List Arc} {U : List Str} {s : LB} {i : Nat} (hU : ∀ a ∈ as, a.fr ∈ U) (h : LBd as U s) : LBd as U (lowA as s i) := by
  cases ha : as[i]? with
  | none =>
    unfold lowA
    rw [ha]
    exact h
  | some a =>
    have hm := List.mem_of_getElem? ha
    cases hx : lk s.needs a.to with
    | none => rw [lowA_none ha hx]; exact h
    | some x =>
      cases hl : lessN s a (lowNum a x) with
      | false => rw [lowA_no ha hx hl]; exact h
      | true =>
        rw [lowA_yes ha hx hl]
        refine ⟨h.ky.put (hU a hm), fun z y hz => ?_⟩
        have hz : lk (putM s.needs a.fr (lowNum a x)) z = some y := hz
        show 0 ≤ y ∧ y ≤ (((putM s.needs a.fr (lowNum a x)).length * boundM as : Nat) : Int)
        obtain ⟨b1, b2⟩ := h.bd _ _ hx
        have b3 := bound_mem2 hm
        have n0 : 0 ≤ lowNum a x := by
          unfold lowNum
          split <;> omega
        have n1 : lowNum a x ≤ (((s.needs.length + 1) * boundM as : Nat) : Int) := by
          unfold lowNum
          rw [Nat.add_mul, Nat.one_mul]
          split <;> omega
        rw [lk_putL] at hz
        cases hf : lk s.needs a.fr with
        | none =>
          rw [putM_len1 hf]
          by_cases e : a.fr = z
          · rw [if_pos e] at hz
            cases hz
            exact ⟨n0, n1⟩
          · rw [if_neg e] at hz
            obtain ⟨c1, c2⟩ := h.bd _ _ hz
            rw [Nat.add_mul, Nat.one_mul]
            exact ⟨c1, by omega⟩
        | some w =>
          rw [putM_len2 (by rw [hf]; rfl)]
          by_cases e : a.fr = z
          · rw [if_pos e] at hz
            cases hz
            unfold lessN at hl
            rw [hf] at hl
            have hl : lowNum a x < w := of_decide_eq_true hl
            obtain ⟨_, c2⟩ := h.bd _ _ hf
            exact ⟨n0, by omega⟩
          · rw [if_neg e] at hz
            exact h.bd _ _ hz
theorem lowR_bd {as : List Arc} {U : List Str} {s : LB} (hU : ∀ a ∈ as, a.fr ∈ U) (h : LBd as U s) : ∀ n, LBd as U (lowR as s n)
  | 0 => ⟨h.ky, h.bd⟩
  | n + 1 => by
    rw [lowR_next]
    exact lowA_bd hU (lowR_bd hU h n)
theorem lowEnd_bd {as : List Arc} {U : List Str} (hU : ∀ a ∈ as, a.fr ∈ U) {n : Nat} {s t : LB} (h : LowEnd as n s t) : LBd as U s → LBd as U t := by
  induction h with
  | stop _ => exact fun h => lowR_bd hU h _
  | go _ _ ih => exact fun h => ih (lowR_bd hU h _)
theorem early_bd {as : List Arc} {l : List Str} (hn : l.Nodup) {n : Nat} {t : LB} (h : LowEnd as n ⟨zeroL l, [], true⟩ t) : ∀ x y, lk t.needs x = some y → 0 ≤ y ∧ y ≤ (((l.length + as.length) * boundM as : Nat) : Int) := fun x y hy => by
  have hU : ∀ a ∈ as, a.fr ∈ l ++ as.map Arc.fr := fun a ha => List.mem_append_right _ (List.mem_map_of_mem ha)
  have zk : (zeroL l).map (·.1) = l := by
    unfold zeroL
    rw [List.map_map]
    exact List.map_id' _
  have zv : ∀ {l : List Str} {x : Str} {y : Int}, lk (zeroL l) x = some y → y = 0 := fun {l x y} h => by
    induction l with
    | nil => cases h
    | cons z l ih =>
      have h : (if z = x then some (0 : Int) else lk (zeroL l) x) = some y := h
      by_cases e : z = x
      · rw [if_pos e] at h
        cases h
        rfl
      · rw [if_neg e] at h
        exact ih h
  have b := lowEnd_bd hU h ⟨⟨by rw [zk]; exact hn, fun k hk => by rw [zk] at hk; exact List.mem_append_left _ hk⟩, fun x y h => by
    rw [zv h]
    exact ⟨Int.le_refl _, Int.natCast_nonneg _⟩⟩
  obtain ⟨b1, b2⟩ := b.bd x y hy
  have b3 := b.ky.len
  rw [List.length_append, List.length_map] at b3
  have b4 : t.needs.length * boundM as ≤ (l.length + as.length) * boundM as := Nat.mul_le_mul_right _ b3
  exact ⟨b1, by omega⟩
end Jl

set_option Elab.async false
set_option linter.all false
set_option maxRecDepth 100000
set_option maxHeartbeats 1000000
set_option pp.maxSteps 300
namespace Jl
open PySem PySem.Spec PyProof.Rows L2
open Evl (sz_of sz_lt)
local macro_rules | `(tactic| walk_at "at") => `(tactic| first | exact box0 | exact box1 | exact box2)
local macro_rules | `(tactic| walk_at "sq") => `(tactic| first | (show SqL _ _ _ _; assumption) | (show SqT _ _ _ _; assumption) | (show _ = some _; assumption))
local macro_rules | `(tactic| walk_at "side") => `(tactic| first
  | (show (0 : Int) < _; decide)
  | (show (0 : Int) < _; omega)
  | exact ⟨by decide, by decide, by decide⟩
  | exact sz_of (Nat.le_of_ble_eq_true rfl)
  | exact rfl
  | exact Or.inl (by decide)
  | exact Or.inr (by decide)
  | exact Or.inr ⟨by omega, by omega⟩
  | exact Or.inl ⟨by omega, by omega⟩
  | exact ⟨by decide, by decide +kernel⟩)
local macro_rules | `(tactic| walk_at "ev1") => `(tactic| first
  | refine ⟨_, rfl, ?_⟩
  | refine ⟨_, _, rfl, rfl, ?_⟩
  | refine ⟨_, _, _, _, rfl, rfl, (by walk_at "sq"), (by walk_at "at"), ?_⟩
  | refine ⟨_, _, rfl, (by walk_at "sq"), ?_⟩
  | refine ⟨_, _, rfl, Or.inl (by walk_at "sq"), ?_⟩
  | refine ⟨_, _, rfl, Or.inr (by walk_at "sq"), ?_⟩
  | refine Or.inl ⟨_, rfl, ?_⟩
  | refine Or.inr ⟨_, rfl, ?_⟩
  | refine ⟨(by walk_at "side"), ?_⟩
  | refine ⟨.inl ⟨rfl, _, (by walk_at "sq")⟩, ?_⟩
  | refine ⟨_, _, rfl, ?_⟩)
local macro_rules | `(tactic| walk_at "nrm") => `(tactic| dsimp only [tNil, tCons, tC, tCB])
local macro_rules | `(tactic| walk_at "ev") => `(tactic| repeat (walk_at "ev1"))
/-! ### the earliest numbers are the least that are kept -/
def Supp (as : List Arc) (F : Str → Option Int) : Prop := ∀ w x, F w = some x → 0 ≤ x ∧ ∃ a ∈ as, a.fr = w ∧ ∃ y, F a.to = some y ∧ y + a.wt ≤ x
structure EKp (as : List Arc) (w k : Str) (e : Ent) : Prop where
  nn : ∀ x y, lk e.2 x = some y → 0 ≤ y
  w0 : lk e.2 w = some 0
  kp : ∀ x y, lk e.2 x = some y → x = k ∨ ∃ a ∈ as, a.fr = x ∧ ∃ z, lk e.2 a.to = some z ∧ z + a.wt ≤ y
structure FKp (as : List Arc) (w : Str) (s : FB) : Prop where
  hw : (lk s.best w).isSome = true
  en : ∀ k e, lk s.best k = some e → EKp as w k e
def Quiet (b : List (Str × Ent)) (a : Arc) : Prop := ∀ e, lk b a.fr = some e → hitF e a (valE e a.fr - a.wt) = false ∧ ¬ (decide (valE e a.fr - a.wt ≥ 0) = true ∧ moreF ⟨b, true⟩ a (valE e a.fr - a.wt) = true)
theorem start_kp {as : List Arc} {w : Str} : FKp as w (startB w) := by
  refine ⟨?_, fun k e h => ?_⟩
  · show (if w = w then some _ else none).isSome = true
    rw [if_pos rfl]
    rfl
  · have h : (if w = k then some (([], [(w, 0)]) : Ent) else none) = some e := h
    by_cases ek : w = k
    · rw [if_pos ek] at h
      cases h
      have key : ∀ x y, lk [(w, (0 : Int))] x = some y → x = w ∧ y = 0 := fun x y hy => by
        have hy : (if w = x then some (0 : Int) else none) = some y := hy
        by_cases ex : w = x
        · rw [if_pos ex] at hy
          cases hy
          exact ⟨ex.symm, rfl⟩
        · rw [if_neg ex] at hy
          cases hy
      refine ⟨fun x y hy => ?_, ?_, fun x y hy => ?_⟩
      · rw [(key x y hy).2]
        exact Int.le_refl _
      · show (if w = w then some (0 : Int) else none) = some 0
        rw [if_pos rfl]
      · exact .inl ((key x y hy).1.trans ek)
    · rw [if_neg ek] at h
      cases h
theorem EOk.val {as : List Arc} {U : List Str} {b : List (Str × Ent)} {k : Str} {e : Ent} (E : EOk as U b k e) : lk e.2 k = some (valE e k) := by
  cases hh : lk e.2 k with
  | none =>
    have := E.ks
    rw [hh] at this
    cases this
  | some x0 =>
    unfold valE
    rw [hh]
    rfl
theorem EOk.new {as : List Arc} {U : List Str} {s : FB} {k : Str} {e : Ent} {a : Arc} {r : Int} (E : EOk as U s.best k e) (hh : hitF e a r = false) (hm : moreF s a r = true) : lk e.2 a.to = none := by
  cases hy : lk e.2 a.to with
  | none => rfl
  | some y =>
    exfalso
    obtain ⟨f, z, h1, h2, h3⟩ := E.ge _ _ hy
    unfold hitF at hh
    rw [hy] at hh
    have h4 : ¬ r ≥ y := of_decide_eq_false hh
    have h5 := hm
    unfold moreF at h5
    rw [h1] at h5
    have h5 : r > valE f a.to := of_decide_eq_true h5
    unfold valE at h5
    rw [h2] at h5
    have h5 : r > z := h5
    omega
theorem kp_put {as : List Arc} {w : Str} {e : Ent} {a : Arc} {r : Int} (ha : a ∈ as) (hE : EKp as w a.fr e) (hv : lk e.2 a.fr = some (r + a.wt)) (hr : 0 ≤ r) (hno : lk e.2 a.to = none) : EKp as w a.to (e.1 ++ [a], putM e.2 a.to r) := by
  have other : ∀ x, x ≠ a.to → lk (putM e.2 a.to r) x = lk e.2 x := fun x hx => by
    rw [lk_putL, if_neg (Ne.symm hx)]
  have self : lk (putM e.2 a.to r) a.to = some r := by rw [lk_putL, if_pos rfl]
  have nk : ∀ x y, lk e.2 x = some y → x ≠ a.to := fun x y h z => by
    rw [z, hno] at h
    cases h
  refine ⟨fun x y hy => ?_, ?_, fun x y hy => ?_⟩
  · have hy : lk (putM e.2 a.to r) x = some y := hy
    by_cases ex : x = a.to
    · rw [ex, self] at hy
      cases hy
      exact hr
    · rw [other x ex] at hy
      exact hE.nn x y hy
  · show lk (putM e.2 a.to r) w = some 0
    rw [other w (nk _ _ hE.w0)]
    exact hE.w0
  · have hy : lk (putM e.2 a.to r) x = some y := hy
    by_cases ex : x = a.to
    · exact .inl ex
    · rw [other x ex] at hy
      refine .inr ?_
      rcases hE.kp x y hy with rfl | ⟨a', h1, h2, z, h3, h4⟩
      · rw [hv] at hy
        cases hy
        exact ⟨a, ha, rfl, r, self, Int.le_refl _⟩
      · exact ⟨a', h1, h2, z, (other _ (nk _ _ h3)).trans h3, h4⟩
def RoundKp (as : List Arc) (U : List Str) (w : Str) (s : FB) (n : Nat) (x : FB ⊕ (List Arc × Arc)) : Prop := match x with
  | .inr _ => ∃ F, Supp as F ∧ F w = some 0
  | .inl r => FInv as U r ∧ FKp as w r ∧ (r.ag = false → r.best = s.best ∧ ∀ i, i < n → ∀ a, as[i]? = some a → Quiet s.best a)
theorem flR_kp {as : List Arc} {U : List Str} {w : Str} {s : FB} (hU : ∀ a ∈ as, a.to ∈ U) (hI : FInv as U s) (hK : FKp as w s) : ∀ n, RoundKp as U w s n (flR as s n)
  | 0 => ⟨⟨hI.ky, hI.en⟩, ⟨hK.hw, hK.en⟩, fun _ => ⟨rfl, fun i hi => absurd hi (Nat.not_lt_zero i)⟩⟩
  | n + 1 => by
    rw [flR_next]
    have ih := flR_kp hU hI hK n
    cases hx : flR as s n with
    | inr p =>
      rw [hx] at ih
      exact ih
    | inl r =>
      rw [hx] at ih
      obtain ⟨i1, i2, i3⟩ := ih
      unfold flA
      dsimp only
      cases ha : as[n]? with
      | none =>
        refine ⟨i1, i2, fun hag => ⟨(i3 hag).1, fun i hi a hia => ?_⟩⟩
        by_cases e : i = n
        · rw [e, ha] at hia
          cases hia
        · exact (i3 hag).2 i (by omega) a hia
      | some a =>
        have hm := List.mem_of_getElem? ha
        dsimp only
        have more : (r.ag = false → Quiet s.best a) → (r.ag = false → r.best = s.best ∧ ∀ i, i < n + 1 → ∀ b, as[i]? = some b → Quiet s.best b) := fun hq hag => ⟨(i3 hag).1, fun i hi b hib => by
          by_cases e : i = n
          · rw [e, ha] at hib
            cases hib
            exact hq hag
          · exact (i3 hag).2 i (by omega) b hib⟩
        rcases flStep_cases (hU a hm) hm i1 with h | ⟨e, he, hh, h⟩ | ⟨e, he, h1, h2, h3, h, j1, j2⟩
        · rw [h]
          refine ⟨i1, i2, more fun hag e he => ?_⟩
          have hb := (i3 hag).1
          rw [← hb] at he ⊢
          unfold flStep at h
          rw [he] at h
          dsimp only at h
          cases hh : hitF e a (valE e a.fr - a.wt) with
          | true =>
            rw [if_pos hh] at h
            cases h
          | false =>
            refine ⟨rfl, fun hc => ?_⟩
            rw [if_neg (by rw [hh]; exact Bool.false_ne_true)] at h
            have hc2 : decide (valE e a.fr - a.wt ≥ 0) = true ∧ moreF r a (valE e a.fr - a.wt) = true := hc
            rw [if_pos hc2] at h
            have h := congrArg (fun z : FB ⊕ (List Arc × Arc) => match z with | .inl q => q.ag | .inr _ => false) h
            have h : true = r.ag := h
            rw [hag] at h
            cases h
        · rw [h]
          have E := i1.en a.fr e he
          have Kp := i2.en a.fr e he
          refine ⟨lk e.2, fun x y hy => ⟨Kp.nn x y hy, ?_⟩, Kp.w0⟩
          rcases Kp.kp x y hy with rfl | ⟨a', h1, h2, z, h3, h4⟩
          · have hv := E.val
            rw [hv] at hy
            cases hy
            unfold hitF at hh
            cases hz : lk e.2 a.to with
            | none =>
              rw [hz] at hh
              cases hh
            | some z =>
              rw [hz] at hh
              have hh : valE e a.fr - a.wt ≥ z := of_decide_eq_true hh
              exact ⟨a, hm, rfl, z, hz, by omega⟩
          · exact ⟨a', h1, h2, z, h3, h4⟩
        · rw [h]
          have E := i1.en a.fr e he
          have Kp := i2.en a.fr e he
          refine ⟨j1, ⟨?_, fun k f hf => ?_⟩, fun z => by cases z⟩
          · show (lk (putM r.best a.to _) w).isSome = true
            rw [lk_putL]
            by_cases ex : a.to = w
            · rw [if_pos ex]
              rfl
            · rw [if_neg ex]
              exact i2.hw
          · have hf : lk (putM r.best a.to (e.1 ++ [a], putM e.2 a.to (valE e a.fr - a.wt))) k = some f := hf
            rw [lk_putL] at hf
            by_cases ex : a.to = k
            · rw [if_pos ex] at hf
              cases hf
              rw [← ex]
              exact kp_put hm Kp (by rw [E.val]; congr 1; omega) (of_decide_eq_true h2) (E.new h1 h3)
            · rw [if_neg ex] at hf
              exact i2.en k f hf
def FlSays (as : List Arc) (U : List Str) (w : Str) : Option (List Arc × Arc) → Prop
  | some _ => ∃ F, Supp as F ∧ F w = some 0
  | none => ∃ r : FB, FInv as U r ∧ FKp as w r ∧ ∀ a ∈ as, Quiet r.best a
theorem fl_kp {as : List Arc} {U : List Str} {w : Str} (hU : ∀ a ∈ as, a.to ∈ U) {n : Nat} {s : FB} {o : Option (List Arc × Arc)} (h : FlEnd as n s o) : FInv as U s → FKp as w s → FlSays as U w o := by
  induction h with
  | @stop s r h1 h2 =>
    intro hI hK
    have h := flR_kp hU hI hK as.length
    rw [h1] at h
    obtain ⟨_, _, i3⟩ := h
    refine ⟨s, hI, hK, fun a ha => ?_⟩
    obtain ⟨i, hi, e⟩ := List.mem_iff_getElem.mp ha
    exact (i3 h2).2 i hi a (by rw [List.getElem?_eq_getElem hi, e])
  | @found s x h1 =>
    intro hI hK
    have h := flR_kp hU hI hK as.length
    rw [h1] at h
    exact h
  | @go n s r o h1 h2 h3 ih =>
    intro hI hK
    have h := flR_kp hU hI hK as.length
    rw [h1] at h
    exact ih h.1 h.2.1
theorem las_kept {as : List Arc} {w : Str} (h : lasB as w = true) : ∃ F, Supp as F ∧ F w = some 0 := by
  have h : ∃ n x, FlEnd as n (startB w) (some x) := Classical.byContradiction fun hc => by
    unfold lasB at h
    rw [@decide_eq_false _ (_) hc] at h
    cases h
  obtain ⟨n, x, h⟩ := h
  exact fl_kp (U := w :: as.map Arc.to) (fun a ha => List.mem_cons_of_mem _ (List.mem_map_of_mem ha)) h start_inv start_kp
theorem las_ring {as : List Arc} {v : Nat → Str} {c : Nat → Arc} {f : Nat → Int} {p : Nat} (hp : 0 < p) (hv : v p = v 0) (hc : ∀ i, i < p → c i ∈ as ∧ (c i).fr = v i ∧ (c i).to = v (i + 1) ∧ f (i + 1) + (c i).wt ≤ f i) (h0 : ∀ i, i ≤ p → f 0 ≤ f i) : lasB as (v 0) = true := by
  have hU : ∀ a ∈ as, a.to ∈ v 0 :: as.map Arc.to := fun a ha => List.mem_cons_of_mem _ (List.mem_map_of_mem ha)
  obtain ⟨n, o, h⟩ := fl_ends hU _ _ (startB (v 0)) start_inv rfl rfl
  rw [lasB_of h]
  cases o with
  | some x => rfl
  | none =>
    exfalso
    obtain ⟨r, hI, hK, hq⟩ := fl_kp hU h start_inv start_kp
    have key : ∀ i, i < p → ∃ e, lk r.best (v i) = some e ∧ f i - f 0 ≤ valE e (v i) := fun i => by
      induction i with
      | zero =>
        intro _
        cases he : lk r.best (v 0) with
        | none =>
          have := hK.hw
          rw [he] at this
          cases this
        | some e =>
          refine ⟨e, rfl, ?_⟩
          have hv := (hI.en _ _ he).val
          have := (hK.en _ _ he).nn _ _ hv
          omega
      | succ i ih =>
        intro hi
        obtain ⟨e, he, hge⟩ := ih (by omega)
        obtain ⟨c1, c2, c3, c4⟩ := hc i (by omega)
        have q := hq _ c1 e (by rw [c2]; exact he)
        rw [c2] at q
        have h1 := h0 (i + 1) (by omega)
        have q2 := q.2
        unfold moreF at q2
        rw [c3] at q2
        dsimp only at q2
        cases hg : lk r.best (v (i + 1)) with
        | none =>
          rw [hg] at q2
          exact absurd ⟨decide_eq_true (by omega), rfl⟩ q2
        | some g =>
          rw [hg] at q2
          refine ⟨g, rfl, ?_⟩
          by_cases hlt : f (i + 1) - f 0 ≤ valE g (v (i + 1))
          · exact hlt
          · exact absurd ⟨decide_eq_true (by omega), decide_eq_true (by omega)⟩ q2
    obtain ⟨e, he, hge⟩ := key (p - 1) (by omega)
    obtain ⟨c1, c2, c3, c4⟩ := hc (p - 1) (by omega)
    have q := (hq _ c1 e (by rw [c2]; exact he)).1
    rw [show p - 1 + 1 = p by omega] at c3 c4
    rw [c2] at q
    unfold hitF at q
    rw [c3, hv, (hK.en _ _ he).w0] at q
    have q : ¬ valE e (v (p - 1)) - (c (p - 1)).wt ≥ 0 := of_decide_eq_false q
    have := h0 p (Nat.le_refl _)
    omega
/-! lowered -/
structure LKp (as : List Arc) (l : List Str) (s : LB) : Prop where
  nn : ∀ x y, lk s.needs x = some y → 0 ≤ y
  z0 : ∀ x ∈ l, lk s.needs x = some 0
  kp : ∀ x y, lk s.needs x = some y → (x ∈ l ∧ y = 0) ∨ ∃ a ∈ as, a.fr = x ∧ ∃ z, lk s.needs a.to = some z ∧ z + a.wt ≤ y
theorem lowNum_ge {a : Arc} {x : Int} : 0 ≤ lowNum a x ∧ x + a.wt ≤ lowNum a x := by
  unfold lowNum
  split <;> exact ⟨by omega, by omega⟩
theorem lowA_kp {as : List Arc} {l : List Str} {s : LB} {i : Nat} (hne : ∀ a ∈ as, a.fr ≠ a.to) (h : LKp as l s) : LKp as l (lowA as s i) := by
  cases ha : as[i]? with
  | none =>
    unfold lowA
    rw [ha]
    exact h
  | some a =>
    cases hx : lk s.needs a.to with
    | none =>
      rw [lowA_none ha hx]
      exact h
    | some x =>
      cases hl : lessN s a (lowNum a x) with
      | false =>
        rw [lowA_no ha hx hl]
        exact h
      | true =>
        rw [lowA_yes ha hx hl]
        obtain ⟨g1, g2⟩ := lowNum_ge (a := a) (x := x)
        generalize lowNum a x = r at hl g1 g2
        have hm := List.mem_of_getElem? ha
        have n1 := hne a hm
        unfold lessN at hl
        refine ⟨fun u y hy => ?_, fun u hu => ?_, fun u y hy => ?_⟩
        · have hy : lk (putM s.needs a.fr r) u = some y := hy
          rw [lk_putL] at hy
          split at hy
          · cases hy
            exact g1
          · exact h.nn u y hy
        · show lk (putM s.needs a.fr r) u = some 0
          rw [lk_putL]
          by_cases e : a.fr = u
          · exfalso
            rw [e, h.z0 u hu] at hl
            have : r < 0 := of_decide_eq_true hl
            omega
          · rw [if_neg e]
            exact h.z0 u hu
        · have hy : lk (putM s.needs a.fr r) u = some y := hy
          rw [lk_putL] at hy
          by_cases e : a.fr = u
          · rw [if_pos e] at hy
            cases hy
            refine .inr ⟨a, hm, e, x, ?_, g2⟩
            show lk (putM s.needs a.fr r) a.to = some x
            rw [lk_putL, if_neg n1]
            exact hx
          · rw [if_neg e] at hy
            rcases h.kp u y hy with h1 | ⟨b, b1, b2, z, b3, b4⟩
            · exact .inl h1
            · refine .inr ⟨b, b1, b2, ?_⟩
              by_cases e2 : a.fr = b.to
              · refine ⟨r, ?_, ?_⟩
                · show lk (putM s.needs a.fr r) b.to = some r
                  rw [lk_putL, if_pos e2]
                · rw [e2, b3] at hl
                  have : r < z := of_decide_eq_true hl
                  omega
              · refine ⟨z, ?_, b4⟩
                show lk (putM s.needs a.fr r) b.to = some z
                rw [lk_putL, if_neg e2]
                exact b3
theorem lowR_kp {as : List Arc} {l : List Str} {s : LB} (hne : ∀ a ∈ as, a.fr ≠ a.to) (h : LKp as l s) : ∀ n, LKp as l (lowR as s n)
  | 0 => ⟨h.nn, h.z0, h.kp⟩
  | n + 1 => by
    rw [lowR_next]
    exact lowA_kp hne (lowR_kp hne h n)
theorem lowEnd_kp {as : List Arc} {l : List Str} {n : Nat} {s t : LB} (hne : ∀ a ∈ as, a.fr ≠ a.to) (h : LowEnd as n s t) : LKp as l s → LKp as l t := by
  induction h with
  | stop h1 => exact fun h => lowR_kp hne h _
  | go h1 h2 ih => exact fun h => ih (lowR_kp hne h _)
def LQuiet (m : List (Str × Int)) (a : Arc) : Prop := ∀ y, lk m a.to = some y → ∃ x, lk m a.fr = some x ∧ x ≤ lowNum a y
theorem lowR_quiet {as : List Arc} {s : LB} : ∀ n, (lowR as s n).ag = false → (lowR as s n).needs = s.needs ∧ ∀ i, i < n → ∀ a, as[i]? = some a → LQuiet s.needs a
  | 0, _ => ⟨rfl, fun i hi => absurd hi (Nat.not_lt_zero i)⟩
  | n + 1, h => by
    rw [lowR_next] at h ⊢
    have ih := lowR_quiet (as := as) (s := s) n
    generalize lowR as s n = r at h ih ⊢
    cases ha : as[n]? with
    | none =>
      have e : lowA as r n = r := by
        unfold lowA
        rw [ha]
      rw [e] at h ⊢
      refine ⟨(ih h).1, fun i hi a hia => ?_⟩
      by_cases e : i = n
      · rw [e, ha] at hia
        cases hia
      · exact (ih h).2 i (by omega) a hia
    | some a =>
      have go : lowA as r n = r → (r.ag = false → LQuiet s.needs a) → (lowA as r n).needs = s.needs ∧ ∀ i, i < n + 1 → ∀ b, as[i]? = some b → LQuiet s.needs b := fun e hq => by
        rw [e] at h ⊢
        refine ⟨(ih h).1, fun i hi b hib => ?_⟩
        by_cases e : i = n
        · rw [e, ha] at hib
          cases hib
          exact hq h
        · exact (ih h).2 i (by omega) b hib
      cases hx : lk r.needs a.to with
      | none =>
        refine go (lowA_none ha hx) fun hr y hy => ?_
        rw [← (ih hr).1, hx] at hy
        cases hy
      | some x =>
        cases hl : lessN r a (lowNum a x) with
        | false =>
          refine go (lowA_no ha hx hl) fun hr y hy => ?_
          rw [← (ih hr).1] at hy ⊢
          rw [hx] at hy
          cases hy
          unfold lessN at hl
          cases hz : lk r.needs a.fr with
          | none =>
            rw [hz] at hl
            cases hl
          | some z =>
            rw [hz] at hl
            have : ¬ lowNum a x < z := of_decide_eq_false hl
            exact ⟨z, rfl, by omega⟩
        | true =>
          rw [lowA_yes ha hx hl] at h
          cases h
theorem lowEnd_quiet {as : List Arc} {n : Nat} {s t : LB} (h : LowEnd as n s t) : ∀ a ∈ as, LQuiet t.needs a := by
  induction h with
  | @stop s h1 =>
    intro a ha
    obtain ⟨e, h⟩ := lowR_quiet as.length h1
    obtain ⟨i, hi, e2⟩ := List.mem_iff_getElem.mp ha
    rw [e]
    exact h i hi a (by rw [List.getElem?_eq_getElem hi, e2])
  | go h1 h2 ih => exact ih
/-- a row of workers without end comes somewhere twice -/
theorem seq_twice {ws : List Str} {v : Nat → Str} (h : ∀ i, v i ∈ ws) : ∃ i j, i < j ∧ v i = v j := by
  refine Classical.byContradiction fun hc => ?_
  have hp : ((List.range (ws.length + 1)).map v).Nodup := by
    unfold List.Nodup
    rw [List.pairwise_map]
    exact List.pairwise_lt_range.imp fun {a b} hab e => hc ⟨a, b, hab, e⟩
  have := nodup_le hp fun x hx => by
    obtain ⟨i, _, rfl⟩ := List.mem_map.mp hx
    exact h i
  rw [List.length_map, List.length_range] at this
  omega
theorem least_at {f : Nat → Int} (h0 : ∀ i, 0 ≤ f i) (i0 : Nat) : ∃ k, i0 ≤ k ∧ ∀ j, i0 ≤ j → f k ≤ f j := by
  have key : ∀ (m : Nat) (k : Nat), i0 ≤ k → (f k).toNat ≤ m → ∃ k, i0 ≤ k ∧ ∀ j, i0 ≤ j → f k ≤ f j := fun m => by
    induction m with
    | zero =>
      intro k hk hm
      refine ⟨k, hk, fun j _ => ?_⟩
      have := h0 j
      omega
    | succ m ih =>
      intro k hk hm
      by_cases hc : ∃ j, i0 ≤ j ∧ f j < f k
      · obtain ⟨j, hj, hlt⟩ := hc
        have := h0 j
        exact ih j hj (by omega)
      · refine ⟨k, hk, fun j hj => ?_⟩
        by_cases hle : f k ≤ f j
        · exact hle
        · exact absurd ⟨j, hj, by omega⟩ hc
  exact key _ i0 (Nat.le_refl _) (Nat.le_refl _)
theorem early_le {ws : List Str} {as : List Arc} (ho : ArcsOn ws as) {n : Nat} {t : LB} (hE : LowEnd as n ⟨zeroL (ws.filter (lasB as)), [], true⟩ t) (hne : ∀ a ∈ as, a.fr ≠ a.to) {F : Str → Option Int} (hF : Supp as F) : ∀ w x, F w = some x → ∃ m, lk t.needs w = some m ∧ m ≤ x := by
  have hK : LKp as (ws.filter (lasB as)) t := by
    refine lowEnd_kp hne hE ?_
    have key : ∀ (l : List Str) x y, lk (zeroL l) x = some y → x ∈ l ∧ y = 0 := fun l x y => by
      induction l with
      | nil => intro h; cases h
      | cons z l ih =>
        intro h
        have h : (if z = x then some (0 : Int) else lk (zeroL l) x) = some y := h
        by_cases e : z = x
        · rw [if_pos e] at h
          cases h
          exact ⟨by rw [e]; exact List.mem_cons_self, rfl⟩
        · rw [if_neg e] at h
          exact ⟨List.mem_cons_of_mem _ (ih h).1, (ih h).2⟩
    have key2 : ∀ (l : List Str) x, x ∈ l → lk (zeroL l) x = some 0 := fun l x => by
      induction l with
      | nil => intro h; cases h
      | cons z l ih =>
        intro h
        show (if z = x then some (0 : Int) else lk (zeroL l) x) = some 0
        by_cases e : z = x
        · rw [if_pos e]
        · rw [if_neg e]
          rcases List.mem_cons.mp h with h | h
          · exact absurd h.symm e
          · exact ih h
    refine ⟨fun x y hy => ?_, fun x hx => key2 _ x hx, fun x y hy => .inl (key _ x y hy)⟩
    rw [(key _ x y hy).2]
    exact Int.le_refl _
  have hQ := lowEnd_quiet hE
  intro w x hw
  refine Classical.byContradiction fun hc => ?_
  -- those that are not so great
  let Bad : Str → Prop := fun u => ∃ y, F u = some y ∧ ¬ ∃ m, lk t.needs u = some m ∧ m ≤ y
  have nx : ∀ u : {u : Str // Bad u}, ∃ (a : Arc) (h : Bad a.to), a ∈ as ∧ a.fr = u.1 ∧ ∀ y, F u.1 = some y → ∃ z, F a.to = some z ∧ z + a.wt ≤ y := fun ⟨u, y, hy, hn⟩ => by
    obtain ⟨y0, a, h1, h2, z, h3, h4⟩ := hF u y hy
    refine ⟨a, ⟨z, h3, fun ⟨m, hm, hle⟩ => hn ?_⟩, h1, h2, fun y' hy' => ?_⟩
    · obtain ⟨k, hk, hk2⟩ := hQ a h1 m hm
      refine ⟨k, by rw [← h2]; exact hk, ?_⟩
      unfold lowNum at hk2
      split at hk2 <;> omega
    · have hy' : F u = some y' := hy'
      rw [hy] at hy'
      cases hy'
      exact ⟨z, h3, h4⟩
  let step : {u : Str // Bad u} → {u : Str // Bad u} := fun u => ⟨(Classical.choose (nx u)).to, Classical.choose (Classical.choose_spec (nx u))⟩
  let arc : {u : Str // Bad u} → Arc := fun u => Classical.choose (nx u)
  have hst : ∀ u, arc u ∈ as ∧ (arc u).fr = u.1 ∧ (arc u).to = (step u).1 ∧ ∀ y, F u.1 = some y → ∃ z, F (step u).1 = some z ∧ z + (arc u).wt ≤ y := fun u => by
    obtain ⟨h1, h2, h3⟩ := Classical.choose_spec (Classical.choose_spec (nx u))
    exact ⟨h1, h2, rfl, h3⟩
  let sq : Nat → {u : Str // Bad u} := fun i => Nat.rec ⟨w, x, hw, hc⟩ (fun _ u => step u) i
  have sqs : ∀ i, sq (i + 1) = step (sq i) := fun i => rfl
  have hin : ∀ i, (sq i).1 ∈ ws := fun i => by
    obtain ⟨h1, h2, _⟩ := hst (sq i)
    rw [← h2]
    exact (ho _ h1).1
  obtain ⟨i, j, hij, e⟩ := seq_twice hin
  have e : sq i = sq j := Subtype.ext e
  have per : ∀ d, sq (i + d) = sq (j + d) := fun d => by
    induction d with
    | zero => exact e
    | succ d ih =>
      show step (sq (i + d)) = step (sq (j + d))
      rw [ih]
  let f : Nat → Int := fun k => (F (sq k).1).getD 0
  have hf : ∀ k, F (sq k).1 = some (f k) := fun k => by
    obtain ⟨y, hy, _⟩ := (sq k).2
    show _ = some ((F (sq k).1).getD 0)
    rw [hy]
    rfl
  obtain ⟨k, hk, hmin⟩ := least_at (fun k => (hF _ _ (hf k)).1) i
  have hlas : lasB as (sq k).1 = true := by
    refine las_ring (v := fun d => (sq (k + d)).1) (c := fun d => arc (sq (k + d))) (f := fun d => f (k + d)) (p := j - i) (by omega) ?_ (fun d _ => ?_) (fun d _ => hmin (k + d) (by omega))
    · show (sq (k + (j - i))).1 = (sq k).1
      have := per (k - i)
      rw [show i + (k - i) = k by omega, show j + (k - i) = k + (j - i) by omega] at this
      rw [this]
    · obtain ⟨h1, h2, h3, h4⟩ := hst (sq (k + d))
      refine ⟨h1, h2, h3, ?_⟩
      obtain ⟨z, h5, h6⟩ := h4 _ (hf (k + d))
      have h7 := hf (k + d + 1)
      have h5 : F (sq (k + d + 1)).1 = some z := h5
      rw [h5] at h7
      cases h7
      exact h6
  obtain ⟨y, hy, hn⟩ := (sq k).2
  exact hn ⟨0, hK.z0 _ (List.mem_filter.mpr ⟨hin k, hlas⟩), (hF _ _ hy).1⟩
theorem early_supp {ws : List Str} {as : List Arc} (ho : ArcsOn ws as) {n : Nat} {t : LB} (hE : LowEnd as n ⟨zeroL (ws.filter (lasB as)), [], true⟩ t) (hne : ∀ a ∈ as, a.fr ≠ a.to) : Supp as (lk t.needs) := by
  have hK : LKp as (ws.filter (lasB as)) t := by
    refine lowEnd_kp hne hE ?_
    have key : ∀ (l : List Str) x y, lk (zeroL l) x = some y → x ∈ l ∧ y = 0 := fun l x y => by
      induction l with
      | nil => intro h; cases h
      | cons z l ih =>
        intro h
        have h : (if z = x then some (0 : Int) else lk (zeroL l) x) = some y := h
        by_cases e : z = x
        · rw [if_pos e] at h
          cases h
          exact ⟨by rw [e]; exact List.mem_cons_self, rfl⟩
        · rw [if_neg e] at h
          exact ⟨List.mem_cons_of_mem _ (ih h).1, (ih h).2⟩
    have key2 : ∀ (l : List Str) x, x ∈ l → lk (zeroL l) x = some 0 := fun l x => by
      induction l with
      | nil => intro h; cases h
      | cons z l ih =>
        intro h
        show (if z = x then some (0 : Int) else lk (zeroL l) x) = some 0
        by_cases e : z = x
        · rw [if_pos e]
        · rw [if_neg e]
          rcases List.mem_cons.mp h with h | h
          · exact absurd h.symm e
          · exact ih h
    refine ⟨fun x y hy => ?_, fun x hx => key2 _ x hx, fun x y hy => .inl (key _ x y hy)⟩
    rw [(key _ x y hy).2]
    exact Int.le_refl _
  intro w x hw
  refine ⟨hK.nn w x hw, ?_⟩
  rcases hK.kp w x hw with ⟨hl, rfl⟩ | h
  · obtain ⟨F, hF, h0⟩ := las_kept (List.mem_filter.mp hl).2
    obtain ⟨_, a, h1, h2, y, h3, h4⟩ := hF w 0 h0
    obtain ⟨m, h5, h6⟩ := early_le ho hE hne hF _ _ h3
    exact ⟨a, h1, h2, m, h5, by omega⟩
  · exact h
theorem opt_le_eq {a b : Option Int} (h : ∀ x, a = some x → ∃ m, b = some m ∧ m ≤ x) (h' : ∀ x, b = some x → ∃ m, a = some m ∧ m ≤ x) : a = b := by
  cases a with
  | none =>
    cases b with
    | none => rfl
    | some y =>
      obtain ⟨_, h1, _⟩ := h' y rfl
      cases h1
  | some x =>
    obtain ⟨m, h1, h2⟩ := h x rfl
    subst h1
    obtain ⟨k, h3, h4⟩ := h' m rfl
    cases h3
    have : x = m := by omega
    rw [this]
end Jl

set_option Elab.async false
set_option linter.all false
set_option maxRecDepth 100000
set_option maxHeartbeats 1000000
set_option pp.maxSteps 300
namespace Jl
open PySem PySem.Spec PyProof.Rows L2
open Evl (sz_of sz_lt)
local macro_rules | `(tactic| walk_at "at") => `(tactic| first | exact box0 | exact box1 | exact box2)
local macro_rules | `(tactic| walk_at "sq") => `(tactic| first | (show SqL _ _ _ _; assumption) | (show SqT _ _ _ _; assumption) | (show _ = some _; assumption))
local macro_rules | `(tactic| walk_at "side") => `(tactic| first
  | (show (0 : Int) < _; decide)
  | (show (0 : Int) < _; omega)
  | exact ⟨by decide, by decide, by decide⟩
  | exact sz_of (Nat.le_of_ble_eq_true rfl)
  | exact rfl
  | exact Or.inl (by decide)
  | exact Or.inr (by decide)
  | exact Or.inr ⟨by omega, by omega⟩
  | exact Or.inl ⟨by omega, by omega⟩
  | exact ⟨by decide, by decide +kernel⟩)
local macro_rules | `(tactic| walk_at "ev1") => `(tactic| first
  | refine ⟨_, rfl, ?_⟩
  | refine ⟨_, _, rfl, rfl, ?_⟩
  | refine ⟨_, _, _, _, rfl, rfl, (by walk_at "sq"), (by walk_at "at"), ?_⟩
  | refine ⟨_, _, rfl, (by walk_at "sq"), ?_⟩
  | refine ⟨_, _, rfl, Or.inl (by walk_at "sq"), ?_⟩
  | refine ⟨_, _, rfl, Or.inr (by walk_at "sq"), ?_⟩
  | refine Or.inl ⟨_, rfl, ?_⟩
  | refine Or.inr ⟨_, rfl, ?_⟩
  | refine ⟨(by walk_at "side"), ?_⟩
  | refine ⟨.inl ⟨rfl, _, (by walk_at "sq")⟩, ?_⟩
  | refine ⟨_, _, rfl, ?_⟩)
local macro_rules | `(tactic| walk_at "nrm") => `(tactic| dsimp only [tNil, tCons, tC, tCB])
local macro_rules | `(tactic| walk_at "ev") => `(tactic| repeat (walk_at "ev1"))
/-! ### rings as rows of queues with their sides -/
def minO : List Int → Option Int
  | [] => none
  | n :: ms => some (ms.foldl min n)
theorem minV_opt {l : List Int} : minV l = optI (minO l) := by
  cases l <;> rfl
theorem dp_opt {K : PySem.W.Frag} {H : Hp} {o : Option Int} : Dp K H (optI o) (optD o) := by
  cases o with
  | none => exact .non
  | some i => exact .int i
abbrev Eg : Type := QD × Bool
def srcE (e : Eg) : Str := if e.2 = true then e.1.st else e.1.en
def dstE (e : Eg) : Str := if e.2 = true then e.1.en else e.1.st
def prE (e : Eg) : Int := if e.2 = true then e.1.room else 1 - e.1.gap
def prcE (e : Eg) : Int := if e.2 = true then e.1.room else 0
def prcQ (qs : List QD) (m : Mk) : Int := if m.2 = true then prQ qs m else 0
def costE (es : List Eg) : Int := (es.map prE).sum
def priceE (es : List Eg) : Int := (es.map prcE).sum
def Ch : Str → List Eg → Str → Prop
  | x, [], y => x = y
  | x, e :: es, y => srcE e = x ∧ Ch (dstE e) es y
structure Cyc (Q : QD → Prop) (es : List Eg) : Prop where
  ch : ∃ x, Ch x es x
  on : ∀ e ∈ es, Q e.1
  ns : (es.map srcE).Nodup
  nq : (es.map fun e => e.1).Nodup
  ne : es ≠ []
theorem ch_app {b : List Eg} {z : Str} : ∀ {a : List Eg} {x : Str}, Ch x (a ++ b) z ↔ ∃ y, Ch x a y ∧ Ch y b z
  | [], x => ⟨fun h => ⟨x, rfl, h⟩, fun ⟨y, h1, h2⟩ => by
    have h1 : x = y := h1
    rw [h1]
    exact h2⟩
  | e :: a, x => ⟨fun h => by
    obtain ⟨y, h1, h2⟩ := ch_app.mp h.2
    exact ⟨y, ⟨h.1, h1⟩, h2⟩, fun ⟨y, h1, h2⟩ => ⟨h1.1, ch_app.mpr ⟨y, h1.2, h2⟩⟩⟩
theorem ch_rot {a b : List Eg} {x : Str} (h : Ch x (a ++ b) x) : ∃ y, Ch y (b ++ a) y := by
  obtain ⟨y, h1, h2⟩ := ch_app.mp h
  exact ⟨y, ch_app.mpr ⟨x, h2, h1⟩⟩
theorem ch_dst : ∀ {es : List Eg} {x y : Str}, es ≠ [] → Ch x es y → es.map dstE = (es.map srcE).tail ++ [y]
  | [e], x, y, _, h => by
    have h2 : dstE e = y := h.2
    rw [List.map_cons, List.map_cons, List.map_nil, List.map_nil, h2]
    rfl
  | e :: e2 :: es, x, y, _, h => by
    have ih := ch_dst (es := e2 :: es) (List.cons_ne_nil _ _) h.2
    have h2 : srcE e2 = dstE e := h.2.1
    rw [List.map_cons, ih, List.map_cons, List.map_cons, List.tail_cons, List.tail_cons, ← h2]
    rfl
theorem ch_src {es : List Eg} {x y : Str} {e : Eg} (h : Ch x (e :: es) y) : x = srcE e := h.1.symm
theorem Cyc.rot {Q : QD → Prop} {a b : List Eg} (h : Cyc Q (a ++ b)) : Cyc Q (b ++ a) := by
  have hp : (b ++ a).Perm (a ++ b) := List.perm_append_comm
  refine ⟨?_, fun e he => h.on e (hp.mem_iff.mp he), (hp.map _).nodup_iff.mpr h.ns, (hp.map _).nodup_iff.mpr h.nq, fun z => h.ne ?_⟩
  · obtain ⟨x, hx⟩ := h.ch
    exact ch_rot hx
  · have := hp.length_eq
    rw [z] at this
    exact List.length_eq_zero_iff.mp this.symm
theorem isum_comm (a b : List Int) : (a ++ b).sum = (b ++ a).sum := by
  rw [isum_app, isum_app]
  omega
theorem cost_rot {a b : List Eg} : costE (a ++ b) = costE (b ++ a) := by
  unfold costE
  rw [List.map_append, List.map_append]
  exact isum_comm _ _
theorem price_rot {a b : List Eg} : priceE (a ++ b) = priceE (b ++ a) := by
  unfold priceE
  rw [List.map_append, List.map_append]
  exact isum_comm _ _
theorem prcQ_sum {qs : List QD} : ∀ {r : List Mk}, (r.map (prcQ qs)).sum = priceQ qs r
  | [] => rfl
  | m :: r => by
    have ih := prcQ_sum (qs := qs) (r := r)
    unfold priceQ at ih ⊢
    rw [List.map_cons, List.sum_cons, ih]
    unfold prcQ
    by_cases h : m.2 = true
    · rw [if_pos h, List.filter_cons_of_pos h, List.map_cons, List.sum_cons]
    · rw [if_neg h, List.filter_cons_of_neg h]
      exact Int.zero_add _
theorem link_edge {qs : List QD} {m : Mk} {x y : Str} (h : link qs m x y) : ∃ e : Eg, e.1 ∈ qs ∧ srcE e = x ∧ dstE e = y ∧ prE e = prQ qs m ∧ prcE e = prcQ qs m ∧ e.1.nm = nmQ qs m := by
  obtain ⟨q, hq, h⟩ := h
  refine ⟨(q, m.2), List.mem_of_getElem? hq, ?_⟩
  unfold srcE dstE prE prcE prcQ prQ nmQ
  rw [hq]
  rcases h with ⟨h1, h2, h3⟩ | ⟨h1, h2, h3⟩
  · rw [h1]
    exact ⟨h2, h3, rfl, rfl, rfl⟩
  · rw [h1]
    exact ⟨h2, h3, rfl, rfl, rfl⟩
theorem path_ch {qs : List QD} : ∀ {us : List Str} {x : Str} {ms : List Mk}, path qs (x :: us) ms → ∃ es : List Eg, Ch x es (us.getLastD x) ∧ es.map srcE = (x :: us).dropLast ∧ (∀ e ∈ es, e.1 ∈ qs) ∧ es.map prE = ms.map (prQ qs) ∧ es.map prcE = ms.map (prcQ qs) ∧ es.map (fun e => e.1.nm) = ms.map (nmQ qs)
  | [], x, [], _ => ⟨[], rfl, rfl, fun e he => (nomatch he), rfl, rfl, rfl⟩
  | u :: us, x, m :: ms, h => by
    obtain ⟨es, h1, h2, h3, h4, h5, h6⟩ := path_ch h.2
    obtain ⟨e, g1, g2, g3, g4, g5, g6⟩ := link_edge h.1
    refine ⟨e :: es, ?_, ?_, fun z hz => ?_, ?_, ?_, ?_⟩
    · rw [List.getLastD_cons]
      exact ⟨g2, by rw [g3]; exact h1⟩
    · rw [List.map_cons, h2, g2]
      rfl
    · rcases List.mem_cons.mp hz with rfl | hz
      · exact g1
      · exact h3 z hz
    · rw [List.map_cons, List.map_cons, h4, g4]
    · rw [List.map_cons, List.map_cons, h5, g5]
    · rw [List.map_cons, List.map_cons, h6, g6]
  | [], _, _ :: _, h => absurd h id
  | _ :: _, _, [], h => absurd h id
theorem ch_path {qs : List QD} : ∀ {es : List Eg} {x y : Str}, Ch x es y → (∀ e ∈ es, e.1 ∈ qs) → ∃ ms : List Mk, path qs (x :: es.map dstE) ms ∧ ms.map (prQ qs) = es.map prE ∧ ms.map (prcQ qs) = es.map prcE ∧ ms.map (nmQ qs) = es.map (fun e => e.1.nm)
  | [], x, y, _, _ => ⟨[], trivial, rfl, rfl, rfl⟩
  | e :: es, x, y, h, hon => by
    obtain ⟨ms, h1, h2, h3, h4⟩ := ch_path h.2 fun z hz => hon z (List.mem_cons_of_mem _ hz)
    obtain ⟨i, hi, hq⟩ := List.mem_iff_getElem.mp (hon e List.mem_cons_self)
    have hq : qs[i]? = some e.1 := by rw [List.getElem?_eq_getElem hi, hq]
    refine ⟨(i, e.2) :: ms, ⟨⟨e.1, hq, ?_⟩, h1⟩, ?_, ?_, ?_⟩
    · have hs := h.1
      unfold srcE at hs
      show (e.2 = true ∧ e.1.st = x ∧ e.1.en = dstE e) ∨ (e.2 = false ∧ e.1.en = x ∧ e.1.st = dstE e)
      unfold dstE
      cases he : e.2 with
      | true =>
        rw [he, if_pos rfl] at hs
        exact .inl ⟨rfl, hs, rfl⟩
      | false =>
        rw [he, if_neg (by decide)] at hs
        exact .inr ⟨rfl, hs, rfl⟩
    · rw [List.map_cons, List.map_cons, h2]
      congr 1
      show prQ qs (i, e.2) = prE e
      unfold prQ prE
      rw [show qs[(i, e.2).1]? = some e.1 from hq]
    · rw [List.map_cons, List.map_cons, h3]
      congr 1
      show prcQ qs (i, e.2) = prcE e
      unfold prcQ prQ prcE
      rw [show qs[(i, e.2).1]? = some e.1 from hq]
      cases e.2 <;> rfl
    · rw [List.map_cons, List.map_cons, h4]
      congr 1
      show nmQ qs (i, e.2) = e.1.nm
      unfold nmQ
      rw [show qs[(i, e.2).1]? = some e.1 from hq]
theorem ring_cyc {ws : List Str} {qs : List QD} {w : Str} {us : List Str} {r : List Mk} (hG : NetG ws qs) (h : RingW qs w us r) : ∃ es, Cyc (· ∈ qs) es ∧ costE es = costQ qs r ∧ priceE es = priceQ qs r := by
  obtain ⟨es, h1, h2, h3, h4, h5, h6⟩ := path_ch (us := us ++ [w]) (x := w) h.pa
  rw [List.getLastD_concat] at h1
  rw [← List.cons_append, List.dropLast_concat] at h2
  refine ⟨es, ⟨⟨w, h1⟩, h3, by rw [h2]; exact List.nodup_cons.mpr ⟨fun z => (h.gt w z).1 rfl, h.nd⟩, ?_, fun z => ?_⟩, ?_, ?_⟩
  · have := nms_nd hG (ring_marks h) (path_lt h.pa)
    rw [← h6] at this
    have e : es.map (fun e => e.1.nm) = (es.map fun e => e.1).map QD.nm := by
      rw [List.map_map]
      rfl
    rw [e] at this
    exact List.Pairwise.of_map _ (fun a b hab z => hab (by rw [z])) this
  · rw [z] at h2
    cases h2
  · unfold costE costQ
    rw [h4]
  · unfold priceE
    rw [h5, prcQ_sum]
theorem cyc_ring {ws : List Str} {qs : List QD} {es : List Eg} (hG : NetG ws qs) (h : Cyc (· ∈ qs) es) : ∃ w ∈ ws, ∃ us r, RingW qs w us r ∧ costQ qs r = costE es ∧ priceQ qs r = priceE es := by
  obtain ⟨w, hw, hle⟩ := least_of (l := es.map srcE) (fun z => h.ne (List.map_eq_nil_iff.mp z))
  obtain ⟨e, he, hs⟩ := List.mem_map.mp hw
  obtain ⟨xs, ys, ee⟩ := List.append_of_mem he
  subst ee
  have hle2 : ∀ u ∈ ((e :: ys) ++ xs).map srcE, u = w ∨ gtS u w = true := fun u hu => hle u ((List.perm_append_comm.map _).mem_iff.mp hu)
  rw [cost_rot, price_rot]
  have h' := h.rot
  generalize hes : (e :: ys) ++ xs = es at h' hle2
  obtain ⟨x, hx⟩ := h'.ch
  have hne := h'.ne
  have hx1 : x = w := by
    rw [← hes] at hx
    exact (ch_src hx).trans hs
  subst hx1
  obtain ⟨ms, h1, h2, h3, h4⟩ := ch_path hx h'.on
  have hd := ch_dst hne hx
  rw [hd] at h1
  have hcons : es.map srcE = x :: (es.map srcE).tail := by
    rw [← hes, List.cons_append, List.map_cons, hs]
    rfl
  have hnd := h'.ns
  rw [hcons] at hnd hle2
  have hnd2 := List.nodup_cons.mp hnd
  have ns := h'.nq
  refine ⟨x, ?_, (es.map srcE).tail, ms, ⟨h1, fun z => ?_, hnd2.2, fun u hu => ?_, fun pre m hpm hm => ?_⟩, ?_, ?_⟩
  · have := hG.q1 e.1 (h.on e he)
    rw [← hs]
    unfold srcE
    split
    · exact this.1
    · exact this.2.1
  · rw [z] at hd
    rw [← hes, List.cons_append, List.map_cons] at hd
    have hd : dstE e = x := (List.cons.inj hd).1
    have := (hG.q1 e.1 (h.on e he)).2.2
    rw [← hs] at hd
    unfold dstE srcE at hd
    split at hd
    · exact this hd.symm
    · exact this hd
  · have hux : u ≠ x := fun z => hnd2.1 (by rw [← z]; exact hu)
    exact ⟨hux, (hle2 u (List.mem_cons_of_mem _ hu)).resolve_left hux⟩
  · obtain ⟨m2, hm2, e2⟩ := List.mem_map.mp hm
    have hnn : (ms.map (nmQ qs)).Nodup := by
      rw [h4]
      have e : es.map (fun e => e.1.nm) = (es.map fun e => e.1).map QD.nm := by
        rw [List.map_map]
        rfl
      rw [e]
      have inj : ∀ a ∈ es.map (fun e => e.1), ∀ b ∈ es.map (fun e => e.1), a.nm = b.nm → a = b := fun a ha b hb hab => by
        obtain ⟨ea, hea, rfl⟩ := List.mem_map.mp ha
        obtain ⟨eb, heb, rfl⟩ := List.mem_map.mp hb
        obtain ⟨i, hi, hqi⟩ := List.mem_iff_getElem.mp (h'.on ea hea)
        obtain ⟨j, hj, hqj⟩ := List.mem_iff_getElem.mp (h'.on eb heb)
        have := nodup_ix hG.nn (x := ea.1.nm) (i := i) (j := j) (by rw [List.getElem?_map, List.getElem?_eq_getElem hi, hqi]; rfl) (by rw [List.getElem?_map, List.getElem?_eq_getElem hj, hqj, hab]; rfl)
        subst this
        exact hqi.symm.trans hqj
      generalize es.map (fun e => e.1) = l at ns inj
      clear hd hcons hnd hle2 hnd2 h1 h2 h3 h4 hes
      induction l with
      | nil => exact List.nodup_nil
      | cons a l ih =>
        rw [List.nodup_cons] at ns
        rw [List.map_cons, List.nodup_cons]
        refine ⟨fun z => ?_, ih ns.2 fun a ha b hb => inj a (List.mem_cons_of_mem _ ha) b (List.mem_cons_of_mem _ hb)⟩
        obtain ⟨b, hb, e⟩ := List.mem_map.mp z
        have := inj b (List.mem_cons_of_mem _ hb) a List.mem_cons_self e
        rw [← this] at ns
        exact ns.1 hb
    rw [hpm, List.map_append, List.nodup_append] at hnn
    refine hnn.2.2 (nmQ qs m2) (List.mem_map_of_mem hm2) (nmQ qs m) (by simp) ?_
    unfold nmQ
    rw [e2]
  · unfold costE costQ
    rw [h2]
  · unfold priceE
    rw [← h3, prcQ_sum]
/-- two nets with the same rings, by costs and prices -/
theorem ring_set {ws : List Str} {qs : List QD} {g : List (List Mk)} (hG : NetG ws qs) (hg : Rn qs (startP ws) g) (c p : Int) : (∃ r ∈ g, costQ qs r = c ∧ priceQ qs r = p) ↔ ∃ es, Cyc (· ∈ qs) es ∧ costE es = c ∧ priceE es = p := by
  have hne : ∀ q ∈ qs, q.st ≠ q.en := fun q hq => (hG.q1 q hq).2.2
  constructor
  · rintro ⟨r, hr, rfl, rfl⟩
    obtain ⟨w, _, us, hR⟩ := (ring_mem hne hg r).mp hr
    exact ring_cyc hG hR
  · rintro ⟨es, he, rfl, rfl⟩
    obtain ⟨w, hw, us, r, hR, h1, h2⟩ := cyc_ring hG he
    exact ⟨r, (ring_mem hne hg r).mpr ⟨w, hw, us, hR⟩, h1, h2⟩
theorem minO_set {l1 l2 : List Int} (h : ∀ x, x ∈ l1 ↔ x ∈ l2) : minO l1 = minO l2 := by
  have := slC_set h
  match l1, l2, this with
  | [], [], _ => rfl
  | [], y :: l2, e => cases e
  | x :: l1, [], e => cases e
  | x :: l1, y :: l2, e => exact congrArg some (V.int.inj e)
theorem few_minO {qs : List QD} {g : List (List Mk)} : fewF qs g = minO ((badR qs g).map (priceQ qs)) := by
  rw [fewF_eq]
  cases badR qs g with
  | nil => rfl
  | cons r rs => rfl
theorem rings_same {ws ws' : List Str} {qs qs' : List QD} {g g' : List (List Mk)} (hG : NetG ws qs) (hg : Rn qs (startP ws) g) (hG' : NetG ws' qs') (hg' : Rn qs' (startP ws') g')
    (h : ∀ c p, (∃ es, Cyc (· ∈ qs') es ∧ costE es = c ∧ priceE es = p) ↔ ∃ es, Cyc (· ∈ qs) es ∧ costE es = c ∧ priceE es = p) :
    minO (g'.map (costQ qs')) = minO (g.map (costQ qs)) ∧ fewF qs' g' = fewF qs g ∧ (badR qs' g').isEmpty = (badR qs g).isEmpty := by
  have key : ∀ c p, (∃ r ∈ g', costQ qs' r = c ∧ priceQ qs' r = p) ↔ ∃ r ∈ g, costQ qs r = c ∧ priceQ qs r = p := fun c p => by
    rw [ring_set hG' hg', ring_set hG hg]
    exact h c p
  have kb : ∀ p, (∃ r ∈ badR qs' g', priceQ qs' r = p) ↔ ∃ r ∈ badR qs g, priceQ qs r = p := fun p => by
    unfold badR
    constructor
    · rintro ⟨r, hr, rfl⟩
      obtain ⟨h1, h2⟩ := List.mem_filter.mp hr
      obtain ⟨r', h3, h4, h5⟩ := (key _ _).mp ⟨r, h1, rfl, rfl⟩
      exact ⟨r', List.mem_filter.mpr ⟨h3, by rw [h4]; exact h2⟩, h5⟩
    · rintro ⟨r, hr, rfl⟩
      obtain ⟨h1, h2⟩ := List.mem_filter.mp hr
      obtain ⟨r', h3, h4, h5⟩ := (key _ _).mpr ⟨r, h1, rfl, rfl⟩
      exact ⟨r', List.mem_filter.mpr ⟨h3, by rw [h4]; exact h2⟩, h5⟩
  refine ⟨minO_set fun x => ?_, ?_, ?_⟩
  · rw [List.mem_map, List.mem_map]
    constructor
    · rintro ⟨r, hr, rfl⟩
      obtain ⟨r', h3, h4, _⟩ := (key _ _).mp ⟨r, hr, rfl, rfl⟩
      exact ⟨r', h3, h4⟩
    · rintro ⟨r, hr, rfl⟩
      obtain ⟨r', h3, h4, _⟩ := (key _ _).mpr ⟨r, hr, rfl, rfl⟩
      exact ⟨r', h3, h4⟩
  · rw [few_minO, few_minO]
    refine minO_set fun x => ?_
    rw [List.mem_map, List.mem_map]
    exact kb x
  · rw [Bool.eq_iff_iff, List.isEmpty_iff, List.isEmpty_iff]
    constructor
    · intro e
      cases hb : badR qs g with
      | nil => rfl
      | cons r rs =>
        obtain ⟨r', hr', _⟩ := (kb _).mpr ⟨r, by rw [hb]; exact List.mem_cons_self, rfl⟩
        rw [e] at hr'
        cases hr'
    · intro e
      cases hb : badR qs' g' with
      | nil => rfl
      | cons r rs =>
        obtain ⟨r', hr', _⟩ := (kb _).mp ⟨r, by rw [hb]; exact List.mem_cons_self, rfl⟩
        rw [e] at hr'
        cases hr'
theorem never_rings {ws : List Str} {qs : List QD} {g : List (List Mk)} (hn : ws.Nodup) (hG : NetG ws qs) (h0 : ws ≠ []) (hg : Rn qs (startP ws) g) (hb : ∀ q ∈ qs, q.gap ≤ q.room) : neverF ws qs = (badR qs g).isEmpty := by
  have hne : ∀ q ∈ qs, q.st ≠ q.en := fun q hq => (hG.q1 q hq).2.2
  have hl : 1 ≤ ws.length := List.length_pos_iff.mpr h0
  unfold neverF
  rw [Bool.eq_iff_iff, decide_eq_true_eq, low_rings hn hG h0 hg, List.isEmpty_iff]
  unfold badR
  rw [List.filter_eq_nil_iff]
  constructor
  · rintro ⟨h1, _⟩ r hr hc
    obtain ⟨w, hw, us, hR⟩ := (ring_mem hne hg r).mp hr
    have h2 := (ring_len hG hw hR).2
    have h3 := h1 r hr
    have hc : costQ qs r ≤ 0 := of_decide_eq_true hc
    have h4 : (ws.length : Int) * costQ qs r ≤ 0 := Int.mul_nonpos_of_nonneg_of_nonpos (by omega) hc
    omega
  · intro h
    refine ⟨fun r hr => ?_, fun q hq => ?_⟩
    · obtain ⟨w, hw, us, hR⟩ := (ring_mem hne hg r).mp hr
      have h2 := (ring_len hG hw hR).1
      have hc : ¬ costQ qs r ≤ 0 := fun hc => h r hr (decide_eq_true hc)
      have h4 : (ws.length : Int) * 1 ≤ (ws.length : Int) * costQ qs r := Int.mul_le_mul_of_nonneg_left (by omega) (by omega)
      omega
    · have h2 := two_ws hG hq
      have h3 := hb q hq
      have h4 : (ws.length : Int) * 1 ≤ (ws.length : Int) * (q.room - q.gap + 1) := Int.mul_le_mul_of_nonneg_left (by omega) (by omega)
      omega
end Jl

set_option Elab.async false
set_option linter.all false
set_option maxRecDepth 100000
set_option maxHeartbeats 1000000
set_option pp.maxSteps 300
namespace Jl
open PySem PySem.Spec PyProof.Rows L2
open Evl (sz_of sz_lt)
local macro_rules | `(tactic| walk_at "at") => `(tactic| first | exact box0 | exact box1 | exact box2)
local macro_rules | `(tactic| walk_at "sq") => `(tactic| first | (show SqL _ _ _ _; assumption) | (show SqT _ _ _ _; assumption) | (show _ = some _; assumption))
local macro_rules | `(tactic| walk_at "side") => `(tactic| first
  | (show (0 : Int) < _; decide)
  | (show (0 : Int) < _; omega)
  | exact ⟨by decide, by decide, by decide⟩
  | exact sz_of (Nat.le_of_ble_eq_true rfl)
  | exact rfl
  | exact Or.inl (by decide)
  | exact Or.inr (by decide)
  | exact Or.inr ⟨by omega, by omega⟩
  | exact Or.inl ⟨by omega, by omega⟩
  | exact ⟨by decide, by decide +kernel⟩)
local macro_rules | `(tactic| walk_at "ev1") => `(tactic| first
  | refine ⟨_, rfl, ?_⟩
  | refine ⟨_, _, rfl, rfl, ?_⟩
  | refine ⟨_, _, _, _, rfl, rfl, (by walk_at "sq"), (by walk_at "at"), ?_⟩
  | refine ⟨_, _, rfl, (by walk_at "sq"), ?_⟩
  | refine ⟨_, _, rfl, Or.inl (by walk_at "sq"), ?_⟩
  | refine ⟨_, _, rfl, Or.inr (by walk_at "sq"), ?_⟩
  | refine Or.inl ⟨_, rfl, ?_⟩
  | refine Or.inr ⟨_, rfl, ?_⟩
  | refine ⟨(by walk_at "side"), ?_⟩
  | refine ⟨.inl ⟨rfl, _, (by walk_at "sq")⟩, ?_⟩
  | refine ⟨_, _, rfl, ?_⟩)
local macro_rules | `(tactic| walk_at "nrm") => `(tactic| dsimp only [tNil, tCons, tC, tCB])
local macro_rules | `(tactic| walk_at "ev") => `(tactic| repeat (walk_at "ev1"))
/-! ### a worker in the middle of a queue -/
structure MidQ (qs qs' : List QD) (q0 q1 q2 : QD) (mid : Str) : Prop where
  h0 : q0 ∈ qs
  mem : ∀ q, q ∈ qs' ↔ (q ∈ qs ∧ q ≠ q0) ∨ q = q1 ∨ q = q2
  s1 : q1.st = q0.st
  e1 : q1.en = mid
  s2 : q2.st = mid
  e2 : q2.en = q0.en
  rm : q1.room + q2.room = q0.room
  gp : (q1.gap - 1) + (q2.gap - 1) = q0.gap - 1
  ne : q0.st ≠ q0.en
  nm : ∀ q ∈ qs, q.st ≠ mid ∧ q.en ≠ mid
  b1 : 1 ≤ q1.gap ∧ q1.gap ≤ q1.room
  b2 : 1 ≤ q2.gap ∧ q2.gap ≤ q2.room
theorem costE_cons {e : Eg} {es : List Eg} : costE (e :: es) = prE e + costE es := by
  unfold costE
  rw [List.map_cons, List.sum_cons]
theorem priceE_cons {e : Eg} {es : List Eg} : priceE (e :: es) = prcE e + priceE es := by
  unfold priceE
  rw [List.map_cons, List.sum_cons]
theorem costE_snoc {e : Eg} {es : List Eg} : costE (es ++ [e]) = prE e + costE es := by
  rw [cost_rot]
  exact costE_cons
theorem priceE_snoc {e : Eg} {es : List Eg} : priceE (es ++ [e]) = prcE e + priceE es := by
  rw [price_rot]
  exact priceE_cons
theorem dst_src {es : List Eg} {x : Str} (h : Ch x es x) {e : Eg} (he : e ∈ es) : dstE e ∈ es.map srcE := by
  have hne : es ≠ [] := fun z => by
    rw [z] at he
    cases he
  have hd := ch_dst hne h
  have h1 : dstE e ∈ es.map dstE := List.mem_map_of_mem he
  rw [hd] at h1
  rcases List.mem_append.mp h1 with h1 | h1
  · exact List.mem_of_mem_tail h1
  · rw [List.mem_singleton] at h1
    rw [h1]
    match es, hne, h with
    | a :: es, _, h =>
      rw [ch_src h]
      exact List.mem_cons_self
section
variable {qs qs' : List QD} {q0 q1 q2 : QD} {mid : Str}
theorem MidQ.n1 (M : MidQ qs qs' q0 q1 q2 mid) : q1 ∉ qs := fun h => (M.nm q1 h).2 M.e1
theorem MidQ.n2 (M : MidQ qs qs' q0 q1 q2 mid) : q2 ∉ qs := fun h => (M.nm q2 h).1 M.s2
theorem MidQ.n12 (M : MidQ qs qs' q0 q1 q2 mid) : q1 ≠ q2 := fun h => (M.nm q0 M.h0).1 (by rw [← M.s1, h, M.s2])
theorem MidQ.src (M : MidQ qs qs' q0 q1 q2 mid) {e : Eg} (h : e.1 ∈ qs) : srcE e ≠ mid := by
  unfold srcE
  split
  · exact (M.nm _ h).1
  · exact (M.nm _ h).2
theorem MidQ.dst (M : MidQ qs qs' q0 q1 q2 mid) {e : Eg} (h : e.1 ∈ qs) : dstE e ≠ mid := by
  unfold dstE
  split
  · exact (M.nm _ h).2
  · exact (M.nm _ h).1
theorem MidQ.old (M : MidQ qs qs' q0 q1 q2 mid) {q : QD} (h : q ∈ qs') (h1 : q ≠ q1) (h2 : q ≠ q2) : q ∈ qs ∧ q ≠ q0 := by
  rcases (M.mem q).mp h with h | h | h
  · exact h
  · exact absurd h h1
  · exact absurd h h2
theorem cyc_up (M : MidQ qs qs' q0 q1 q2 mid) {es : List Eg} (h : Cyc (· ∈ qs) es) : ∃ es', Cyc (· ∈ qs') es' ∧ costE es' = costE es ∧ priceE es' = priceE es := by
  by_cases hq : ∃ e ∈ es, e.1 = q0
  · obtain ⟨e, he, hq⟩ := hq
    obtain ⟨a, c, rfl⟩ := List.append_of_mem he
    rw [cost_rot, price_rot]
    have h := h.rot
    rw [List.cons_append] at h ⊢
    generalize c ++ a = ts at h ⊢
    obtain ⟨q, b⟩ := e
    have hq : q = q0 := hq
    subst hq
    obtain ⟨x, hx1, hx2⟩ := h.ch
    have ns := h.ns
    have nq := h.nq
    rw [List.map_cons, List.nodup_cons] at ns nq
    have ton : ∀ e ∈ ts, e.1 ∈ qs ∧ e.1 ≠ q := fun e he => ⟨h.on e (List.mem_cons_of_mem _ he), fun z => nq.1 (by
      rw [show (q, b).1 = e.1 from z.symm]
      exact List.mem_map.mpr ⟨e, he, rfl⟩)⟩
    have hmid : mid ∉ ts.map srcE := fun z => by
      obtain ⟨e, he, hs⟩ := List.mem_map.mp z
      exact M.src (ton e he).1 hs
    have o1 : q1 ∉ ts.map (fun e => e.1) := fun z => by
      obtain ⟨e, he, hs⟩ := List.mem_map.mp z
      exact M.n1 (by rw [← hs]; exact (ton e he).1)
    have o2 : q2 ∉ ts.map (fun e => e.1) := fun z => by
      obtain ⟨e, he, hs⟩ := List.mem_map.mp z
      exact M.n2 (by rw [← hs]; exact (ton e he).1)
    have m1 : q1 ∈ qs' := (M.mem _).mpr (.inr (.inl rfl))
    have m2 : q2 ∈ qs' := (M.mem _).mpr (.inr (.inr rfl))
    have mt : ∀ e ∈ ts, e.1 ∈ qs' := fun e he => (M.mem _).mpr (.inl (ton e he))
    cases b with
    | true =>
      have hs : srcE (q, true) = q.st := rfl
      have hd : dstE (q, true) = q.en := rfl
      rw [hs] at hx1 ns
      rw [hd] at hx2
      refine ⟨(q1, true) :: (q2, true) :: ts, ⟨⟨x, M.s1.trans hx1, M.s2.trans M.e1.symm, by show Ch q2.en ts x; rw [M.e2]; exact hx2⟩, fun e he => ?_, ?_, ?_, List.cons_ne_nil _ _⟩, ?_, ?_⟩
      · rcases List.mem_cons.mp he with rfl | he
        · exact m1
        · rcases List.mem_cons.mp he with rfl | he
          · exact m2
          · exact mt e he
      · rw [List.map_cons, List.map_cons, show srcE (q1, true) = q.st from M.s1, show srcE (q2, true) = mid from M.s2, List.nodup_cons, List.nodup_cons]
        refine ⟨fun z => ?_, hmid, ns.2⟩
        rcases List.mem_cons.mp z with z | z
        · exact (M.nm q M.h0).1 z
        · exact ns.1 z
      · rw [List.map_cons, List.map_cons, List.nodup_cons, List.nodup_cons]
        refine ⟨fun z => ?_, o2, nq.2⟩
        rcases List.mem_cons.mp z with z | z
        · exact M.n12 z
        · exact o1 z
      · rw [costE_cons, costE_cons, costE_cons]
        have := M.rm
        show q1.room + (q2.room + costE ts) = q.room + costE ts
        omega
      · rw [priceE_cons, priceE_cons, priceE_cons]
        have := M.rm
        show q1.room + (q2.room + priceE ts) = q.room + priceE ts
        omega
    | false =>
      have hs : srcE (q, false) = q.en := rfl
      have hd : dstE (q, false) = q.st := rfl
      rw [hs] at hx1 ns
      rw [hd] at hx2
      refine ⟨(q2, false) :: (q1, false) :: ts, ⟨⟨x, M.e2.trans hx1, M.e1.trans M.s2.symm, by show Ch q1.st ts x; rw [M.s1]; exact hx2⟩, fun e he => ?_, ?_, ?_, List.cons_ne_nil _ _⟩, ?_, ?_⟩
      · rcases List.mem_cons.mp he with rfl | he
        · exact m2
        · rcases List.mem_cons.mp he with rfl | he
          · exact m1
          · exact mt e he
      · rw [List.map_cons, List.map_cons, show srcE (q2, false) = q.en from M.e2, show srcE (q1, false) = mid from M.e1, List.nodup_cons, List.nodup_cons]
        refine ⟨fun z => ?_, hmid, ns.2⟩
        rcases List.mem_cons.mp z with z | z
        · exact (M.nm q M.h0).2 z
        · exact ns.1 z
      · rw [List.map_cons, List.map_cons, List.nodup_cons, List.nodup_cons]
        refine ⟨fun z => ?_, o1, nq.2⟩
        rcases List.mem_cons.mp z with z | z
        · exact M.n12 z.symm
        · exact o2 z
      · rw [costE_cons, costE_cons, costE_cons]
        have := M.gp
        show (1 - q2.gap) + ((1 - q1.gap) + costE ts) = (1 - q.gap) + costE ts
        omega
      · rw [priceE_cons, priceE_cons, priceE_cons]
        show (0 : Int) + (0 + priceE ts) = 0 + priceE ts
        omega
  · refine ⟨es, ⟨h.ch, fun e he => (M.mem _).mpr (.inl ⟨h.on e he, fun z => hq ⟨e, he, z⟩⟩), h.ns, h.nq, h.ne⟩, rfl, rfl⟩
theorem cyc_down (M : MidQ qs qs' q0 q1 q2 mid) {es : List Eg} (h : Cyc (· ∈ qs') es) : ∃ es', Cyc (· ∈ qs) es' ∧ costE es' = costE es ∧ priceE es' = priceE es := by
  have n0 := M.nm q0 M.h0
  by_cases hm : mid ∈ es.map srcE
  · obtain ⟨e, he, hs⟩ := List.mem_map.mp hm
    obtain ⟨a, c, rfl⟩ := List.append_of_mem he
    rw [cost_rot, price_rot]
    have h := h.rot
    rw [List.cons_append] at h ⊢
    generalize c ++ a = ts at h ⊢
    clear hm he
    obtain ⟨x, hx1, hx2⟩ := h.ch
    rw [hs] at hx1
    subst hx1
    have ns := h.ns
    have nq := h.nq
    have hon := h.on
    clear h
    -- the last step
    obtain ⟨us, l, rfl⟩ : ∃ us l, ts = us ++ [l] := by
      rcases List.eq_nil_or_concat ts with e0 | ⟨us, l, e0⟩
      · exfalso
        rw [e0] at hx2
        have hx2 : dstE e = mid := hx2
        have h1 := hon e List.mem_cons_self
        rcases (M.mem _).mp h1 with h1 | h1 | h1
        · exact M.src h1.1 hs
        · unfold srcE at hs
          unfold dstE at hx2
          rw [h1] at hs hx2
          cases hb : e.2 with
          | true => rw [hb, if_pos rfl, M.s1] at hs; exact n0.1 hs
          | false => rw [hb, if_neg (by decide), M.s1] at hx2; exact n0.1 hx2
        · unfold srcE at hs
          unfold dstE at hx2
          rw [h1] at hs hx2
          cases hb : e.2 with
          | true => rw [hb, if_pos rfl, M.e2] at hx2; exact n0.2 hx2
          | false => rw [hb, if_neg (by decide), M.e2] at hs; exact n0.2 hs
      · exact ⟨us, l, by rw [e0, List.concat_eq_append]⟩
    obtain ⟨y, hy, hl1, hl2⟩ := ch_app.mp hx2
    have hl2 : dstE l = mid := hl2
    rw [List.map_cons, List.map_append, List.nodup_cons] at ns nq
    have nsu := List.nodup_append.mp ns.2
    have nqu := List.nodup_append.mp nq.2
    have hle : l.1 ≠ e.1 := fun z => nq.1 (List.mem_append_right _ (by rw [← z]; simp))
    have hul : ∀ z ∈ us, z.1 ≠ l.1 := fun z hz e => nqu.2.2 z.1 (List.mem_map.mpr ⟨z, hz, rfl⟩) l.1 (by simp) e
    have hue : ∀ z ∈ us, z.1 ≠ e.1 := fun z hz e2 => nq.1 (List.mem_append_left _ (by rw [← e2]; exact List.mem_map.mpr ⟨z, hz, rfl⟩))
    have hsl : srcE l ∉ us.map srcE := fun z => nsu.2.2 _ z (srcE l) (by simp) rfl
    have honu : ∀ z ∈ us, z.1 ∈ qs' := fun z hz => hon z (List.mem_cons_of_mem _ (List.mem_append_left _ hz))
    have honl : l.1 ∈ qs' := hon l (List.mem_cons_of_mem _ (List.mem_append_right _ (by simp)))
    have hone : e.1 ∈ qs' := hon e List.mem_cons_self
    obtain ⟨qe, be⟩ := e
    obtain ⟨ql, bl⟩ := l
    rw [costE_cons, priceE_cons, costE_snoc, priceE_snoc]
    have hl : (ql = q1 ∧ bl = true) ∨ (ql = q2 ∧ bl = false) := by
      rcases (M.mem _).mp honl with h1 | h1 | h1
      · exact absurd hl2 (M.dst h1.1)
      · have h1 : ql = q1 := h1
        subst h1
        cases bl with
        | true => exact .inl ⟨rfl, rfl⟩
        | false =>
          have hl2 : ql.st = mid := hl2
          rw [M.s1] at hl2
          exact absurd hl2 n0.1
      · have h1 : ql = q2 := h1
        subst h1
        cases bl with
        | true =>
          have hl2 : ql.en = mid := hl2
          rw [M.e2] at hl2
          exact absurd hl2 n0.2
        | false => exact .inr ⟨rfl, rfl⟩
    have he : (qe = q1 ∧ be = false) ∨ (qe = q2 ∧ be = true) := by
      rcases (M.mem _).mp hone with h1 | h1 | h1
      · exact absurd hs (M.src h1.1)
      · have h1 : qe = q1 := h1
        subst h1
        cases be with
        | false => exact .inl ⟨rfl, rfl⟩
        | true =>
          have hs : qe.st = mid := hs
          rw [M.s1] at hs
          exact absurd hs n0.1
      · have h1 : qe = q2 := h1
        subst h1
        cases be with
        | false =>
          have hs : qe.en = mid := hs
          rw [M.e2] at hs
          exact absurd hs n0.2
        | true => exact .inr ⟨rfl, rfl⟩
    rcases he with ⟨rfl, rfl⟩ | ⟨rfl, rfl⟩ <;> rcases hl with ⟨rfl, rfl⟩ | ⟨rfl, rfl⟩
    · exact absurd rfl hle
    · have hy : Ch q0.st us y := by
        rw [← M.s1]
        exact hy
      have hl1 : q0.en = y := by
        rw [← M.e2]
        exact hl1
      subst hl1
      have hsl : q0.en ∉ us.map srcE := by
        rw [← M.e2]
        exact hsl
      have ho : ∀ z ∈ us, z.1 ∈ qs ∧ z.1 ≠ q0 := fun z hz => M.old (honu z hz) (hue z hz) (hul z hz)
      refine ⟨(q0, false) :: us, ⟨⟨q0.en, rfl, hy⟩, fun z hz => ?_, ?_, ?_, List.cons_ne_nil _ _⟩, ?_, ?_⟩
      · rcases List.mem_cons.mp hz with rfl | hz
        · exact M.h0
        · exact (ho z hz).1
      · rw [List.map_cons, List.nodup_cons]
        exact ⟨hsl, nsu.1⟩
      · rw [List.map_cons, List.nodup_cons]
        refine ⟨fun z => ?_, nqu.1⟩
        obtain ⟨u, hu, e⟩ := List.mem_map.mp z
        exact (ho u hu).2 e
      · rw [costE_cons]
        have := M.gp
        show (1 - q0.gap) + costE us = (1 - qe.gap) + ((1 - ql.gap) + costE us)
        omega
      · rw [priceE_cons]
        show (0 : Int) + priceE us = 0 + (0 + priceE us)
        omega
    · have hy : Ch q0.en us y := by
        rw [← M.e2]
        exact hy
      have hl1 : q0.st = y := by
        rw [← M.s1]
        exact hl1
      subst hl1
      have hsl : q0.st ∉ us.map srcE := by
        rw [← M.s1]
        exact hsl
      have ho : ∀ z ∈ us, z.1 ∈ qs ∧ z.1 ≠ q0 := fun z hz => M.old (honu z hz) (hul z hz) (hue z hz)
      refine ⟨(q0, true) :: us, ⟨⟨q0.st, rfl, hy⟩, fun z hz => ?_, ?_, ?_, List.cons_ne_nil _ _⟩, ?_, ?_⟩
      · rcases List.mem_cons.mp hz with rfl | hz
        · exact M.h0
        · exact (ho z hz).1
      · rw [List.map_cons, List.nodup_cons]
        exact ⟨hsl, nsu.1⟩
      · rw [List.map_cons, List.nodup_cons]
        refine ⟨fun z => ?_, nqu.1⟩
        obtain ⟨u, hu, e⟩ := List.mem_map.mp z
        exact (ho u hu).2 e
      · rw [costE_cons]
        have := M.rm
        show q0.room + costE us = qe.room + (ql.room + costE us)
        omega
      · rw [priceE_cons]
        have := M.rm
        show q0.room + priceE us = qe.room + (ql.room + priceE us)
        omega
    · exact absurd rfl hle
  · obtain ⟨x, hx⟩ := h.ch
    refine ⟨es, ⟨⟨x, hx⟩, fun e he => ?_, h.ns, h.nq, h.ne⟩, rfl, rfl⟩
    have hd : dstE e ≠ mid := fun z => hm (by rw [← z]; exact dst_src hx he)
    have hs : srcE e ≠ mid := fun z => hm (by rw [← z]; exact List.mem_map_of_mem he)
    rcases (M.mem _).mp (h.on e he) with h1 | h1 | h1
    · exact h1.1
    · exfalso
      unfold srcE at hs
      unfold dstE at hd
      rw [h1] at hs hd
      cases hb : e.2 with
      | true => rw [hb, if_pos rfl] at hd; exact hd M.e1
      | false => rw [hb, if_neg (by decide)] at hs; exact hs M.e1
    · exfalso
      unfold srcE at hs
      unfold dstE at hd
      rw [h1] at hs hd
      cases hb : e.2 with
      | true => rw [hb, if_pos rfl] at hs; exact hs M.s2
      | false => rw [hb, if_neg (by decide)] at hd; exact hd M.s2
theorem cyc_mid (M : MidQ qs qs' q0 q1 q2 mid) (c p : Int) : (∃ es, Cyc (· ∈ qs') es ∧ costE es = c ∧ priceE es = p) ↔ ∃ es, Cyc (· ∈ qs) es ∧ costE es = c ∧ priceE es = p := by
  constructor
  · rintro ⟨es, h, rfl, rfl⟩
    exact cyc_down M h
  · rintro ⟨es, h, rfl, rfl⟩
    exact cyc_up M h
end
/-! the earliest numbers -/
def SuppQ (qs : List QD) (F : Str → Option Int) : Prop := ∀ w x, F w = some x → 0 ≤ x ∧ ∃ q ∈ qs, (q.st = w ∧ ∃ y, F q.en = some y ∧ y + q.room ≤ x) ∨ (q.en = w ∧ ∃ y, F q.st = some y ∧ y + (1 - q.gap) ≤ x)
theorem supp_q {qs : List QD} {F : Str → Option Int} : Supp (arcsF 1 0 qs) F ↔ SuppQ qs F := by
  constructor
  · intro h w x hw
    obtain ⟨h0, a, ha, h1, y, h2, h3⟩ := h w x hw
    refine ⟨h0, ?_⟩
    obtain ⟨q, hq, ha⟩ := List.mem_flatMap.mp ha
    rcases mem2 ha with rfl | rfl
    · refine ⟨q, hq, .inl ⟨h1, y, h2, ?_⟩⟩
      have h3 : y + (1 * q.room - 0) ≤ x := h3
      omega
    · refine ⟨q, hq, .inr ⟨h1, y, h2, ?_⟩⟩
      have h3 : y + (1 * (1 - q.gap) - 0) ≤ x := h3
      omega
  · intro h w x hw
    obtain ⟨h0, q, hq, h1⟩ := h w x hw
    refine ⟨h0, ?_⟩
    rcases h1 with ⟨h1, y, h2, h3⟩ | ⟨h1, y, h2, h3⟩
    · refine ⟨_, List.mem_flatMap.mpr ⟨q, hq, List.mem_cons_self⟩, h1, y, h2, ?_⟩
      show y + (1 * q.room - 0) ≤ x
      omega
    · refine ⟨_, List.mem_flatMap.mpr ⟨q, hq, List.mem_cons_of_mem _ List.mem_cons_self⟩, h1, y, h2, ?_⟩
      show y + (1 * (1 - q.gap) - 0) ≤ x
      omega
section
variable {qs qs' : List QD} {q0 q1 q2 : QD} {mid : Str}
theorem mid_up (M : MidQ qs qs' q0 q1 q2 mid) {F : Str → Option Int} (hF : SuppQ qs F) : ∃ F', SuppQ qs' F' ∧ ∀ w x, F w = some x → F' w = some x := by
  have n0 := M.nm q0 M.h0
  have hmid : F mid = none := by
    cases hm : F mid with
    | none => rfl
    | some x =>
      obtain ⟨_, q, hq, h1⟩ := hF mid x hm
      rcases h1 with ⟨h1, _⟩ | ⟨h1, _⟩
      · exact absurd h1 (M.nm q hq).1
      · exact absurd h1 (M.nm q hq).2
  have m1 : q1 ∈ qs' := (M.mem _).mpr (.inr (.inl rfl))
  have m2 : q2 ∈ qs' := (M.mem _).mpr (.inr (.inr rfl))
  have b1 := M.b1
  have b2 := M.b2
  have rm := M.rm
  have gp := M.gp
  -- with so much at the worker in the middle
  have go : ∀ o : Option Int, (∀ m, o = some m → 0 ≤ m ∧ ((∃ y, F q0.en = some y ∧ y + q2.room ≤ m) ∨ (∃ x, F q0.st = some x ∧ x + (1 - q1.gap) ≤ m))) →
      (∀ x y, F q0.st = some x → F q0.en = some y → y + q0.room ≤ x → ∃ m, o = some m ∧ m + q1.room ≤ x) →
      (∀ x y, F q0.st = some x → F q0.en = some y → x + (1 - q0.gap) ≤ y → ∃ m, o = some m ∧ m + (1 - q2.gap) ≤ y) →
      ∃ F', SuppQ qs' F' ∧ ∀ w x, F w = some x → F' w = some x := fun o ho ha hb => by
    have far : ∀ w, w ≠ mid → (fun w => if w = mid then o else F w) w = F w := fun w hw => if_neg hw
    have near : (fun w => if w = mid then o else F w) mid = o := if_pos rfl
    have nmid : ∀ w x, F w = some x → w ≠ mid := fun w x h z => by
      rw [z, hmid] at h
      cases h
    generalize (fun w => if w = mid then o else F w) = F' at far near
    refine ⟨F', fun w x hw => ?_, fun w x hw => (far w (nmid w x hw)).trans hw⟩
    by_cases hwm : w = mid
    · rw [hwm, near] at hw
      obtain ⟨h0, h1⟩ := ho x hw
      refine ⟨h0, ?_⟩
      rcases h1 with ⟨y, hy, hle⟩ | ⟨y, hy, hle⟩
      · exact ⟨q2, m2, .inl ⟨M.s2.trans hwm.symm, y, by rw [M.e2, far _ n0.2]; exact hy, hle⟩⟩
      · exact ⟨q1, m1, .inr ⟨M.e1.trans hwm.symm, y, by rw [M.s1, far _ n0.1]; exact hy, hle⟩⟩
    · rw [far w hwm] at hw
      obtain ⟨h0, q, hq, h1⟩ := hF w x hw
      refine ⟨h0, ?_⟩
      by_cases hq0 : q = q0
      · subst hq0
        rcases h1 with ⟨h1, y, h2, h3⟩ | ⟨h1, y, h2, h3⟩
        · obtain ⟨m, hm, hle⟩ := ha x y (by rw [h1]; exact hw) h2 h3
          exact ⟨q1, m1, .inl ⟨M.s1.trans h1, m, by rw [M.e1, near]; exact hm, hle⟩⟩
        · obtain ⟨m, hm, hle⟩ := hb y x h2 (by rw [h1]; exact hw) h3
          exact ⟨q2, m2, .inr ⟨M.e2.trans h1, m, by rw [M.s2, near]; exact hm, hle⟩⟩
      · obtain ⟨k1, k2⟩ := M.nm q hq
        refine ⟨q, (M.mem q).mpr (.inl ⟨hq, hq0⟩), ?_⟩
        rw [far _ k1, far _ k2]
        exact h1
  by_cases hA : ∃ x y, F q0.st = some x ∧ F q0.en = some y ∧ y + q0.room ≤ x
  · obtain ⟨x, y, hx, hy, hle⟩ := hA
    have y0 := (hF _ _ hy).1
    refine go (some (y + q2.room)) (fun m hm => ?_) (fun x' y' hx' hy' hle' => ?_) (fun x' y' hx' hy' hle' => ?_)
    · cases hm
      exact ⟨by omega, .inl ⟨y, hy, Int.le_refl _⟩⟩
    · rw [hx] at hx'
      cases hx'
      exact ⟨_, rfl, by omega⟩
    · rw [hx] at hx'
      cases hx'
      rw [hy] at hy'
      cases hy'
      exfalso
      omega
  · by_cases hB : ∃ x y, F q0.st = some x ∧ F q0.en = some y ∧ x + (1 - q0.gap) ≤ y
    · obtain ⟨x, y, hx, hy, hle⟩ := hB
      have y0 := (hF _ _ hy).1
      refine go (some (max 0 (x + (1 - q1.gap)))) (fun m hm => ?_) (fun x' y' hx' hy' hle' => absurd ⟨x', y', hx', hy', hle'⟩ hA) (fun x' y' hx' hy' hle' => ?_)
      · cases hm
        exact ⟨by omega, .inr ⟨x, hx, by omega⟩⟩
      · rw [hx] at hx'
        cases hx'
        rw [hy] at hy'
        cases hy'
        exact ⟨_, rfl, by omega⟩
    · exact go none (fun m hm => by cases hm) (fun x' y' hx' hy' hle' => absurd ⟨x', y', hx', hy', hle'⟩ hA) (fun x' y' hx' hy' hle' => absurd ⟨x', y', hx', hy', hle'⟩ hB)
theorem mid_down (M : MidQ qs qs' q0 q1 q2 mid) {F : Str → Option Int} (hF : SuppQ qs' F) : ∃ F', SuppQ qs F' ∧ ∀ w x, w ≠ mid → F w = some x → F' w = some x := by
  have n0 := M.nm q0 M.h0
  have b1 := M.b1
  have b2 := M.b2
  have rm := M.rm
  have gp := M.gp
  have far : ∀ w, w ≠ mid → (fun w => if w = mid then none else F w) w = F w := fun w hw => if_neg hw
  have near : (fun w => if w = mid then none else F w) mid = none := if_pos rfl
  generalize (fun w => if w = mid then none else F w) = F' at far near
  refine ⟨F', fun w x hw => ?_, fun w x hw h => (far w hw).trans h⟩
  by_cases hwm : w = mid
  · rw [hwm, near] at hw
    cases hw
  · rw [far w hwm] at hw
    obtain ⟨h0, q, hq, h1⟩ := hF w x hw
    refine ⟨h0, ?_⟩
    have hm : ∀ m, F mid = some m → (∃ y, F q0.en = some y ∧ y + q2.room ≤ m) ∨ (∃ x, F q0.st = some x ∧ x + (1 - q1.gap) ≤ m) := fun m hm => by
      obtain ⟨_, p, hp, h2⟩ := hF mid m hm
      rcases (M.mem p).mp hp with h3 | rfl | rfl
      · rcases h2 with ⟨h2, _⟩ | ⟨h2, _⟩
        · exact absurd h2 (M.nm p h3.1).1
        · exact absurd h2 (M.nm p h3.1).2
      · rcases h2 with ⟨h2, _⟩ | ⟨h2, y, h4, h5⟩
        · exact absurd (M.s1.symm.trans h2) n0.1
        · exact .inr ⟨y, by rw [← M.s1]; exact h4, h5⟩
      · rcases h2 with ⟨h2, y, h4, h5⟩ | ⟨h2, _⟩
        · exact .inl ⟨y, by rw [← M.e2]; exact h4, h5⟩
        · exact absurd (M.e2.symm.trans h2) n0.2
    rcases (M.mem q).mp hq with h3 | rfl | rfl
    · obtain ⟨k1, k2⟩ := M.nm q h3.1
      refine ⟨q, h3.1, ?_⟩
      rw [far _ k1, far _ k2]
      exact h1
    · rcases h1 with ⟨h1, m, h2, h3⟩ | ⟨h1, _⟩
      · rw [M.e1] at h2
        rw [M.s1] at h1
        rcases hm m h2 with ⟨y, h4, h5⟩ | ⟨y, h4, h5⟩
        · exact ⟨q0, M.h0, .inl ⟨h1, y, (far _ n0.2).trans h4, by omega⟩⟩
        · rw [h1, hw] at h4
          cases h4
          exfalso
          omega
      · exact absurd (h1.symm.trans M.e1) hwm
    · rcases h1 with ⟨h1, _⟩ | ⟨h1, m, h2, h3⟩
      · exact absurd (h1.symm.trans M.s2) hwm
      · rw [M.s2] at h2
        rw [M.e2] at h1
        rcases hm m h2 with ⟨y, h4, h5⟩ | ⟨y, h4, h5⟩
        · rw [h1, hw] at h4
          cases h4
          exfalso
          omega
        · exact ⟨q0, M.h0, .inr ⟨h1, y, (far _ n0.1).trans h4, by omega⟩⟩
theorem arcs_ne {ws : List Str} (hG : NetG ws qs) : ∀ a ∈ arcsF 1 0 qs, a.fr ≠ a.to := fun a ha => by
  obtain ⟨q, hq, h⟩ := List.mem_flatMap.mp ha
  have := (hG.q1 q hq).2.2
  rcases mem2 h with rfl | rfl
  · exact this
  · exact fun e => this e.symm
theorem early_mid {ws ws' : List Str} (M : MidQ qs qs' q0 q1 q2 mid) (hG : NetG ws qs) (hG' : NetG ws' qs') {n n' : Nat} {t t' : LB} (hE : LowEnd (arcsF 1 0 qs) n ⟨zeroL (ws.filter (lasB (arcsF 1 0 qs))), [], true⟩ t) (hE' : LowEnd (arcsF 1 0 qs') n' ⟨zeroL (ws'.filter (lasB (arcsF 1 0 qs'))), [], true⟩ t') {w : Str} (hw : w ≠ mid) : lk t'.needs w = lk t.needs w := by
  obtain ⟨F', h1, h2⟩ := mid_up M (supp_q.mp (early_supp (arcs_on hG) hE (arcs_ne hG)))
  obtain ⟨F, h3, h4⟩ := mid_down M (supp_q.mp (early_supp (arcs_on hG') hE' (arcs_ne hG')))
  refine opt_le_eq (fun x hx => early_le (arcs_on hG) hE (arcs_ne hG) (supp_q.mpr h3) w x (h4 w x hw hx)) (fun x hx => early_le (arcs_on hG') hE' (arcs_ne hG') (supp_q.mpr h1) w x (h2 w x hx))
end
end Jl

set_option Elab.async false
set_option linter.all false
set_option maxRecDepth 100000
set_option maxHeartbeats 1000000
set_option pp.maxSteps 300
namespace Jl
open PySem PySem.Spec PyProof.Rows L2
open Evl (sz_of sz_lt)
local macro_rules | `(tactic| walk_at "at") => `(tactic| first | exact box0 | exact box1 | exact box2)
local macro_rules | `(tactic| walk_at "sq") => `(tactic| first | (show SqL _ _ _ _; assumption) | (show SqT _ _ _ _; assumption) | (show _ = some _; assumption))
local macro_rules | `(tactic| walk_at "side") => `(tactic| first
  | (show (0 : Int) < _; decide)
  | (show (0 : Int) < _; omega)
  | exact ⟨by decide, by decide, by decide⟩
  | exact sz_of (Nat.le_of_ble_eq_true rfl)
  | exact rfl
  | exact Or.inl (by decide)
  | exact Or.inr (by decide)
  | exact Or.inr ⟨by omega, by omega⟩
  | exact Or.inl ⟨by omega, by omega⟩
  | exact ⟨by decide, by decide +kernel⟩)
local macro_rules | `(tactic| walk_at "ev1") => `(tactic| first
  | refine ⟨_, rfl, ?_⟩
  | refine ⟨_, _, rfl, rfl, ?_⟩
  | refine ⟨_, _, _, _, rfl, rfl, (by walk_at "sq"), (by walk_at "at"), ?_⟩
  | refine ⟨_, _, rfl, (by walk_at "sq"), ?_⟩
  | refine ⟨_, _, rfl, Or.inl (by walk_at "sq"), ?_⟩
  | refine ⟨_, _, rfl, Or.inr (by walk_at "sq"), ?_⟩
  | refine Or.inl ⟨_, rfl, ?_⟩
  | refine Or.inr ⟨_, rfl, ?_⟩
  | refine ⟨(by walk_at "side"), ?_⟩
  | refine ⟨.inl ⟨rfl, _, (by walk_at "sq")⟩, ?_⟩
  | refine ⟨_, _, rfl, ?_⟩)
local macro_rules | `(tactic| walk_at "nrm") => `(tactic| dsimp only [tNil, tCons, tC, tCB])
local macro_rules | `(tactic| walk_at "ev") => `(tactic| repeat (walk_at "ev1"))
/-! ### general pieces -/
abbrev rTupIxS (K : PySem.W.Frag) : V → List V → Hp → VK → Prop := fun x xs H Q => ∃ p, ∃ ys : List Str, ∃ z j, x = V.ref p ∧ xs = [V.str z] ∧ SqT K H p (ys.map V.str) ∧ ys[j]? = some z ∧ (∀ m, m < j → ys[m]? ≠ some z) ∧ Q (V.int (j : Nat)) H
theorem par_of {ta : TA} {i j : Nat} {u : TS} {D : Ends} {σ : L2.St} {H : Hp} (h : ta σ H fun vs H1 => ∃ v w, vs = [v, w] ∧ u D ((σ.set i (some v)).set j (some w)) H1) : tSeq (tPar i j ta) u D σ H := h
section
variable {K : PySem.W.Frag} {C : Addr} {H0 : Hp} {ta tb te t1 t2 tk : TE} {σ : L2.St} {ws : List Str} {qs : List QD} {w : Str} {us : List Str} {ms : List Mk} {d : PyData} {ds es : List PyData}
theorem ic_at {S : List Addr} {fb : Bool} {j : Int} (k : Nat) (h : IsC K S H0 te (seqD fb ds) σ) (hd : ds[k]? = some d) (hj : j = (k : Nat) := by rfl) : IsC K S H0 (tOp (rIxF K) te (tC (.int j))) d σ := fun H Q e tr q => h H _ e tr fun H1 v s1 d1 => by
  obtain ⟨a, xs, rfl, ha, hx⟩ := Dp.seq_of d1
  obtain ⟨u, hu, du⟩ := dpa_get' hx hd
  exact rIxF_at (cutS_le.sqF ha) (by rw [hj]; exact atI_nat hu) (q H1 u s1 du)
theorem ic_v {i : Nat} {v : V} (hi : σ[i]? = some (some v)) (hd : Dp K H0 v d) : IsC K [] H0 (tVar i) d σ := ic_var hi (by rw [cutS_nil]; exact hd)
theorem ic_sub {S : List Addr} {i j : Int} (h1 : IsC K S H0 ta (.int i) σ) (h2 : IsC K S H0 tb (.int j) σ) : IsC K S H0 (tOp (rI0 fun i j => .int (i - j)) ta tb) (.int (i - j)) σ := fun H Q e tr q => h1 H _ e tr fun H1 v s1 d1 => h2 H1 _ (e.trans s1) (tr.mono s1) fun H2 u s2 d2 => by
  cases d1
  cases d2
  exact ⟨_, _, rfl, rfl, q H2 _ (s1.trans s2) (.int _)⟩
theorem ic_and {a b : Bool} (h1 : IsC K [] H0 ta (.bool a) σ) (h2 : IsC K [] H0 tb (.bool b) σ) : IsC K [] H0 (tAndV ta tb) (.bool (a && b)) σ := fun H Q e tr q => h1 H _ e tr fun H1 v s1 d1 => by
  cases d1
  refine ⟨a, rfl, ?_⟩
  cases a with
  | false => exact iteF (q H1 _ s1 (.bl _))
  | true =>
    refine iteT (h2 H1 _ (e.trans s1) (tr.mono s1) fun H2 u s2 d2 => ?_)
    cases d2
    exact q H2 _ (s1.trans s2) (.bl _)
def IsWy (K : PySem.W.Frag) (C : Addr) (H0 : Hp) (te : TE) (ws : List Str) (qs : List QD) (w : Str) (us : List Str) (ms : List Mk) (σ : L2.St) : Prop := ∀ (H : Hp) (Q : VK), Same H0 H → (∀ H' z, Same H H' → WayAt K C H' z ws qs w us ms → Q (.ref z) H') → te σ H Q
theorem iw_var {i : Nat} {x : Addr} (hi : σ[i]? = some (some (.ref x))) (hw : WayAt K C H0 x ws qs w us ms) : IsWy K C H0 (tVar i) ws qs w us ms σ := fun H Q e q => ⟨_, hi, q H x (fun _ _ e => e) (hw.same e)⟩
theorem iw_make {t : TA} {fb fq : Bool} (h : AreC K [] H0 t [netD fb ws qs, .str w, seqD fq ((ms.map (nmQ qs)).map PyData.str)] σ) (hG : NetG ws qs) (hw : w ∈ ws) (hp : path qs (w :: us) ms) (w6 : ws.length ≤ 60) (q6 : qs.length ≤ 60) (m6 : ms.length ≤ 1000) : IsWy K C H0 (tMake C (spInit K C) [] E0 t) ws qs w us ms σ := fun H Q e q =>
  h H _ e Trk.nil fun H1 vs s1 d1 => by
    rw [cutS_nil] at d1
    cases d1 with
    | cons k1 d1 =>
    cases d1 with
    | cons k2 d1 =>
    cases d1 with
    | cons k3 d1 =>
    cases d1
    cases k2
    exact fun z dz hz hdz ne => make_way hz hdz ne k1 k3 hG hw hp w6 q6 (by omega) fun H' s' hway => q H' z (s1.trans s') hway
theorem iw_cost (h : IsWy K C H0 te ws qs w us ms σ) : IsC K [] H0 (tMeth C "cost" (spCost K C) [] E0 te tNil) (.int (costQ qs ms)) σ := fun H Q e tr q => h H _ e fun H1 x s1 hw => by
  obtain ⟨dx, v1, v2, v3, v4, v5, h0, _⟩ := id hw.is
  exact ⟨x, dx, _, rfl, h0, f5_no (by decide +kernel), x, ws, qs, w, us, ms, rfl, hw, q H1 _ s1 (.int _)⟩
theorem iw_neg (h : IsWy K C H0 t1 ws qs w us ms σ) (hG : NetG ws qs) (hw : w ∈ ws) (hp : path qs (w :: us) ms) (w6 : ws.length ≤ 60) (q6 : qs.length ≤ 60) (lm : ms.length ≤ 1000) :
    IsWy K C H0 (tUn (rOwn1 C (spNeg K C)) t1) ws qs (us.getLastD w) ((w :: us).dropLast.reverse) (revR ms) σ := fun H Q e q => h H _ e fun H1 x s1 hx => by
  obtain ⟨dx, v1, v2, v3, v4, v5, h0, _⟩ := id hx.is
  exact ⟨x, dx, _, rfl, h0, x, ws, qs, w, us, ms, rfl, hx, hG, hw, hp, w6, q6, lm, fun H' z s hz => q H' z (s1.trans s) hz⟩
end
theorem eqv_str {a b : Str} : PyData.eqv (.str a) (.str b) = decide (a = b) := by
  rw [PyData.eqv]
  by_cases h : a = b
  · rw [decide_eq_true h, beq_iff_eq]
    exact h
  · rw [decide_eq_false h]
    exact beq_eq_false_iff_ne.mpr h
theorem eqv_int {a b : Int} : PyData.eqv (.int a) (.int b) = decide (a = b) := by
  rw [PyData.eqv]
  by_cases h : a = b
  · rw [decide_eq_true h, beq_iff_eq]
    exact h
  · rw [decide_eq_false h]
    exact beq_eq_false_iff_ne.mpr h
theorem eqv_q {q p : QD} : PyData.eqv (q.d true) (p.d true) = true ↔ q = p := by
  unfold QD.d seqD
  simp only [if_pos]
  rw [show PyData.eqv (.tuple [.str q.nm, .str q.st, .str q.en, .int q.room, .int q.gap]) (.tuple [.str p.nm, .str p.st, .str p.en, .int p.room, .int p.gap]) = PyData.eqvAll [.str q.nm, .str q.st, .str q.en, .int q.room, .int q.gap] [.str p.nm, .str p.st, .str p.en, .int p.room, .int p.gap] by unfold PyData.eqv; rfl]
  simp only [PyData.eqvAll, eqv_str, eqv_int, Bool.and_true, Bool.and_eq_true, decide_eq_true_eq]
  constructor
  · rintro ⟨h1, h2, h3, h4, h5⟩
    obtain ⟨a, b, c, d, e⟩ := q
    obtain ⟨a', b', c', d', e'⟩ := p
    dsimp only at h1 h2 h3 h4 h5
    subst h1 h2 h3 h4 h5
    rfl
  · rintro rfl
    exact ⟨rfl, rfl, rfl, rfl, rfl⟩
def unQD : PyData → QD
  | .tuple [.str a, .str b, .str c, .int d, .int e] => ⟨a, b, c, d, e⟩
  | _ => ⟨default, default, default, 0, 0⟩
theorem unQD_d (q : QD) : unQD (q.d true) = q := rfl
theorem perm_qs {l : List PyData} {q2 : List QD} (h : l.Perm (q2.map (QD.d true))) : ∃ q3 : List QD, l = q3.map (QD.d true) ∧ q3.Perm q2 := by
  obtain ⟨q3, h1, _, _⟩ := perm_rows h
  refine ⟨q3, h1, ?_⟩
  rw [h1] at h
  have h2 := h.map unQD
  rw [List.map_map, List.map_map] at h2
  have e : unQD ∘ QD.d true = id := funext unQD_d
  rw [e, List.map_id, List.map_id] at h2
  exact h2
/-- tuple(sorted(rows)), rows a list of queues -/
theorem sort_qs {K : PySem.W.Frag} {H : Hp} {p : Addr} {vs : List V} {q2 : List QD} {Q : V → Hp → Prop} (hp : H p = some (.lst vs)) (hd : DpAll K H vs (q2.map (QD.d true)))
    (q : ∀ q3 : List QD, q3.Perm q2 → ∀ t ys H', Same H H' → H t = none → H' t = some (.lst ys) → DpAll K H' ys (q3.map (QD.d true)) → Q (.ref t) H') : rSortD K [.ref p] H Q := by
  have fl2 := dpa_len hd
  have hall := all_of_dpa hd
  have zf : (vs.zip (q2.map (QD.d true))).map (·.1) = vs := zip_fst fl2
  have zs : (vs.zip (q2.map (QD.d true))).map (·.2) = q2.map (QD.d true) := zip_snd fl2
  generalize vs.zip (q2.map (QD.d true)) = zp at hall zf zs
  refine ⟨p, zp, rfl, by rw [zf]; exact sql_of hp, hall, ?_, ?_, ?_, fun p12 hp12 => ?_⟩
  · rw [zs]
    exact q_alike
  · rw [zs]
    exact q_sortable
  · intro x hx
    have : x.2 ∈ q2.map (QD.d true) := by
      rw [← zs]
      exact List.mem_map.mpr ⟨x, hx, rfl⟩
    obtain ⟨q', _, e⟩ := List.mem_map.mp this
    rw [← e]
    exact Nat.le_trans q_depth (by decide)
  · generalize hso : zp.mergeSort (PySem.W.dataLe false (·.2)) = so
    have hperm : so.Perm zp := by
      rw [← hso]
      exact List.mergeSort_perm _ _
    obtain ⟨q3, hq3, hq3p⟩ : ∃ q3 : List QD, so.map (·.2) = q3.map (QD.d true) ∧ q3.Perm q2 := by
      have hp2 := hperm.map (·.2)
      rw [zs] at hp2
      exact perm_qs hp2
    have hd3 : DpAll K H (so.map (·.1)) (q3.map (QD.d true)) := by
      rw [← hq3]
      exact dpa_of_all fun x hx => hall x (hperm.mem_iff.mp hx)
    exact q q3 hq3p p12 _ _ (.upd hp12) hp12 upd_same ((Same.upd hp12).dpa hd3)
section
variable {K : PySem.W.Frag} {S : List Addr} {H0 : Hp} {σ : L2.St} {E : XK} {i j : Nat} {v : V} {fb : Bool} {ws : List Str} {qs : List QD} {g : List (List Mk)}
theorem ic_slackO (hi : σ[i]? = some (some v)) (hd : Dp K H0 v (netD fb ws qs)) (hR : NetR ws qs g) : IsC K [] H0 (tCall (spSlack K) [] E (tCons (tVar i) tNil)) (optD (minO (g.map (costQ qs)))) σ := fun H Q e tr q =>
  ⟨_, hi, v, fb, ws, qs, g, rfl, e.dp hd, hR, fun H' s1 => q H' _ s1 (by rw [minV_opt]; exact dp_opt)⟩
theorem ic_fewO (hi : σ[i]? = some (some v)) (hd : Dp K H0 v (netD fb ws qs)) (hR : NetR ws qs g) : IsC K [] H0 (tCall (spFew K) [] E (tCons (tVar i) tNil)) (optD (fewF qs g)) σ := fun H Q e tr q =>
  ⟨_, hi, v, fb, ws, qs, g, rfl, e.dp hd, hR, fun H' s1 => q H' _ s1 dp_opt⟩
theorem ic_neverO (hi : σ[i]? = some (some v)) (hd : Dp K H0 v (netD fb ws qs)) (hN : NetN ws qs) : IsC K [] H0 (tCall (spNever K) [] E (tCons (tVar i) tNil)) (.bool (neverF ws qs)) σ := fun H Q e tr q =>
  ⟨_, hi, v, fb, ws, qs, rfl, e.dp hd, hN, fun H' s1 => q H' _ s1 (.bl _)⟩
theorem ic_earlyL {ds : List PyData} (hi : σ[i]? = some (some v)) (hd : Dp K H0 v (netD fb ws qs)) (ne : ∀ q ∈ qs, q.st ≠ q.en) (nd : ws.Nodup) (l1 : ws.length ≤ 400) (l2 : qs.length ≤ 400) (hE : ∀ n t, LowEnd (arcsF 1 0 qs) n ⟨zeroL (ws.filter (lasB (arcsF 1 0 qs))), [], true⟩ t → earlyD ws t = .tuple ds) : IsC K [] H0 (tCB (fun xs H_1 Q => ∃ p ys, xs = [V.ref p] ∧ (SqL K H_1 p ys ∨ SqT K H_1 p ys) ∧ ∀ (l : Addr), H_1 l = none → Q (V.ref l) (upd H_1 l (HO.lst ys))) (tCons (tCall (spEarliest K) [] E (tCons (tVar i) tNil)) tNil)) (.list ds) σ := fun H Q e tr q => by
  refine ⟨_, hi, v, fb, ws, qs, rfl, e.dp hd, ne, nd, l1, l2, fun HF u n t sF h du => ?_⟩
  rw [hE n t h] at du
  obtain ⟨a, xs, rfl, hs, hx⟩ := Dp.seq_of (f := true) (show Dp K HF u (seqD true ds) from du)
  refine ⟨a, xs, rfl, .inr hs, fun l hl => ?_⟩
  refine q _ _ (sF.trans (.upd hl)) ?_
  rw [cutS_nil]
  exact .lst (sql_of upd_same) ((Same.upd hl).dpa hx)
end
end Jl

set_option Elab.async false
set_option linter.all false
set_option maxRecDepth 100000
set_option maxHeartbeats 1000000
set_option pp.maxSteps 300
namespace Jl
open PySem PySem.Spec PyProof.Rows L2
open Evl (sz_of sz_lt)
local macro_rules | `(tactic| walk_at "at") => `(tactic| first | exact box0 | exact box1 | exact box2)
local macro_rules | `(tactic| walk_at "sq") => `(tactic| first | (show SqL _ _ _ _; assumption) | (show SqT _ _ _ _; assumption) | (show _ = some _; assumption))
local macro_rules | `(tactic| walk_at "side") => `(tactic| first
  | (show (0 : Int) < _; decide)
  | (show (0 : Int) < _; omega)
  | exact ⟨by decide, by decide, by decide⟩
  | exact sz_of (Nat.le_of_ble_eq_true rfl)
  | exact rfl
  | exact Or.inl (by decide)
  | exact Or.inr (by decide)
  | exact Or.inr ⟨by omega, by omega⟩
  | exact Or.inl ⟨by omega, by omega⟩
  | exact ⟨by decide, by decide +kernel⟩)
local macro_rules | `(tactic| walk_at "ev1") => `(tactic| first
  | refine ⟨_, rfl, ?_⟩
  | refine ⟨_, _, rfl, rfl, ?_⟩
  | refine ⟨_, _, _, _, rfl, rfl, (by walk_at "sq"), (by walk_at "at"), ?_⟩
  | refine ⟨_, _, rfl, (by walk_at "sq"), ?_⟩
  | refine ⟨_, _, rfl, Or.inl (by walk_at "sq"), ?_⟩
  | refine ⟨_, _, rfl, Or.inr (by walk_at "sq"), ?_⟩
  | refine Or.inl ⟨_, rfl, ?_⟩
  | refine Or.inr ⟨_, rfl, ?_⟩
  | refine ⟨(by walk_at "side"), ?_⟩
  | refine ⟨.inl ⟨rfl, _, (by walk_at "sq")⟩, ?_⟩
  | refine ⟨_, _, rfl, ?_⟩)
local macro_rules | `(tactic| walk_at "nrm") => `(tactic| dsimp only [tNil, tCons, tC, tCB])
local macro_rules | `(tactic| walk_at "ev") => `(tactic| repeat (walk_at "ev1"))
abbrev sc_w_parted_N : List Str := ["_law_box_here", "_law_row", "_law_one", "_law_two", "_law_least", "_law_most", "_law_quiet"]
abbrev s_w_parted : Stmt := topS 37
theorem sc_w_parted : FnScope ["_law_box_here", "_law_row", "_law_one", "_law_two", "_law_least", "_law_most", "_law_quiet"] ["_law_box_here", "_law_row"] (defScope s_w_parted) := ⟨rfl, rfl, rfl, by decide +kernel, rfl, by decide +kernel, by decide +kernel⟩
section
variable {P : Program} {w : World} {K : PySem.W.Frag} {mg : Str → Option Value} {base : Heap}
def prD2 (a b c d : Int) : PyData := .tuple [.tuple [.int a, .int b], .tuple [.int c, .int d]]
structure PartQ (q : QD) (r1 g1 r2 g2 : Int) : Prop where
  b1 : 1 ≤ g1 ∧ g1 ≤ r1
  b2 : 1 ≤ g2 ∧ g2 ≤ r2
  rm : r1 + r2 = q.room
  gp : (g1 - 1) + (g2 - 1) = q.gap - 1
def spPartW (K : PySem.W.Frag) : Sp := fun vs H Q _ => ∃ (b : Addr) (v : V) (q : QD) (bx : List V) (N : Nat), vs = [.ref b, v] ∧ H b = some (.lst bx) ∧ BoxL bx N ∧ N < 2 ^ 50 ∧ Dp K (cutS [b] H) v (q.d true) ∧ 1 ≤ q.gap ∧ q.gap < q.room ∧ q.room ≤ 10 ^ 9 ∧
  ∀ (H' : Hp) (u : V) (bx' : List V) (r1 g1 r2 g2 : Int), PartQ q r1 g1 r2 g2 → Dp K (cutS [b] H') u (prD2 r1 g1 r2 g2) → H' b = some (.lst bx') → BoxL bx' (N + 2) → Same (cutS [b] H) (cutS [b] H') → Q u H'
theorem ok_w_parted {f fT : Addr} {fd fdT : FuncData} {k : Nat} (F : Fun K "_law_parted" "_law_parted" s_w_parted f fd)
    (G_w_take : FnOk P w K mg base CX0 k fT fdT ["_law_box_here", "_law_below"] spTake2) (g_w_take : mg "_law_take" = some (.ref fT)) (F_w_take : Fun K "_law_take" "_law_take" s_w_take fT fdT) (b_w_take : Binds K fdT ["_law_box_here", "_law_below"] [])
    (m_max : mg "max" = none) (m_min : mg "min" = none) : FnOk P w K mg base CX0 (k + 1) f fd ["_law_box_here", "_law_row"] (spPartW K) := by
  refine F.ok sc_w_parted (fun vs H Q E h => ?_) (fun cdv A outer s0 H vs Q E hr h => ?_)
  · obtain ⟨b, v, q, bx, N, rfl, _⟩ := h
    rfl
  · obtain ⟨b, v, q, bx, N, rfl, hb, hB, hN, hD, g1, g2, g3, k0⟩ := h
    refine ⟨_, (pss_cons (ps_set (i := 2) sc_w_parted.nd rfl (Or.inl rfl) (pe_op op_add pe_int (pe_call G_w_take hr (by rfl) g_w_take F_w_take.kp b_w_take .nil pass0 (pa_cons (pv 0) (pa_cons (pe_op op_sub (pe_ix ix_lt (pv 1) pe_int (fun _ _ => rfl)) pe_int) pa_nil))))) 
    (pss_cons (ps_set (i := 3) sc_w_parted.nd rfl (Or.inl rfl) (pe_op op_sub (pe_ix ix_lt (pv 1) pe_int (fun _ _ => rfl)) (pv 2))) 
    (pss_cons (ps_par (i := 4) (j := 5) (by rfl) sc_w_parted.nd rfl rfl (by decide) rfl rfl (pa_cons (pe_callB (call_max2 rfl) (by rfl) m_max (by decide +kernel) (pa_cons pe_int (pa_cons (pe_op op_sub (pe_ix ix_lt (pv 1) pe_int (fun _ _ => rfl)) (pv 3)) pa_nil))) (pa_cons (pe_callB (call_min2 rfl) (by rfl) m_min (by decide +kernel) (pa_cons (pe_op op_sub (pv 2) pe_int) (pa_cons (pe_op op_sub (pe_ix ix_lt (pv 1) pe_int (fun _ _ => rfl)) pe_int) pa_nil))) pa_nil)) (by rfl)) 
    (pss_cons (ps_set (i := 6) sc_w_parted.nd rfl (Or.inl rfl) (pe_op op_add (pv 4) (pe_call G_w_take hr (by rfl) g_w_take F_w_take.kp b_w_take .nil pass0 (pa_cons (pv 0) (pa_cons (pe_op op_add (pe_op op_sub (pv 5) (pv 4)) pe_int) pa_nil))))) 
    (pss_one (ps_ret (pe_tup (pa_cons (pe_tup (pa_cons (pv 2) (pa_cons (pe_op op_add (pv 6) pe_int) pa_nil))) (pa_cons (pe_tup (pa_cons (pv 3) (pa_cons (pe_op op_sub (pe_ix ix_lt (pv 1) pe_int (fun _ _ => rfl)) (pv 6)) pa_nil))) pa_nil))))))))), ?_⟩
    obtain ⟨a, rfl, hs⟩ := dp_q hD
    have at3 : ∀ (H' : Hp) (Q : VK), Same (cutS [b] H) (cutS [b] H') → Q (.int q.room) H' → rIxF K (.ref a) (.int 3) H' Q := fun H' Q e h => rIxF_at (f := true) (cutS_le.sqF (e.sqF hs)) (atI_nat (j := 3) rfl) h
    have at4 : ∀ (H' : Hp) (Q : VK), Same (cutS [b] H) (cutS [b] H') → Q (.int q.gap) H' → rIxF K (.ref a) (.int 4) H' Q := fun H' Q e h => rIxF_at (f := true) (cutS_le.sqF (e.sqF hs)) (atI_nat (j := 4) rfl) h
    have e0 : Same (cutS [b] H) (cutS [b] H) := fun _ _ e => e
    rw [show L2.start (["_law_box_here", "_law_row", "_law_one", "_law_two", "_law_least", "_law_most", "_law_quiet"] : List Str) [.ref b, .ref a] = [some (.ref b), some (.ref a), none, none, none, none, none] from rfl]
    refine asg_of ?_
    walk_at "ev"
    refine at3 _ _ e0 ?_
    walk_at "ev"
    refine ⟨b, q.room - 1, bx, N, rfl, hb, hB, by omega, by omega, small8000 (by omega), fun o bx1 o0 o1 hB1 => ?_⟩
    have hb1 : (upd H b (.lst bx1)) b = some (.lst bx1) := upd_same
    have e1 : Same (cutS [b] H) (cutS [b] (upd H b (.lst bx1))) := by
      rw [cutS_upd List.mem_cons_self]
      exact e0
    generalize upd H b (.lst bx1) = H1 at hb1 e1 ⊢
    walk_at "ev"
    refine at3 _ _ e1 ?_
    dsimp only [List.set]
    walk_at "ev"
    refine at4 _ _ e1 ?_
    walk_at "ev"
    refine at4 _ _ e1 ?_
    walk_at "ev"
    generalize hL : (if q.gap - (q.room - (1 + o)) > 0 then q.gap - (q.room - (1 + o)) else 0) = L
    generalize hM : (if q.gap - 1 < 1 + o - 1 then q.gap - 1 else 1 + o - 1) = M
    have hL2 : 0 ≤ L ∧ q.gap - (q.room - (1 + o)) ≤ L ∧ L ≤ M ∧ M ≤ o ∧ M ≤ q.gap - 1 := by
      rw [← hL, ← hM]
      split <;> split <;> omega
    clear hL hM
    refine ⟨b, M - L + 1, bx1, N + 1, rfl, hb1, hB1, by omega, by omega, small8000 (by omega), fun z bx2 z0 z1 hB2 => ?_⟩
    have hb2 : (upd H1 b (.lst bx2)) b = some (.lst bx2) := upd_same
    have e2 : Same (cutS [b] H) (cutS [b] (upd H1 b (.lst bx2))) := by
      rw [cutS_upd List.mem_cons_self]
      exact e1
    generalize upd H1 b (.lst bx2) = H2 at hb2 e2 ⊢
    refine ⟨_, _, rfl, rfl, ?_⟩
    dsimp only [tNext, List.set]
    refine (ic_tup (K := K) (S := [b]) (H0 := H2) (ac_cons (ic_tup (ac_cons (ic_var rfl (.int _)) (ac_cons (ic_add (ic_var rfl (.int _)) ic_int) ac_nil)) (by show 2 ≤ 1000; decide)) (ac_cons (ic_tup (ac_cons (ic_var rfl (.int _)) (ac_cons (ic_sub (ic_at (fb := true) (ds := [.str q.nm, .str q.st, .str q.en, .int q.room, .int q.gap]) 4 (ic_var rfl (e2.dp hD)) rfl) (ic_var rfl (.int _))) ac_nil)) (by show 2 ≤ 1000; decide)) ac_nil)) (by show 2 ≤ 1000; decide)) H2 _ (fun _ _ e => e) (Trk.cons Trk.nil hb2) fun H3 u s3 du => ?_
    exact k0 H3 u bx2 (1 + o) (L + z + 1) (q.room - (1 + o)) (q.gap - (L + z)) ⟨⟨by omega, by omega⟩, ⟨by omega, by omega⟩, by omega, by omega⟩ du (s3 _ _ hb2) hB2 (e2.trans (cutS_mono s3))
end
end Jl

set_option Elab.async false
set_option linter.all false
set_option maxRecDepth 100000
set_option maxHeartbeats 1000000
set_option pp.maxSteps 300
namespace Jl
open PySem PySem.Spec PyProof.Rows L2
open Evl (sz_of sz_lt)
local macro_rules | `(tactic| walk_at "at") => `(tactic| first | exact box0 | exact box1 | exact box2)
local macro_rules | `(tactic| walk_at "sq") => `(tactic| first | (show SqL _ _ _ _; assumption) | (show SqT _ _ _ _; assumption) | (show _ = some _; assumption))
local macro_rules | `(tactic| walk_at "side") => `(tactic| first
  | (show (0 : Int) < _; decide)
  | (show (0 : Int) < _; omega)
  | exact ⟨by decide, by decide, by decide⟩
  | exact sz_of (Nat.le_of_ble_eq_true rfl)
  | exact rfl
  | exact Or.inl (by decide)
  | exact Or.inr (by decide)
  | exact Or.inr ⟨by omega, by omega⟩
  | exact Or.inl ⟨by omega, by omega⟩
  | exact ⟨by decide, by decide +kernel⟩)
local macro_rules | `(tactic| walk_at "ev1") => `(tactic| first
  | refine ⟨_, rfl, ?_⟩
  | refine ⟨_, _, rfl, rfl, ?_⟩
  | refine ⟨_, _, _, _, rfl, rfl, (by walk_at "sq"), (by walk_at "at"), ?_⟩
  | refine ⟨_, _, rfl, (by walk_at "sq"), ?_⟩
  | refine ⟨_, _, rfl, Or.inl (by walk_at "sq"), ?_⟩
  | refine ⟨_, _, rfl, Or.inr (by walk_at "sq"), ?_⟩
  | refine Or.inl ⟨_, rfl, ?_⟩
  | refine Or.inr ⟨_, rfl, ?_⟩
  | refine ⟨(by walk_at "side"), ?_⟩
  | refine ⟨.inl ⟨rfl, _, (by walk_at "sq")⟩, ?_⟩
  | refine ⟨_, _, rfl, ?_⟩)
local macro_rules | `(tactic| walk_at "nrm") => `(tactic| dsimp only [tNil, tCons, tC, tCB])
local macro_rules | `(tactic| walk_at "ev") => `(tactic| repeat (walk_at "ev1"))
abbrev sc_w_both_right_N : List Str := ["_law_web_here", "_law_row", "_law_first", "_law_last", "_law_found", "_law_other", "_law_told", "_law_ends_so", "_law_road", "_law_also", "_law_own", "_law_tag"]
abbrev s_w_both_right : Stmt := topS 38
theorem sc_w_both_right : FnScope ["_law_web_here", "_law_row", "_law_first", "_law_last", "_law_found", "_law_other", "_law_told", "_law_ends_so", "_law_road", "_law_also", "_law_own", "_law_tag"] ["_law_web_here", "_law_row", "_law_first", "_law_last"] (defScope s_w_both_right) := ⟨rfl, rfl, rfl, by decide +kernel, rfl, by decide +kernel, by decide +kernel⟩
/-! ### the NET with one queue, and with two in its place -/
def nmMid : Str := Str.ofString "mid"
def nmB : Str := Str.ofString "b.b"
def nmZ : Str := Str.ofString "zz"
theorem nm_bz : nmB ≠ nmZ := by decide +kernel
theorem ok_nms : PyData.strOk nmMid = true ∧ PyData.strOk nmB = true ∧ PyData.strOk nmZ = true := by decide +kernel
structure NM (ws : List Str) (qs : List QD) : Prop where
  nd : ws.Nodup
  w1 : ws ≠ []
  w6 : ws.length ≤ 5
  q8 : qs.length ≤ 7
  ng : NetG ws qs
  bd : ∀ q ∈ qs, 1 ≤ q.gap ∧ q.gap ≤ q.room ∧ q.room ≤ 10 ^ 8
  ow : ∀ x ∈ ws, PyData.strOk x = true
  oq : ∀ q ∈ qs, PyData.strOk q.nm = true
  nm : nmMid ∉ ws
  nb : nmB ∉ qs.map QD.nm
  nz : nmZ ∉ qs.map QD.nm
def q1M (q : QD) (r g : Int) : QD := ⟨nmB, q.st, nmMid, r, g⟩
def q2M (q : QD) (r g : Int) : QD := ⟨nmZ, nmMid, q.en, r, g⟩
def keepB (q0 q : QD) : Bool := !PyData.eqv (q.d true) (q0.d true)
theorem keepB_iff {q0 q : QD} : keepB q0 q = true ↔ q ≠ q0 := by
  unfold keepB
  rw [Bool.not_eq_true', ← Bool.not_eq_true, eqv_q]
def restM (qs : List QD) (q0 : QD) (r1 g1 r2 g2 : Int) : List QD := qs.filter (keepB q0) ++ [q1M q0 r1 g1, q2M q0 r2 g2]
theorem rest_mid {ws : List Str} {qs qs' : List QD} {q0 : QD} {r1 g1 r2 g2 : Int} (h : NM ws qs) (h0 : q0 ∈ qs) (hp : PartQ q0 r1 g1 r2 g2) (hq : qs'.Perm (restM qs q0 r1 g1 r2 g2)) : MidQ qs qs' q0 (q1M q0 r1 g1) (q2M q0 r2 g2) nmMid := by
  have g := h.ng.q1 q0 h0
  refine ⟨h0, fun q => ?_, rfl, rfl, rfl, rfl, hp.rm, hp.gp, g.2.2, fun q hq2 => ?_, hp.b1, hp.b2⟩
  · rw [hq.mem_iff]
    unfold restM
    rw [List.mem_append, List.mem_filter, keepB_iff, List.mem_cons, List.mem_singleton]
  · have k := h.ng.q1 q hq2
    exact ⟨fun e => h.nm (by rw [← e]; exact k.1), fun e => h.nm (by rw [← e]; exact k.2.1)⟩
theorem filter_len {ws : List Str} {qs : List QD} (hG : NetG ws qs) {q0 : QD} (h0 : q0 ∈ qs) : (qs.filter (keepB q0)).length + 1 ≤ qs.length := by
  obtain ⟨a, c, rfl⟩ := List.append_of_mem h0
  rw [List.filter_append, List.filter_cons_of_neg (by rw [keepB_iff]; exact fun h => h rfl), List.length_append, List.length_append, List.length_cons]
  have := List.length_filter_le (keepB q0) a
  have := List.length_filter_le (keepB q0) c
  omega
theorem rest_net {ws ws' : List Str} {qs qs' : List QD} {q0 : QD} {r1 g1 r2 g2 : Int} (h : NM ws qs) (h0 : q0 ∈ qs) (hp : PartQ q0 r1 g1 r2 g2) (hw : ws'.Perm (ws ++ [nmMid])) (hq : qs'.Perm (restM qs q0 r1 g1 r2 g2)) :
    ws'.Nodup ∧ NetG ws' qs' ∧ ws'.length ≤ 6 ∧ qs'.length ≤ 8 ∧ ws' ≠ [] ∧ (∀ q ∈ qs', q.gap ≤ q.room) := by
  have lw := hw.length_eq
  have lq := hq.length_eq
  have fl := filter_len h.ng h0
  have w6 := h.w6
  have q8 := h.q8
  have mw : ∀ x, x ∈ ws' ↔ x ∈ ws ∨ x = nmMid := fun x => by rw [hw.mem_iff, List.mem_append, List.mem_singleton]
  have M := rest_mid h h0 hp hq
  rw [List.length_append] at lw
  unfold restM at lq
  rw [List.length_append] at lq
  refine ⟨hw.nodup_iff.mpr (List.nodup_append.mpr ⟨h.nd, by simp, fun a ha b hb e => ?_⟩), ⟨fun q hq2 => ?_, ?_⟩, ?_, ?_, fun e => ?_, fun q hq2 => ?_⟩
  · rw [List.mem_singleton] at hb
    rw [e, hb] at ha
    exact h.nm ha
  · obtain ⟨k1, k2, k3⟩ := h.ng.q1 q0 h0
    rcases (M.mem q).mp hq2 with h3 | rfl | rfl
    · obtain ⟨j1, j2, j3⟩ := h.ng.q1 q h3.1
      exact ⟨(mw _).mpr (.inl j1), (mw _).mpr (.inl j2), j3⟩
    · exact ⟨(mw _).mpr (.inl k1), (mw _).mpr (.inr rfl), fun e => h.nm (by rw [← show q0.st = nmMid from e]; exact k1)⟩
    · exact ⟨(mw _).mpr (.inr rfl), (mw _).mpr (.inl k2), fun e => h.nm (by rw [show nmMid = q0.en from e]; exact k2)⟩
  · rw [(hq.map QD.nm).nodup_iff]
    unfold restM
    rw [List.map_append, List.nodup_append]
    refine ⟨h.ng.nn.sublist (List.filter_sublist.map _), ?_, fun a ha b hb e => ?_⟩
    · show [nmB, nmZ].Nodup
      simp [nm_bz]
    · have ha2 : a ∈ qs.map QD.nm := (List.filter_sublist.map QD.nm).subset ha
      have hb : b ∈ [nmB, nmZ] := hb
      rcases mem2 hb with rfl | rfl
      · exact h.nb (by rw [← e]; exact ha2)
      · exact h.nz (by rw [← e]; exact ha2)
  · simp at lw
    omega
  · simp at lq
    omega
  · rw [e] at lw
    simp at lw
  · rcases (M.mem q).mp hq2 with h3 | rfl | rfl
    · exact (h.bd q h3.1).2.1
    · exact hp.b1.2
    · exact hp.b2.2
theorem net_r {ws : List Str} {qs : List QD} (nd : ws.Nodup) (ng : NetG ws qs) (w6 : ws.length ≤ 6) (q8 : qs.length ≤ 8) : ∃ g, NetR ws qs g := by
  have sm := small_68 w6 q8
  obtain ⟨g, hg⟩ := Rn.total ng _ (startP ws) (Nat.lt_succ_self _) start_ok
  exact ⟨g, nd, ng, by omega, sm, by omega, hg⟩
theorem okD_l3 {a b c : PyData} (ha : okD 4 a) (hb : okD 4 b) (hc : okD 4 c) : okD 5 (.list [a, b, c]) := by
  refine (okD_seq (f := false)).mpr ⟨by show 3 ≤ 4000000; decide, fun d hd => ?_⟩
  rcases mem3 hd with rfl | rfl | rfl
  · exact ha
  · exact hb
  · exact hc
theorem okD_opt {o : Option Int} : okD 4 (optD o) := by
  cases o <;> exact trivial
section
variable {P : Program} {w : World} {K : PySem.W.Frag} {mg : Str → Option Value} {base : Heap}
def spBoth (K : PySem.W.Frag) : Sp := fun vs H Q _ => ∃ (v rv fv lv : V) (ws : List Str) (qs : List QD) (q0 : QD) (r1 g1 r2 g2 : Int), vs = [v, rv, fv, lv] ∧ Dp K H v (netD true ws qs) ∧ Dp K H rv (q0.d true) ∧ Dp K H fv (.tuple [.int r1, .int g1]) ∧ Dp K H lv (.tuple [.int r2, .int g2]) ∧
  NM ws qs ∧ q0 ∈ qs ∧ PartQ q0 r1 g1 r2 g2 ∧ ∀ H', Same H H' → Q (.bl true) H'
theorem ok_w_both_right {f fE fS fN fF fA fI fG fC C : Addr} {fd fdE fdS fdN fdF fdA fdI fdG fdC : FuncData} {k : Nat} (F : Fun K "_law_both_right" "_law_both_right" s_w_both_right f fd) (T_Way : TWay K C) (M_Way : L2.Mk K C fI) (mg_Way : mg "Way" = some (.ref C))
    (mt_Way_cost : Meth K C "cost" fC) (mt_Way_neg : Meth K C "__neg__" fG)
    (G_w_same : FnOk P w K mg base CX0 k fE fdE ["_law_got", "_law_due"] (spSame K 5)) (g_w_same : mg "_law_same" = some (.ref fE)) (F_w_same : Fun K "_law_same" "_law_same" s_w_same fE fdE) (b_w_same : Binds K fdE ["_law_got", "_law_due"] [])
    (G_slack : FnOk P w K mg base CX0 k fS fdS ["net"] (spSlack K)) (g_slack : mg "slack" = some (.ref fS)) (F_slack : Fun K "slack" "slack" s_slack fS fdS) (b_slack : Binds K fdS ["net"] [])
    (G_never_held : FnOk P w K mg base CX0 k fN fdN ["net"] (spNever K)) (g_never_held : mg "never_held" = some (.ref fN)) (F_never_held : Fun K "never_held" "never_held" s_never_held fN fdN) (b_never_held : Binds K fdN ["net"] [])
    (G_fewest_drops : FnOk P w K mg base CX0 k fF fdF ["net"] (spFew K)) (g_fewest_drops : mg "fewest_drops" = some (.ref fF)) (F_fewest_drops : Fun K "fewest_drops" "fewest_drops" s_fewest_drops fF fdF) (b_fewest_drops : Binds K fdF ["net"] [])
    (G_earliest : FnOk P w K mg base CX0 k fA fdA ["net"] (spEarliest K)) (g_earliest : mg "earliest" = some (.ref fA)) (F_earliest : Fun K "earliest" "earliest" s_earliest fA fdA) (b_earliest : Binds K fdA ["net"] [])
    (G_Way_init : FnOk P w K mg base CX0 k fI fdI ["self", "net", "start", "queues"] (spInit K C)) (b_Way_init : Binds K fdI ["self", "net", "start", "queues"] [])
    (G_Way_cost : FnOk P w K mg base CX0 k fC fdC ["self"] (spCost K C)) (b_Way_cost : Binds K fdC ["self"] [])
    (G_Way_neg : FnOk P w K mg base CX0 k fG fdG ["self"] (spNeg K C)) (b_Way_neg : Binds K fdG ["self"] [])
    (m_sorted : mg "sorted" = none) (m_tuple : mg "tuple" = none) (m_list : mg "list" = none) : FnOk P w K mg base CX0 (k + 1 + 1) f fd ["_law_web_here", "_law_row", "_law_first", "_law_last"] (spBoth K) := by
  refine F.ok sc_w_both_right (fun vs H Q E h => ?_) (fun cdv A outer s0 H vs Q E hr2 h => ?_)
  · obtain ⟨v, rv, fv, lv, ws, qs, q0, r1, g1, r2, g2, rfl, _⟩ := h
    rfl
  · obtain ⟨v, rv, fv, lv, ws, qs, q0, r1, g1, r2, g2, rfl, hD, hR, hF, hL, hM, h0, hP, kq⟩ := h
    have hr := hr2.mono (Nat.le_succ k)
    refine ⟨_, (pss_cons (ps_setLcX (ps_setLc (i := 4) (own := [("_law_own", 10)]) (g := gName 10) (tt := (tTest (tOp (rNeD K) (tVar 10) (tVar 1)))) rfl sc_w_both_right.nd rfl rfl (sw_true rfl rfl rfl (by decide +kernel)) (pi_seq (pe_ix ix_lt (pv 0) pe_int (fun _ _ => rfl))) (blkOk_by (own := [("_law_own", 10)]) (N := sc_w_both_right_N) (sc := defScope s_w_both_right) (by decide +kernel)) (fun _ _ _ _ _ => pg_name (i := 10) sc_w_both_right.nd rfl (Or.inl rfl)) (fun _ _ _ _ _ => (pts_one (pt_cmpR (op_neD hr.units) (pv 10) (pv 1) (nomark _)))) (fun _ _ _ _ _ => (pv 10)))) 
    (pss_cons (ps_set (i := 4) sc_w_both_right.nd rfl (Or.inl rfl) (pe_op op_cat (pv 4) (pe_lst (pa_cons (pe_tup (pa_cons pe_str (pa_cons (pe_ix ix_lt (pv 1) pe_int (fun _ _ => rfl)) (pa_cons pe_str (pa_cons (pe_ix ix_lt (pv 2) pe_int (fun _ _ => rfl)) (pa_cons (pe_ix ix_lt (pv 2) pe_int (fun _ _ => rfl)) pa_nil)))))) (pa_cons (pe_tup (pa_cons pe_str (pa_cons pe_str (pa_cons (pe_ix ix_lt (pv 1) pe_int (fun _ _ => rfl)) (pa_cons (pe_ix ix_lt (pv 3) pe_int (fun _ _ => rfl)) (pa_cons (pe_ix ix_lt (pv 3) pe_int (fun _ _ => rfl)) pa_nil)))))) pa_nil))))) 
    (pss_cons (ps_set (i := 5) sc_w_both_right.nd rfl (Or.inr rfl) (pe_tup (pa_cons (pe_callTy call_tupF (by rfl) m_tuple (by decide +kernel) (pa_cons (pe_callB cr_sortedS (by rfl) m_sorted (by decide +kernel) (pa_cons (pe_op op_cat (pe_callTy call_list_of (by rfl) m_list (by decide +kernel) (pa_cons (pe_ix ix_lt (pv 0) pe_int (fun _ _ => rfl)) pa_nil)) (pe_lst (pa_cons pe_str pa_nil))) pa_nil)) pa_nil)) (pa_cons (pe_callTy call_tuple_of (by rfl) m_tuple (by decide +kernel) (pa_cons (pe_callB (cr_sortedD rfl hr.units) (by rfl) m_sorted (by decide +kernel) (pa_cons (pv 4) pa_nil)) pa_nil)) pa_nil)))) 
    (pss_cons (ps_set (i := 6) sc_w_both_right.nd rfl (Or.inl rfl) (pe_lst (pa_cons (pe_call G_slack hr (by rfl) g_slack F_slack.kp b_slack .nil pass0 (pa_cons (pv 5) pa_nil)) (pa_cons (pe_call G_never_held hr (by rfl) g_never_held F_never_held.kp b_never_held .nil pass0 (pa_cons (pv 5) pa_nil)) (pa_cons (pe_call G_fewest_drops hr (by rfl) g_fewest_drops F_fewest_drops.kp b_fewest_drops .nil pass0 (pa_cons (pv 5) pa_nil)) pa_nil))))) 
    (pss_cons (ps_if (pt_not (pt_val (pe_call G_w_same hr (by rfl) g_w_same F_w_same.kp b_w_same .nil pass0 (pa_cons (pv 6) (pa_cons (pe_lst (pa_cons (pe_call G_slack hr (by rfl) g_slack F_slack.kp b_slack .nil pass0 (pa_cons (pv 0) pa_nil)) (pa_cons (pe_call G_never_held hr (by rfl) g_never_held F_never_held.kp b_never_held .nil pass0 (pa_cons (pv 0) pa_nil)) (pa_cons (pe_call G_fewest_drops hr (by rfl) g_fewest_drops F_fewest_drops.kp b_fewest_drops .nil pass0 (pa_cons (pv 0) pa_nil)) pa_nil)))) pa_nil))))) (pss_one (ps_ret pe_bl)) pss_nil) 
    (pss_cons (ps_set (i := 7) sc_w_both_right.nd rfl (Or.inr rfl) (pe_call G_earliest hr (by rfl) g_earliest F_earliest.kp b_earliest .nil pass0 (pa_cons (pv 5) pa_nil))) 
    (pss_cons (ps_if (pt_not (pt_val (pe_call G_w_same hr (by rfl) g_w_same F_w_same.kp b_w_same .nil pass0 (pa_cons (pe_lcX (pe_lc (own := [("_law_tag", 11)]) (g := gName 11) (tt := tYes) (te := (tOp (rIxF K) (tVar 7) (tBMT (rTupIxS K) (tOp (rIxF K) (tVar 5) (tC (.int 0))) (tCons (tVar 11) tNil)))) (by rfl) sc_w_both_right.nd (pi_seq (pe_ix ix_lt (pv 0) pe_int (fun _ _ => rfl))) (blkOk_by (own := [("_law_tag", 11)]) (N := sc_w_both_right_N) (sc := defScope s_w_both_right) (by decide +kernel)) (fun _ _ _ _ _ => pg_name (i := 11) sc_w_both_right.nd rfl (Or.inl rfl)) (fun _ _ _ _ _ => pts_nil) (fun _ _ _ _ _ => (pe_ix ix_lt (pv 7) (pe_tm PySem.F.slot_tuple_index PySem.F.type_tuple_index mt_tup_index (pe_ix ix_lt (pv 5) pe_int (fun _ _ => rfl)) (pa_cons (pv 11) pa_nil)) (fun _ _ => rfl))))) (pa_cons (pe_callTy call_list_of (by rfl) m_list (by decide +kernel) (pa_cons (pe_call G_earliest hr (by rfl) g_earliest F_earliest.kp b_earliest .nil pass0 (pa_cons (pv 0) pa_nil)) pa_nil)) pa_nil))))) (pss_one (ps_ret pe_bl)) pss_nil) 
    (pss_cons (ps_par (i := 8) (j := 9) (by rfl) sc_w_both_right.nd rfl rfl (by decide) rfl rfl (pa_cons (pe_make M_Way G_Way_init hr2 (by rfl) mg_Way b_Way_init .nil pass0 (pa_cons (pv 0) (pa_cons (pe_ix ix_lt (pv 1) pe_int (fun _ _ => rfl)) (pa_cons (pe_tup (pa_cons (pe_ix ix_lt (pv 1) pe_int (fun _ _ => rfl)) pa_nil)) pa_nil)))) (pa_cons (pe_make M_Way G_Way_init hr2 (by rfl) mg_Way b_Way_init .nil pass0 (pa_cons (pv 5) (pa_cons (pe_ix ix_lt (pv 1) pe_int (fun _ _ => rfl)) (pa_cons (pe_tup (pa_cons pe_str (pa_cons pe_str pa_nil))) pa_nil)))) pa_nil)) (by rfl)) 
    (pss_one (ps_ret (pe_call G_w_same hr (by rfl) g_w_same F_w_same.kp b_w_same .nil pass0 (pa_cons (pe_lst (pa_cons (pe_meth0 (pv 9) T_Way.cl mt_Way_cost G_Way_cost hr b_Way_cost .nil pass0) (pa_cons (pe_meth0 (pe_un (un_own G_Way_neg hr mt_Way_neg b_Way_neg pass0) (pv 9)) T_Way.cl mt_Way_cost G_Way_cost hr b_Way_cost .nil pass0) pa_nil))) (pa_cons (pe_lst (pa_cons (pe_meth0 (pv 8) T_Way.cl mt_Way_cost G_Way_cost hr b_Way_cost .nil pass0) (pa_cons (pe_meth0 (pe_un (un_own G_Way_neg hr mt_Way_neg b_Way_neg pass0) (pv 8)) T_Way.cl mt_Way_cost G_Way_cost hr b_Way_cost .nil pass0) pa_nil))) pa_nil))))))))))))), ?_⟩
    rw [show L2.start (["_law_web_here", "_law_row", "_law_first", "_law_last", "_law_found", "_law_other", "_law_told", "_law_ends_so", "_law_road", "_law_also", "_law_own", "_law_tag"] : List Str) [v, rv, fv, lv] = [some v, some rv, some fv, some lv, none, none, none, none, none, none, none, none] from rfl]
    obtain ⟨a0, b1, b2, xq, rfl, N0⟩ := netAt hD
    have i0 : atI [V.ref b1, V.ref b2] 0 = some (.ref b1) := atI_nat (j := 0) rfl
    have i1 : atI [V.ref b1, V.ref b2] 1 = some (.ref b2) := atI_nat (j := 1) rfl
    have q8 := hM.q8
    have w6 := hM.w6
    have okq : ∀ q ∈ qs, SeqAt.shaped (q.d true) = true := fun q hq => by
      obtain ⟨k1, k2, _⟩ := hM.ng.q1 q hq
      obtain ⟨z1, z2⟩ := okE_q (hM.oq q hq) (hM.ow _ k1) (hM.ow _ k2)
      exact shaped_of z1 (by omega)
    refine asg_of ?_
    refine lcs (K := K) (fb := true) qs (fun x q => Dp K H x (q.d true)) (fun H' u q => Dp K H' u (q.d true)) (keepB q0) (fun R' r => ⟨_, rfl, rIxF_at N0.h0 i1 r⟩) N0.h2 (fun k y z g1 g2 => ?_) N0.ll (by omega) (fun _ _ _ _ e h => e.dp h) (fun x => rfl) (fun y z H4 hz e4 hy Q' q' => ?_) (fun y z H4 TT hz ht e4 eT tr hy _ Q' q' => ?_) (fun D ys H4 s4 hD0 hD1 hA => ?_)
    · obtain ⟨d, e1, e2⟩ := dpa_get (net_all N0) g1
      rw [List.getElem?_map, g2] at e1
      cases e1
      exact e2
    · exact ⟨_, rfl, _, rfl, _, _, e4.dp hy, e4.dp hR, okq z hz, okq q0 h0, _, rfl, q' H4 fun _ _ e => e⟩
    · exact ⟨_, rfl, q' H4 _ (fun _ _ e => e) (eT.dp hy)⟩
    · have hA1 : DpAll K H4 ys ((qs.filter (keepB q0)).map (QD.d true)) := cutS_le.dpa (a2_dpa hA)
      have fl := filter_len hM.ng h0
      have hR4 := s4.dp hR
      refine asg_of ?_
      refine nw_cat (K := K) (S := []) (H0 := H4) (rd_var rfl hD1 (by rw [cutS_nil]; exact hA1)) (rd_nw (nw_lst (ac_cons (ic_tup (ac_cons ic_str (ac_cons (ic_at (fb := true) (ds := [.str q0.nm, .str q0.st, .str q0.en, .int q0.room, .int q0.gap]) 1 (ic_v rfl hR4) rfl) (ac_cons ic_str (ac_cons (ic_at (fb := true) 0 (ic_v rfl (s4.dp hF)) rfl) (ac_cons (ic_at (fb := true) 1 (ic_v rfl (s4.dp hF)) rfl) ac_nil))))) (by show 5 ≤ 1000; decide)) (ac_cons (ic_tup (ac_cons ic_str (ac_cons ic_str (ac_cons (ic_at (fb := true) (ds := [.str q0.nm, .str q0.st, .str q0.en, .int q0.room, .int q0.gap]) 2 (ic_v rfl hR4) rfl) (ac_cons (ic_at (fb := true) 0 (ic_v rfl (s4.dp hL)) rfl) (ac_cons (ic_at (fb := true) 1 (ic_v rfl (s4.dp hL)) rfl) ac_nil))))) (by show 5 ≤ 1000; decide)) ac_nil)) (by show 2 ≤ 1000; decide))) (by rw [List.length_map]; show _ + 2 ≤ 1000; omega) H4 _ (fun _ _ e => e) Trk.nil fun H5 D5 v5 s5 hD5n hD5 d5 => ?_
      have d5 : DpAll K H5 v5 ((restM qs q0 r1 g1 r2 g2).map (QD.d true)) := by
        have := cutS_le.dpa d5
        unfold restM
        rw [List.map_append]
        exact this
      have S5 := s4.trans s5
      dsimp only [List.set]
      clear hA hA1 hR4 hD1 hD0
      refine asg_of ?_
      walk_at "ev"
      refine rIxF_at (f := true) (S5.sqT N0.h0) i0 ?_
      walk_at "ev"
      refine ⟨b1, _, rfl, .inr (S5.sqT N0.h1), fun l hl => ?_⟩
      have s6 : Same H5 (upd H5 l (.lst (ws.map V.str))) := .upd hl
      have hl1 : (upd H5 l (.lst (ws.map V.str))) l = some (.lst (ws.map V.str)) := upd_same
      generalize upd H5 l (.lst (ws.map V.str)) = H6 at s6 hl1 ⊢
      refine ⟨by show 1 ≤ sizeLine; decide, fun m hm => ?_⟩
      have s7 : Same H6 (upd H6 m (.lst [V.str (Str.ofString "mid")])) := .upd hm
      have hm1 : (upd H6 m (.lst [V.str (Str.ofString "mid")])) m = some (.lst [V.str (Str.ofString "mid")]) := upd_same
      refine ⟨l, m, ws.map V.str, [V.str (Str.ofString "mid")], rfl, rfl, s7 _ _ hl1, hm1, by rw [List.length_map]; exact Nat.le_of_lt (szL (by show _ + 1 < _; omega)), fun n hn => ?_⟩
      have s8 := s7.trans (.upd (o := .lst (ws.map V.str ++ [V.str (Str.ofString "mid")])) hn)
      have hn1 : (upd (upd H6 m (.lst [V.str (Str.ofString "mid")])) n (.lst (ws.map V.str ++ [V.str (Str.ofString "mid")]))) n = some (.lst ((ws ++ [nmMid]).map V.str)) := by
        rw [upd_same, List.map_append]
        rfl
      generalize upd (upd H6 m (.lst [V.str (Str.ofString "mid")])) n (.lst (ws.map V.str ++ [V.str (Str.ofString "mid")])) = H8 at s8 hn1 ⊢
      clear s7 hm1 hm hn
      refine ⟨n, ws ++ [nmMid], rfl, sql_of hn1, by rw [List.length_append]; show _ + 1 < _; omega, fun us p10 hu1 hu2 hp10 => ?_⟩
      have s10 := s8.trans (.upd (o := .lst (us.map V.str)) hp10)
      refine ⟨p10, _, rfl, sql_of upd_same, fun p11 ob hp11 hoc hod => ?_⟩
      have s11 := (s6.trans s10).trans (.upd (o := .frz ob (.tup (us.map V.str))) hp11)
      have h11 : (upd (upd H8 p10 (.lst (us.map V.str))) p11 (.frz ob (.tup (us.map V.str)))) p11 = some (.frz ob (.tup (us.map V.str))) := upd_same
      generalize upd (upd H8 p10 (.lst (us.map V.str))) p11 (.frz ob (.tup (us.map V.str))) = H11 at s11 h11 ⊢
      clear s10 s8 s6 hl1 hn1 hl hp10 hp11
      refine ⟨_, rfl, ?_⟩
      walk_at "nrm"
      refine sort_qs (s11 _ _ hD5) (s11.dpa d5) fun qs' hqp t0 ys H12a s12a ht00 ht01 hys => ?_
      refine ⟨t0, _, rfl, .inl ⟨sql_of ht01, fun t ht0 => ?_⟩⟩
      have s12 := s12a.trans (.upd (o := .tup ys) ht0)
      have ht1 : (upd H12a t (.tup ys)) t = some (.tup ys) := upd_same
      replace hys := (Same.upd (o := .tup ys) ht0).dpa hys
      generalize upd H12a t (.tup ys) = H12 at s12 ht1 hys ⊢
      refine ⟨by show 2 ≤ sizeLine; decide, fun o ho => ?_⟩
      have s13 := s12.trans (.upd (o := .tup [.ref p11, .ref t]) ho)
      have ho1 : (upd H12 o (.tup [.ref p11, .ref t])) o = some (.tup [.ref p11, .ref t]) := upd_same
      have s12' : Same H12 (upd H12 o (.tup [.ref p11, .ref t])) := .upd ho
      have dO : Dp K (upd H12 o (.tup [.ref p11, .ref t])) (.ref o) (netD true us qs') := .tup (sqt_of ho1) (.cons (.tup (.inl (.inr ⟨ob, s13 _ _ h11⟩)) dpa_strs) (.cons (.tup (sqt_of (s12' _ _ ht1)) (s12'.dpa hys)) .nil))
      have tO : TupW (upd H12 o (.tup [.ref p11, .ref t])) (.ref o) (us.map V.str) := ⟨o, p11, t, ob, rfl, ho1, s13 _ _ h11, hoc, hod⟩
      have wO := WebO.of dO tO
      clear tO ho1 s12' ht1 hys ht0 h11 dO ht00 ht01 s12a
      generalize upd H12 o (.tup [.ref p11, .ref t]) = H13 at s13 wO ⊢
      have S13 := (S5.trans s11).trans s13
      clear ho s12 s13 s11 hD5 d5 s5 s4 S5
      dsimp only [List.set]
      obtain ⟨nd', ng', w6', q8', wn', bd'⟩ := rest_net hM h0 hP hu1 hqp
      have Mq := rest_mid hM h0 hP hqp
      obtain ⟨g, hRo⟩ := net_r hM.nd hM.ng (by omega) (by omega)
      obtain ⟨g', hRn⟩ := net_r nd' ng' w6' q8'
      have hne : ∀ q ∈ qs, q.st ≠ q.en := fun q hq => (hM.ng.q1 q hq).2.2
      have hne' : ∀ q ∈ qs', q.st ≠ q.en := fun q hq => (ng'.q1 q hq).2.2
      have nn : NetN ws qs := ⟨hM.nd, hne, by omega, by omega⟩
      have nn' : NetN us qs' := ⟨nd', hne', by omega, by omega⟩
      obtain ⟨r1', r2', r3'⟩ := rings_same hM.ng hRo.rn ng' hRn.rn (cyc_mid Mq)
      have en : neverF us qs' = neverF ws qs := by
        rw [never_rings nd' ng' wn' hRn.rn bd', never_rings hM.nd hM.ng hM.w1 hRo.rn fun q hq => (hM.bd q hq).2.1, r3']
      have l3 : (3 : Nat) ≤ 1000 := by decide
      have hD13 := S13.dp hD
      refine asg_ic (K := K) (d := .list [optD (minO (g.map (costQ qs))), .bool (neverF ws qs), optD (fewF qs g)]) (ic_lst (ac_cons (by
        rw [← r1']
        exact ic_slackO rfl wO.dp hRn) (ac_cons (by
        rw [← en]
        exact ic_neverO rfl wO.dp nn') (ac_cons (by
        rw [← r2']
        exact ic_fewO rfl wO.dp hRn) ac_nil))) l3) fun HC vt sC dC => ?_
      dsimp only [List.set]
      refine same_ac (K := K) (d := .list [optD (minO (g.map (costQ qs))), .bool (neverF ws qs), optD (fewF qs g)]) (ac_cons (ic_v rfl dC) (ac_cons (ic_lst (ac_cons (ic_slackO rfl (sC.dp hD13) hRo) (ac_cons (ic_neverO rfl (sC.dp hD13) nn) (ac_cons (ic_fewO rfl (sC.dp hD13) hRo) ac_nil))) l3) ac_nil)) (okD_l3 okD_opt trivial okD_opt) fun HE sE => ?_
      refine ⟨_, rfl, iteF ?_⟩
      dsimp only [tNext]
      have sCE := sC.trans sE
      have wE := wO.same sCE
      have SE := S13.trans sCE
      clear dC hD13 wO sC sE sCE S13
      refine asg_of ?_
      refine ⟨_, rfl, .ref o, true, us, qs', rfl, wE.dp, hne', nd', by omega, by omega, fun HF en_ n t sF hT dT => ?_⟩
      dsimp only [List.set]
      obtain ⟨ea, exs, rfl, heS, hex⟩ := Dp.seq_of (f := true) (show Dp K HF en_ (seqD true (us.map fun x => optD (lk t.needs x))) from dT)
      have wF := wE.same sF
      have SF := SE.trans sF
      have NF := N0.same SF
      have hk : ∀ x ∈ ws, x ∈ us := fun x hx => hu1.mem_iff.mpr (List.mem_append_left _ hx)
      have okE : okD 5 (.list (ws.map fun x => optD (lk t.needs x))) := by
        refine (okD_seq (f := false)).mpr ⟨by rw [List.length_map]; omega, fun d hd => ?_⟩
        obtain ⟨x, _, rfl⟩ := List.mem_map.mp hd
        exact okD_opt
      refine same_ac (K := K) (d := .list (ws.map fun x => optD (lk t.needs x))) (ac_cons (fun HG QG eG tG qG => ?_) (ac_cons (ic_earlyL rfl (SF.dp hD) hne hM.nd (by omega) (by omega) (fun n2 t2 h2 => ?_)) ac_nil)) okE fun HI sI => ?_
      · have NG := NF.same eG
        have wG := wF.same eG
        have dG := eG.dp dT
        refine lcs (K := K) (fb := true) ws (fun x z => x = .str z) (fun H' u z => Dp K H' u (optD (lk t.needs z))) (fun _ => true) (fun R' r => ⟨_, rfl, rIxF_at NG.h0 i0 r⟩) NG.h1 (fun i x z g1 g2 => ?_) (by rw [List.length_map]) (by omega) (fun H' H'' u z e h => e.dp h) (fun x => rfl) (fun x z H3 hz e3 hx Q' q' => q' H3 fun _ _ e => e) (fun x z H3 T hz _ e1 e2 tr hx hT Q' q' => ?_) (fun D ys H3 s3 hD0 hD1 hA => ?_)
        · rw [List.getElem?_map, g2] at g1
          cases g1
          rfl
        · subst hx
          obtain ⟨oa, oc, ov, ob2, eo, w1, w2, w3, w4⟩ := wG.tw
          cases eo
          have hz2 := hk z hz
          obtain ⟨ev, hv1, hv2⟩ := dpa_get' hex (i := ixS us z) (d := optD (lk t.needs z)) (by rw [List.getElem?_map, (ixS_get hz2).1]; rfl)
          refine ⟨_, rfl, ?_⟩
          refine ⟨_, rfl, rIxF_at (f := true) (e1.sqT w1) (atI_nat (j := 0) rfl) ⟨⟨oc, ob2, _, rfl, e1 _ _ w2, w3, w4⟩, ?_⟩⟩
          refine ⟨_, rfl, oc, us, z, ixS us z, rfl, rfl, .inl (.inr ⟨ob2, e1 _ _ w2⟩), (ixS_get hz2).1, (ixS_get hz2).2, ?_⟩
          exact rIxF_at (f := true) (e1.sqT (eG.sqT heS)) (atI_nat hv1) (q' H3 _ (fun _ _ e => e) (e2.dp (eG.dp hv2)))
        · rw [List.filter_eq_self.mpr fun _ _ => rfl] at hA
          refine qG H3 _ s3 ?_
          rw [cutS_nil]
          exact .lst (sql_of hD1) (cutS_le.dpa (a2_dpa hA))
      · unfold earlyD
        congr 1
        apply List.map_congr_left
        intro x hx
        rw [early_mid Mq hM.ng ng' h2 hT fun e => hM.nm (by rw [← e]; exact hx)]
      · refine ⟨_, rfl, iteF ?_⟩
        dsimp only [tNext]
        have wI := wF.same sI
        have SI := SF.trans sI
        have hDI := SI.dp hD
        have hRI := SI.dp hR
        obtain ⟨j, hj, ej⟩ := List.mem_iff_getElem.mp h0
        have ej : qs[j]? = some q0 := by rw [List.getElem?_eq_getElem hj, ej]
        obtain ⟨j1, hj1, ej1⟩ := List.mem_iff_getElem.mp ((Mq.mem _).mpr (.inr (.inl rfl)))
        have ej1 : qs'[j1]? = some (q1M q0 r1 g1) := by rw [List.getElem?_eq_getElem hj1, ej1]
        obtain ⟨j2, hj2, ej2⟩ := List.mem_iff_getElem.mp ((Mq.mem _).mpr (.inr (.inr rfl)))
        have ej2 : qs'[j2]? = some (q2M q0 r2 g2) := by rw [List.getElem?_eq_getElem hj2, ej2]
        have hms : (([(j, true)] : List Mk).map (nmQ qs)).map PyData.str = [.str q0.nm] := by
          show [PyData.str (nmQ qs (j, true))] = _
          unfold nmQ
          rw [show qs[(j, true).1]? = some q0 from ej]
        have hms2 : (([(j1, true), (j2, true)] : List Mk).map (nmQ qs')).map PyData.str = [.str nmB, .str nmZ] := by
          show [PyData.str (nmQ qs' (j1, true)), PyData.str (nmQ qs' (j2, true))] = _
          unfold nmQ
          rw [show qs'[(j1, true).1]? = some _ from ej1, show qs'[(j2, true).1]? = some _ from ej2]
          rfl
        have hp1 : path qs (q0.st :: [q0.en]) [(j, true)] := ⟨⟨q0, ej, .inl ⟨rfl, rfl, rfl⟩⟩, trivial⟩
        have hp2 : path qs' (q0.st :: [nmMid, q0.en]) [(j1, true), (j2, true)] := ⟨⟨_, ej1, .inl ⟨rfl, rfl, rfl⟩⟩, ⟨_, ej2, .inl ⟨rfl, rfl, rfl⟩⟩, trivial⟩
        obtain ⟨k1, k2, k3⟩ := hM.ng.q1 q0 h0
        have d1 := ic_at (K := K) (S := []) (H0 := HI) (j := 1) (σ := [some (V.ref a0), some rv, some fv, some lv, some (V.ref D5), some (V.ref o), some vt, some (V.ref ea), none, none, none, none]) (fb := true) (ds := [.str q0.nm, .str q0.st, .str q0.en, .int q0.room, .int q0.gap]) 1 (ic_v (i := 1) rfl hRI) rfl
        have d0 := ic_at (K := K) (S := []) (H0 := HI) (j := 0) (σ := [some (V.ref a0), some rv, some fv, some lv, some (V.ref D5), some (V.ref o), some vt, some (V.ref ea), none, none, none, none]) (fb := true) (ds := [.str q0.nm, .str q0.st, .str q0.en, .int q0.room, .int q0.gap]) 0 (ic_v (i := 1) rfl hRI) rfl
        refine par_of ?_
        refine (iw_make (K := K) (C := C) (H0 := HI) (fb := true) (fq := true) (ms := [(j, true)]) (us := [q0.en]) (ac_cons (ic_v (i := 0) rfl hDI) (ac_cons d1 (ac_cons (by rw [hms]; exact ic_tup (ac_cons d0 ac_nil) (by show 1 ≤ 1000; decide)) ac_nil))) hM.ng k1 hp1 (by omega) (by omega) (by show 1 ≤ 1000; decide)) HI _ (fun _ _ e => e) fun HJ rd sJ hrd => ?_
        refine (iw_make (K := K) (C := C) (H0 := HI) (fb := true) (fq := true) (ms := [(j1, true), (j2, true)]) (us := [nmMid, q0.en]) (ac_cons (ic_v (i := 5) rfl wI.dp) (ac_cons d1 (ac_cons (by rw [hms2]; exact ic_tup (ac_cons ic_str (ac_cons ic_str ac_nil)) (by show 2 ≤ 1000; decide)) ac_nil))) ng' (hk _ k1) hp2 (by omega) (by omega) (by show 2 ≤ 1000; decide)) HJ _ sJ fun HL al sL hal => ?_
        refine ⟨_, _, rfl, ?_⟩
        dsimp only [List.set]
        have p0 : ∀ b, prQ qs (j, b) = if b = true then q0.room else 1 - q0.gap := fun b => by
          unfold prQ
          rw [show qs[(j, b).1]? = some q0 from ej]
        have p1 : ∀ b, prQ qs' (j1, b) = if b = true then r1 else 1 - g1 := fun b => by
          unfold prQ
          rw [show qs'[(j1, b).1]? = some _ from ej1]
          rfl
        have p2 : ∀ b, prQ qs' (j2, b) = if b = true then r2 else 1 - g2 := fun b => by
          unfold prQ
          rw [show qs'[(j2, b).1]? = some _ from ej2]
          rfl
        have rm := hP.rm
        have gp := hP.gp
        have c1 : costQ qs [(j, true)] = q0.room := by
          show prQ qs (j, true) + 0 = _
          rw [p0, if_pos rfl]
          omega
        have c2 : costQ qs (revR [(j, true)]) = 1 - q0.gap := by
          show prQ qs (j, false) + 0 = _
          rw [p0, if_neg (by decide)]
          omega
        have c3 : costQ qs' [(j1, true), (j2, true)] = q0.room := by
          show prQ qs' (j1, true) + (prQ qs' (j2, true) + 0) = _
          rw [p1, p2, if_pos rfl, if_pos rfl]
          omega
        have c4 : costQ qs' (revR [(j1, true), (j2, true)]) = 1 - q0.gap := by
          show prQ qs' (j2, false) + (prQ qs' (j1, false) + 0) = _
          rw [p1, p2, if_neg (by decide), if_neg (by decide)]
          omega
        refine same_ac (K := K) (d := .list [.int q0.room, .int (1 - q0.gap)]) (ac_cons (ic_lst (ac_cons (by rw [← c3]; exact iw_cost (iw_var rfl hal)) (ac_cons (by rw [← c4]; exact iw_cost (iw_neg (iw_var rfl hal) ng' (hk _ k1) hp2 (by omega) (by omega) (by show 2 ≤ 1000; decide))) ac_nil)) (by show 2 ≤ 1000; decide)) (ac_cons (ic_lst (ac_cons (by rw [← c1]; exact iw_cost (iw_var rfl (hrd.same sL))) (ac_cons (by rw [← c2]; exact iw_cost (iw_neg (iw_var rfl (hrd.same sL)) hM.ng k1 hp1 (by omega) (by omega) (by show 1 ≤ 1000; decide))) ac_nil)) (by show 2 ≤ 1000; decide)) ac_nil)) ?_ fun HM sM => ?_
        · refine (okD_seq (f := false)).mpr ⟨by show 2 ≤ 4000000; decide, fun d hd => ?_⟩
          rcases mem2 hd with rfl | rfl <;> exact trivial
        · exact kq HM ((SI.trans sJ).trans (sL.trans sM))
end
end Jl

set_option Elab.async false
set_option linter.all false
set_option maxRecDepth 100000
set_option maxHeartbeats 1000000
set_option pp.maxSteps 300
namespace Jl
open PySem PySem.Spec PyProof.Rows L2
open Evl (sz_of sz_lt)
local macro_rules | `(tactic| walk_at "at") => `(tactic| first | exact box0 | exact box1 | exact box2)
local macro_rules | `(tactic| walk_at "sq") => `(tactic| first | (show SqL _ _ _ _; assumption) | (show SqT _ _ _ _; assumption) | (show _ = some _; assumption))
local macro_rules | `(tactic| walk_at "side") => `(tactic| first
  | (show (0 : Int) < _; decide)
  | (show (0 : Int) < _; omega)
  | exact ⟨by decide, by decide, by decide⟩
  | exact sz_of (Nat.le_of_ble_eq_true rfl)
  | exact rfl
  | exact Or.inl (by decide)
  | exact Or.inr (by decide)
  | exact Or.inr ⟨by omega, by omega⟩
  | exact Or.inl ⟨by omega, by omega⟩
  | exact ⟨by decide, by decide +kernel⟩)
local macro_rules | `(tactic| walk_at "ev1") => `(tactic| first
  | refine ⟨_, rfl, ?_⟩
  | refine ⟨_, _, rfl, rfl, ?_⟩
  | refine ⟨_, _, _, _, rfl, rfl, (by walk_at "sq"), (by walk_at "at"), ?_⟩
  | refine ⟨_, _, rfl, (by walk_at "sq"), ?_⟩
  | refine ⟨_, _, rfl, Or.inl (by walk_at "sq"), ?_⟩
  | refine ⟨_, _, rfl, Or.inr (by walk_at "sq"), ?_⟩
  | refine Or.inl ⟨_, rfl, ?_⟩
  | refine Or.inr ⟨_, rfl, ?_⟩
  | refine ⟨(by walk_at "side"), ?_⟩
  | refine ⟨.inl ⟨rfl, _, (by walk_at "sq")⟩, ?_⟩
  | refine ⟨_, _, rfl, ?_⟩)
local macro_rules | `(tactic| walk_at "nrm") => `(tactic| dsimp only [tNil, tCons, tC, tCB])
local macro_rules | `(tactic| walk_at "ev") => `(tactic| repeat (walk_at "ev1"))
abbrev sc_w_hand_right_N : List Str := ["_law_space", "_law_row", "_law_web_here"]
abbrev s_w_hand_right : Stmt := topS 39
theorem sc_w_hand_right : FnScope ["_law_space", "_law_row", "_law_web_here"] [] (defScope s_w_hand_right) := ⟨rfl, rfl, rfl, by decide +kernel, rfl, by decide +kernel, by decide +kernel⟩
def qA (sp : Int) : List QD := [⟨Str.ofString "q", Str.ofString "s", Str.ofString "t", 6, 5⟩, ⟨Str.ofString "r", Str.ofString "s", Str.ofString "t", sp, 1⟩]
def wA : List Str := [Str.ofString "s", Str.ofString "t"]
def qB : List QD := [⟨Str.ofString "p", Str.ofString "s", Str.ofString "m", 4, 2⟩, ⟨Str.ofString "q", Str.ofString "m", Str.ofString "t", 6, 5⟩, ⟨Str.ofString "r", Str.ofString "s", Str.ofString "t", 5, 1⟩]
def wB : List Str := [Str.ofString "m", Str.ofString "s", Str.ofString "t"]
theorem nm_A {sp : Int} (h : 1 ≤ sp ∧ sp ≤ 10) : NM wA (qA sp) := by
  have e1 : (qA sp).map QD.nm = [Str.ofString "q", Str.ofString "r"] := rfl
  refine ⟨by decide +kernel, by decide +kernel, by decide, by show 2 ≤ 7; decide, ⟨fun q hq => ?_, by rw [e1]; decide +kernel⟩, fun q hq => ?_, by decide +kernel, fun q hq => ?_, by decide +kernel, by rw [e1]; decide +kernel, by rw [e1]; decide +kernel⟩
  · rcases mem2 hq with rfl | rfl
    · show _ ∈ wA ∧ _ ∈ wA ∧ _
      exact (by decide +kernel : Str.ofString "s" ∈ wA ∧ Str.ofString "t" ∈ wA ∧ Str.ofString "s" ≠ Str.ofString "t")
    · exact (by decide +kernel : Str.ofString "s" ∈ wA ∧ Str.ofString "t" ∈ wA ∧ Str.ofString "s" ≠ Str.ofString "t")
  · rcases mem2 hq with rfl | rfl
    · exact (by decide : (1 : Int) ≤ 5 ∧ (5 : Int) ≤ 6 ∧ (6 : Int) ≤ 10 ^ 8)
    · show (1 : Int) ≤ 1 ∧ (1 : Int) ≤ sp ∧ sp ≤ 10 ^ 8
      omega
  · rcases mem2 hq with rfl | rfl
    · exact (by decide +kernel : PyData.strOk (Str.ofString "q") = true)
    · exact (by decide +kernel : PyData.strOk (Str.ofString "r") = true)
theorem nm_B : NM wB qB := by
  refine ⟨by decide +kernel, by decide +kernel, by decide, by decide, ⟨by decide +kernel, by decide +kernel⟩, by decide +kernel, by decide +kernel, by decide +kernel, by decide +kernel, by decide +kernel, by decide +kernel⟩
section
variable {P : Program} {w : World} {K : PySem.W.Frag} {mg : Str → Option Value} {base : Heap}
def spHandR : Sp := fun vs H Q _ => vs = [] ∧ ∀ H', Same H H' → Q (.bl true) H'
theorem ok_w_hand_right {f fB : Addr} {fd fdB : FuncData} {k : Nat} (F : Fun K "_law_hand_right" "_law_hand_right" s_w_hand_right f fd)
    (G_w_both_right : FnOk P w K mg base CX0 k fB fdB ["_law_web_here", "_law_row", "_law_first", "_law_last"] (spBoth K)) (g_w_both_right : mg "_law_both_right" = some (.ref fB)) (F_w_both_right : Fun K "_law_both_right" "_law_both_right" s_w_both_right fB fdB) (b_w_both_right : Binds K fdB ["_law_web_here", "_law_row", "_law_first", "_law_last"] []) : FnOk P w K mg base CX0 (k + 1) f fd [] spHandR := by
  refine F.ok sc_w_hand_right (fun vs H Q E h => ?_) (fun cdv A outer s0 H vs Q E hr h => ?_)
  · obtain ⟨rfl, _⟩ := h
    rfl
  · obtain ⟨rfl, kq⟩ := h
    refine ⟨_, (pss_cons (ps_forX (ps_for PassesOwn.never rfl (pi_list (pe_lst (pa_cons pe_int (pa_cons pe_int (pa_cons pe_int pa_nil))))) (pg_name (i := 0) sc_w_hand_right.nd rfl (Or.inl rfl)) 
      (pss_cons (ps_set (i := 1) sc_w_hand_right.nd rfl (Or.inl rfl) (pe_tup (pa_cons pe_str (pa_cons pe_str (pa_cons pe_str (pa_cons pe_int (pa_cons pe_int pa_nil))))))) 
      (pss_one (ps_if (pt_not (pt_val (pe_call G_w_both_right hr (by rfl) g_w_both_right F_w_both_right.kp b_w_both_right .nil pass0 (pa_cons (pe_tup (pa_cons (pe_tup (pa_cons pe_str (pa_cons pe_str pa_nil))) (pa_cons (pe_tup (pa_cons (pv 1) (pa_cons (pe_tup (pa_cons pe_str (pa_cons pe_str (pa_cons pe_str (pa_cons (pv 0) (pa_cons pe_int pa_nil)))))) pa_nil))) pa_nil))) (pa_cons (pv 1) (pa_cons (pe_tup (pa_cons pe_int (pa_cons pe_int pa_nil))) (pa_cons (pe_tup (pa_cons pe_int (pa_cons pe_int pa_nil))) pa_nil))))))) (pss_one (ps_ret pe_bl)) pss_nil))))) 
    (pss_cons (ps_set (i := 1) sc_w_hand_right.nd rfl (Or.inl rfl) (pe_tup (pa_cons pe_str (pa_cons pe_str (pa_cons pe_str (pa_cons pe_int (pa_cons pe_int pa_nil))))))) 
    (pss_cons (ps_set (i := 2) sc_w_hand_right.nd rfl (Or.inl rfl) (pe_tup (pa_cons (pe_tup (pa_cons pe_str (pa_cons pe_str (pa_cons pe_str pa_nil)))) (pa_cons (pe_tup (pa_cons (pe_tup (pa_cons pe_str (pa_cons pe_str (pa_cons pe_str (pa_cons pe_int (pa_cons pe_int pa_nil)))))) (pa_cons (pv 1) (pa_cons (pe_tup (pa_cons pe_str (pa_cons pe_str (pa_cons pe_str (pa_cons pe_int (pa_cons pe_int pa_nil)))))) pa_nil)))) pa_nil)))) 
    (pss_one (ps_ret (pe_and (pe_call G_w_both_right hr (by rfl) g_w_both_right F_w_both_right.kp b_w_both_right .nil pass0 (pa_cons (pv 2) (pa_cons (pv 1) (pa_cons (pe_tup (pa_cons pe_int (pa_cons pe_int pa_nil))) (pa_cons (pe_tup (pa_cons pe_int (pa_cons pe_int pa_nil))) pa_nil))))) (pe_one (pe_call G_w_both_right hr (by rfl) g_w_both_right F_w_both_right.kp b_w_both_right .nil pass0 (pa_cons (pv 2) (pa_cons (pv 1) (pa_cons (pe_tup (pa_cons pe_int (pa_cons pe_int pa_nil))) (pa_cons (pe_tup (pa_cons pe_int (pa_cons pe_int pa_nil))) pa_nil)))))))))))), ?_⟩
    rw [show L2.start (["_law_space", "_law_row", "_law_web_here"] : List Str) [] = [none, none, none] from rfl]
    refine for_of ?_
    walk_at "ev"
    intro p hp
    have hp1 : (upd H p (.lst [.int 3, .int 4, .int 5])) p = some (.lst [V.int 3, V.int 4, V.int 5]) := upd_same
    have s1 : Same H (upd H p (.lst [.int 3, .int 4, .int 5])) := .upd hp
    generalize upd H p (.lst [.int 3, .int 4, .int 5]) = H1 at hp1 s1 ⊢
    refine ⟨p, rfl, ⟨_, sql_of hp1⟩, ?_⟩
    have t33 : ∀ {σ : L2.St} {H0 : Hp} {a b : Int}, IsC K [] H0 (tTup (tCons (tC (.int a)) (tCons (tC (.int b)) tNil))) (.tuple [.int a, .int b]) σ := ic_tup (ac_cons ic_int (ac_cons ic_int ac_nil)) (by show 2 ≤ 1000; decide)
    have l5 : (5 : Nat) ≤ 1000 := by decide
    have l2 : (2 : Nat) ≤ 1000 := by decide
    have l3 : (3 : Nat) ≤ 1000 := by decide
    refine forR_it (walk_list (xs := [V.int 3, V.int 4, V.int 5])) (fun i σ Hc => ∃ x0 x1 : Option V, σ = [x0, x1, none] ∧ Same H1 Hc) ⟨_, _, rfl, fun _ _ e => e⟩ (fun i σ Hc _ hh => ?_) (fun i x σ Hc Hc' hi hh y => ?_) (fun σ Hc hh => ?_)
    · obtain ⟨x0, x1, rfl, sc⟩ := hh
      exact sql_of (sc _ _ hp1)
    · obtain ⟨x0, x1, rfl, sc⟩ := hh
      obtain ⟨rfl, hv⟩ := y
      obtain ⟨sp, rfl, hsp⟩ : ∃ sp : Int, x = .int sp ∧ 3 ≤ sp ∧ sp ≤ 5 := by
        match i, hi, hv with
        | 0, _, hv => cases hv; exact ⟨3, rfl, by decide, by decide⟩
        | 1, _, hv => cases hv; exact ⟨4, rfl, by decide, by decide⟩
        | 2, _, hv => cases hv; exact ⟨5, rfl, by decide, by decide⟩
      show tSeq _ _ _ _ _
      refine asg_ic (K := K) (d := (⟨Str.ofString "q", Str.ofString "s", Str.ofString "t", 6, 5⟩ : QD).d true) (ic_tup (ac_cons ic_str (ac_cons ic_str (ac_cons ic_str (ac_cons ic_int (ac_cons ic_int ac_nil))))) l5) fun H2 v s2 d2 => ?_
      dsimp only [List.set]
      refine call_ac (K := K) (ds := [netD true wA (qA sp), (⟨Str.ofString "q", Str.ofString "s", Str.ofString "t", 6, 5⟩ : QD).d true, .tuple [.int 3, .int 3], .tuple [.int 3, .int 3]]) (ac_cons (ic_tup (ac_cons (ic_tup (ac_cons ic_str (ac_cons ic_str ac_nil)) l2) (ac_cons (ic_tup (ac_cons (ic_v rfl d2) (ac_cons (ic_tup (ac_cons ic_str (ac_cons ic_str (ac_cons ic_str (ac_cons (ic_v rfl (.int _)) (ac_cons ic_int ac_nil))))) l5) ac_nil)) l2) ac_nil)) l2) (ac_cons (ic_v rfl d2) (ac_cons t33 (ac_cons t33 ac_nil)))) fun H3 vs s3 d3 => ?_
      cases d3 with
      | cons k1 d3 =>
      cases d3 with
      | cons k2 d3 =>
      cases d3 with
      | cons k3 d3 =>
      cases d3 with
      | cons k4 d3 =>
      cases d3
      refine ⟨_, _, _, _, wA, qA sp, _, 3, 3, 3, 3, rfl, k1, k2, k3, k4, nm_A ⟨by omega, by omega⟩, List.mem_cons_self, ⟨by decide, by decide, by decide, by decide⟩, fun H4 s4 => ?_⟩
      refine ⟨_, rfl, iteF ?_⟩
      exact ⟨_, _, rfl, sc.trans ((s2.trans s3).trans s4)⟩
    · obtain ⟨x0, x1, rfl, sc⟩ := hh
      show tSeq _ _ _ _ _
      refine asg_ic (K := K) (d := (⟨Str.ofString "q", Str.ofString "m", Str.ofString "t", 6, 5⟩ : QD).d true) (ic_tup (ac_cons ic_str (ac_cons ic_str (ac_cons ic_str (ac_cons ic_int (ac_cons ic_int ac_nil))))) l5) fun H2 v s2 d2 => ?_
      dsimp only [List.set]
      refine asg_ic (K := K) (d := netD true wB qB) (ic_tup (ac_cons (ic_tup (ac_cons ic_str (ac_cons ic_str (ac_cons ic_str ac_nil))) l3) (ac_cons (ic_tup (ac_cons (ic_tup (ac_cons ic_str (ac_cons ic_str (ac_cons ic_str (ac_cons ic_int (ac_cons ic_int ac_nil))))) l5) (ac_cons (ic_v rfl d2) (ac_cons (ic_tup (ac_cons ic_str (ac_cons ic_str (ac_cons ic_str (ac_cons ic_int (ac_cons ic_int ac_nil))))) l5) ac_nil))) l3) ac_nil)) l2) fun H3 u s3 d3 => ?_
      dsimp only [List.set]
      have one : ∀ {r1 g1 r2 g2 : Int}, PartQ ⟨Str.ofString "q", Str.ofString "m", Str.ofString "t", 6, 5⟩ r1 g1 r2 g2 → IsC K [] H3 (tCall (spBoth K) [] E0 (tCons (tVar 2) (tCons (tVar 1) (tCons (tTup (tCons (tC (.int r1)) (tCons (tC (.int g1)) tNil))) (tCons (tTup (tCons (tC (.int r2)) (tCons (tC (.int g2)) tNil))) tNil))))) (.bool true) [x0, some v, some u] := fun {r1 g1 r2 g2} hP H4 Q' e4 _ q' => by
        refine (ac_cons (ic_v rfl (e4.dp d3)) (ac_cons (ic_v rfl (e4.dp (s3.dp d2))) (ac_cons t33 (ac_cons t33 ac_nil)))) H4 _ (fun _ _ e => e) Trk.nil fun H5 vs s5 d5 => ?_
        rw [cutS_nil] at d5
        cases d5 with
        | cons k1 d5 =>
        cases d5 with
        | cons k2 d5 =>
        cases d5 with
        | cons k3 d5 =>
        cases d5 with
        | cons k4 d5 =>
        cases d5
        exact ⟨_, _, _, _, wB, qB, _, r1, g1, r2, g2, rfl, k1, k2, k3, k4, nm_B, List.mem_cons_of_mem _ List.mem_cons_self, hP, fun H6 s6 => q' H6 _ (s5.trans s6) (.bl _)⟩
      refine (ic_and (one ⟨by decide, by decide, by decide, by decide⟩) (one ⟨by decide, by decide, by decide, by decide⟩)) H3 _ (fun _ _ e => e) Trk.nil fun H7 z s7 d7 => ?_
      rw [cutS_nil] at d7
      cases d7
      exact kq _ (s1.trans (sc.trans (s2.trans (s3.trans s7))))
end
end Jl

set_option Elab.async false
set_option linter.all false
set_option maxRecDepth 100000
set_option maxHeartbeats 1000000
set_option pp.maxSteps 300
namespace Jl
open PySem PySem.Spec PyProof.Rows L2
open Evl (sz_of sz_lt)
local macro_rules | `(tactic| walk_at "at") => `(tactic| first | exact box0 | exact box1 | exact box2)
local macro_rules | `(tactic| walk_at "sq") => `(tactic| first | (show SqL _ _ _ _; assumption) | (show SqT _ _ _ _; assumption) | (show _ = some _; assumption))
local macro_rules | `(tactic| walk_at "side") => `(tactic| first
  | (show (0 : Int) < _; decide)
  | (show (0 : Int) < _; omega)
  | exact ⟨by decide, by decide, by decide⟩
  | exact sz_of (Nat.le_of_ble_eq_true rfl)
  | exact rfl
  | exact Or.inl (by decide)
  | exact Or.inr (by decide)
  | exact Or.inr ⟨by omega, by omega⟩
  | exact Or.inl ⟨by omega, by omega⟩
  | exact ⟨by decide, by decide +kernel⟩)
local macro_rules | `(tactic| walk_at "ev1") => `(tactic| first
  | refine ⟨_, rfl, ?_⟩
  | refine ⟨_, _, rfl, rfl, ?_⟩
  | refine ⟨_, _, _, _, rfl, rfl, (by walk_at "sq"), (by walk_at "at"), ?_⟩
  | refine ⟨_, _, rfl, (by walk_at "sq"), ?_⟩
  | refine ⟨_, _, rfl, Or.inl (by walk_at "sq"), ?_⟩
  | refine ⟨_, _, rfl, Or.inr (by walk_at "sq"), ?_⟩
  | refine Or.inl ⟨_, rfl, ?_⟩
  | refine Or.inr ⟨_, rfl, ?_⟩
  | refine ⟨(by walk_at "side"), ?_⟩
  | refine ⟨.inl ⟨rfl, _, (by walk_at "sq")⟩, ?_⟩
  | refine ⟨_, _, rfl, ?_⟩)
local macro_rules | `(tactic| walk_at "nrm") => `(tactic| dsimp only [tNil, tCons, tC, tCB])
local macro_rules | `(tactic| walk_at "ev") => `(tactic| repeat (walk_at "ev1"))
abbrev sc_w_of_N : List Str := ["_law_box_here", "_law_some"]
abbrev s_w_of : Stmt := topS 32
theorem sc_w_of : FnScope ["_law_box_here", "_law_some"] ["_law_box_here", "_law_some"] (defScope s_w_of) := ⟨rfl, rfl, rfl, by decide +kernel, rfl, by decide +kernel, by decide +kernel⟩
section
variable {P : Program} {w : World} {K : PySem.W.Frag} {mg : Str → Option Value} {base : Heap}
def spOf (K : PySem.W.Frag) : Sp := fun vs H Q _ => ∃ (b sa : Addr) (fb : Bool) (xs bx : List V) (N : Nat), vs = [.ref b, .ref sa] ∧ H b = some (.lst bx) ∧ BoxL bx N ∧ N < 2 ^ 50 ∧ SqF fb K (cutS [b] H) sa xs ∧ 1 ≤ xs.length ∧ xs.length ≤ 100000 ∧
  ∀ (r : Nat) (x : V) (bx' : List V), xs[r]? = some x → BoxL bx' (N + 1) → Q x (upd H b (.lst bx'))
theorem ok_w_of {f fT : Addr} {fd fdT : FuncData} {k : Nat} (F : Fun K "_law_of" "_law_of" s_w_of f fd)
    (G_w_take : FnOk P w K mg base CX0 k fT fdT ["_law_box_here", "_law_below"] spTake2) (g_w_take : mg "_law_take" = some (.ref fT)) (F_w_take : Fun K "_law_take" "_law_take" s_w_take fT fdT) (b_w_take : Binds K fdT ["_law_box_here", "_law_below"] [])
    (m_len : mg "len" = none) : FnOk P w K mg base CX0 (k + 1) f fd ["_law_box_here", "_law_some"] (spOf K) := by
  refine F.ok sc_w_of (fun vs H Q E h => ?_) (fun cdv A outer s0 H vs Q E hr h => ?_)
  · obtain ⟨b, sa, fb, xs, bx, N, rfl, _⟩ := h
    rfl
  · obtain ⟨b, sa, fb, xs, bx, N, rfl, hb, hB, hN, hS, l1, l2, q⟩ := h
    refine ⟨_, (pss_one (ps_ret (pe_ix ix_lt (pv 1) (pe_call G_w_take hr (by rfl) g_w_take F_w_take.kp b_w_take .nil pass0 (pa_cons (pv 0) (pa_cons (pe_callB call_len_seq (by rfl) m_len PySem.boot_len (pa_cons (pv 1) pa_nil)) pa_nil))) (fun _ _ => rfl)))), ?_⟩
    refine ⟨_, rfl, _, rfl, _, rfl, ?_⟩
    refine ⟨sa, xs, rfl, (cutS_le.sqF hS).or, ?_⟩
    refine ⟨b, (xs.length : Nat), bx, N, rfl, hb, hB, by omega, by omega, small8000 (by omega), fun r bx1 r0 r1 hB1 => ?_⟩
    have hc : cutS [b] (upd H b (.lst bx1)) = cutS [b] H := cutS_upd List.mem_cons_self
    have hr2 : r.toNat < xs.length := by omega
    have hat : atI xs r = some xs[r.toNat] := at_of (j := r.toNat) (by omega) (List.getElem?_eq_getElem hr2)
    exact rIxF_at (cutS_le.sqF (by rw [hc]; exact hS)) hat (q r.toNat _ bx1 (List.getElem?_eq_getElem hr2) hB1)
end
theorem pools : nmMid ∉ poolW ∧ nmB ∉ poolQ ∧ nmZ ∉ poolQ ∧ (∀ x ∈ poolW, PyData.strOk x = true) ∧ (∀ x ∈ poolQ, PyData.strOk x = true) ∧ nmMid ∉ tgT ∧ nmB ∉ nmR ∧ nmZ ∉ nmR := by decide +kernel
theorem nm_good {ws : List Str} {qs : List QD} (g : GoodNet 5 7 6 ws qs) : NM ws qs := by
  obtain ⟨l, hl, _, hp, k, e⟩ := g.qn
  obtain ⟨p1, p2, p3, p4, p5, _⟩ := pools
  have inQ : ∀ x ∈ qs.map QD.nm, x ∈ poolQ := fun x hx => by
    rw [e] at hx
    exact hp x (List.mem_of_mem_take hx)
  refine ⟨g.wn, fun e => ?_, g.wl, g.ql, ⟨fun q hq => ⟨(g.qq q hq).1, (g.qq q hq).2.1, (g.qq q hq).2.2.1⟩, ?_⟩, fun q hq => ?_, fun x hx => p4 x (g.wp x hx), fun q hq => p5 _ (inQ _ (List.mem_map_of_mem hq)), fun h => p1 (g.wp _ h), fun h => p2 (inQ _ h), fun h => p3 (inQ _ h)⟩
  · have := g.w2
    rw [e] at this
    exact absurd this (by decide)
  · rw [e]
    exact hl.sublist (List.take_sublist k l)
  · obtain ⟨_, _, _, a, b, c⟩ := g.qq q hq
    exact ⟨a, b, by omega⟩
theorem nm_twin {ws : List Str} {qs : List QD} (g : NWb (10 ^ 8) ws qs) : NM ws qs := by
  obtain ⟨g1, _, gb, g2, g3, g4, g5, g6, g7⟩ := g
  obtain ⟨_, _, _, _, _, p6, p7, p8⟩ := pools
  have inQ : ∀ x ∈ qs.map QD.nm, x ∈ nmR := fun x hx => by
    obtain ⟨q, hq, rfl⟩ := List.mem_map.mp hx
    exact (g6 q hq).2
  refine ⟨g1.wn, fun e => ?_, by omega, by omega, g3, fun q hq => gb q hq, g1.ok, fun q hq => (g6 q hq).1, fun h => p6 (g7 _ h), fun h => p7 (inQ _ h), fun h => p8 (inQ _ h)⟩
  have := g1.w1
  rw [e] at this
  exact absurd this (by decide)
end Jl

set_option Elab.async false
set_option linter.all false
set_option maxRecDepth 100000
set_option maxHeartbeats 1000000
set_option pp.maxSteps 300
namespace Jl
open PySem PySem.Spec PyProof.Rows L2
open Evl (sz_of sz_lt)
local macro_rules | `(tactic| walk_at "at") => `(tactic| first | exact box0 | exact box1 | exact box2)
local macro_rules | `(tactic| walk_at "sq") => `(tactic| first | (show SqL _ _ _ _; assumption) | (show SqT _ _ _ _; assumption) | (show _ = some _; assumption))
local macro_rules | `(tactic| walk_at "side") => `(tactic| first
  | (show (0 : Int) < _; decide)
  | (show (0 : Int) < _; omega)
  | exact ⟨by decide, by decide, by decide⟩
  | exact sz_of (Nat.le_of_ble_eq_true rfl)
  | exact rfl
  | exact Or.inl (by decide)
  | exact Or.inr (by decide)
  | exact Or.inr ⟨by omega, by omega⟩
  | exact Or.inl ⟨by omega, by omega⟩
  | exact ⟨by decide, by decide +kernel⟩)
local macro_rules | `(tactic| walk_at "ev1") => `(tactic| first
  | refine ⟨_, rfl, ?_⟩
  | refine ⟨_, _, rfl, rfl, ?_⟩
  | refine ⟨_, _, _, _, rfl, rfl, (by walk_at "sq"), (by walk_at "at"), ?_⟩
  | refine ⟨_, _, rfl, (by walk_at "sq"), ?_⟩
  | refine ⟨_, _, rfl, Or.inl (by walk_at "sq"), ?_⟩
  | refine ⟨_, _, rfl, Or.inr (by walk_at "sq"), ?_⟩
  | refine Or.inl ⟨_, rfl, ?_⟩
  | refine Or.inr ⟨_, rfl, ?_⟩
  | refine ⟨(by walk_at "side"), ?_⟩
  | refine ⟨.inl ⟨rfl, _, (by walk_at "sq")⟩, ?_⟩
  | refine ⟨_, _, rfl, ?_⟩)
local macro_rules | `(tactic| walk_at "nrm") => `(tactic| dsimp only [tNil, tCons, tC, tCB])
local macro_rules | `(tactic| walk_at "ev") => `(tactic| repeat (walk_at "ev1"))
abbrev sc_w_right_N : List Str := ["_law_box_here", "_law_turn", "_law_web_here", "_law_some", "_law_row", "_law_first", "_law_last"]
abbrev s_w_right : Stmt := topS 40
theorem sc_w_right : FnScope ["_law_box_here", "_law_turn", "_law_web_here", "_law_some", "_law_row", "_law_first", "_law_last"] ["_law_box_here"] (defScope s_w_right) := ⟨rfl, rfl, rfl, by decide +kernel, rfl, by decide +kernel, by decide +kernel⟩
section
variable {P : Program} {w : World} {K : PySem.W.Frag} {mg : Str → Option Value} {base : Heap}
def spRight (K : PySem.W.Frag) : Sp := fun vs H Q _ => ∃ (b : Addr) (bx : List V) (N : Nat), vs = [.ref b] ∧ H b = some (.lst bx) ∧ BoxL bx N ∧ N < 2 ^ 40 ∧ ∀ H', Same (cutS [b] H) H' → Q (.bl true) H'
theorem ok_w_right {f fT fW fV fO fH fP fB : Addr} {fd fdT fdW fdV fdO fdH fdP fdB : FuncData} {k : Nat} (F : Fun K "_law_right" "_law_right" s_w_right f fd)
    (G_w_take : FnOk P w K mg base CX0 k fT fdT ["_law_box_here", "_law_below"] spTake2) (g_w_take : mg "_law_take" = some (.ref fT)) (F_w_take : Fun K "_law_take" "_law_take" s_w_take fT fdT) (b_w_take : Binds K fdT ["_law_box_here", "_law_below"] [])
    (G_w_twin_web : FnOk P w K mg base CX0 k fW fdW ["_law_box_here", "_law_high"] (spTwin K)) (g_w_twin_web : mg "_law_twin_web" = some (.ref fW)) (F_w_twin_web : Fun K "_law_twin_web" "_law_twin_web" s_w_twin_web fW fdW) (b_w_twin_web : Binds K fdW ["_law_box_here", "_law_high"] [])
    (G_w_web : FnOk P w K mg base CX0 k fV fdV ["_law_box_here", "_law_size_so", "_law_most", "_law_high"] (spWeb K)) (g_w_web : mg "_law_web" = some (.ref fV)) (F_w_web : Fun K "_law_web" "_law_web" s_w_web fV fdV) (b_w_web : Binds K fdV ["_law_box_here", "_law_size_so", "_law_most", "_law_high"] [])
    (G_w_of : FnOk P w K mg base CX0 k fO fdO ["_law_box_here", "_law_some"] (spOf K)) (g_w_of : mg "_law_of" = some (.ref fO)) (F_w_of : Fun K "_law_of" "_law_of" s_w_of fO fdO) (b_w_of : Binds K fdO ["_law_box_here", "_law_some"] [])
    (G_w_hand_right : FnOk P w K mg base CX0 k fH fdH [] spHandR) (g_w_hand_right : mg "_law_hand_right" = some (.ref fH)) (F_w_hand_right : Fun K "_law_hand_right" "_law_hand_right" s_w_hand_right fH fdH) (b_w_hand_right : Binds K fdH [] [])
    (G_w_parted : FnOk P w K mg base CX0 k fP fdP ["_law_box_here", "_law_row"] (spPartW K)) (g_w_parted : mg "_law_parted" = some (.ref fP)) (F_w_parted : Fun K "_law_parted" "_law_parted" s_w_parted fP fdP) (b_w_parted : Binds K fdP ["_law_box_here", "_law_row"] [])
    (G_w_both_right : FnOk P w K mg base CX0 k fB fdB ["_law_web_here", "_law_row", "_law_first", "_law_last"] (spBoth K)) (g_w_both_right : mg "_law_both_right" = some (.ref fB)) (F_w_both_right : Fun K "_law_both_right" "_law_both_right" s_w_both_right fB fdB) (b_w_both_right : Binds K fdB ["_law_web_here", "_law_row", "_law_first", "_law_last"] [])
    (m_range : mg "range" = none) : FnOk P w K mg base CX0 (k + 1) f fd ["_law_box_here"] (spRight K) := by
  refine F.ok sc_w_right (fun vs H Q E h => ?_) (fun cdv A outer s0 H vs Q E hr h => ?_)
  · obtain ⟨b, bx, N, rfl, _⟩ := h
    rfl
  · obtain ⟨b, bx, N, rfl, hb, hB, hN, q⟩ := h
    refine ⟨_, (pss_cons (ps_if (pt_not (pt_val (pe_call0 G_w_hand_right hr (by rfl) g_w_hand_right F_w_hand_right.kp b_w_hand_right .nil pass0))) (pss_one (ps_ret pe_bl)) pss_nil) 
    (pss_cons (ps_forX (ps_for PassesOwn.never rfl (pi_range1 (by rfl) m_range (pa_cons pe_int pa_nil)) (pg_name (i := 1) sc_w_right.nd rfl (Or.inl rfl)) 
      (pss_cons (ps_set (i := 2) sc_w_right.nd rfl (Or.inl rfl) (pe_ifExp (pt_cmpR op_eq (pe_call G_w_take hr (by rfl) g_w_take F_w_take.kp b_w_take .nil pass0 (pa_cons (pv 0) (pa_cons pe_int pa_nil))) pe_int (nomark _)) (pe_call G_w_twin_web hr (by rfl) g_w_twin_web F_w_twin_web.kp b_w_twin_web .nil pass0 (pa_cons (pv 0) (pa_cons pe_int pa_nil))) (pe_call G_w_web hr (by rfl) g_w_web F_w_web.kp b_w_web .nil pass0 (pa_cons (pv 0) (pa_cons pe_int (pa_cons pe_int (pa_cons pe_int pa_nil))))))) 
      (pss_cons (ps_setLcX (ps_setLc (i := 3) (own := [("_law_row", 4)]) (g := gName 4) (tt := (tTest (tOp (rI0 fun i j => .bl (decide (j < i))) (tOp (rIxF K) (tVar 4) (tC (.int 3))) (tOp (rIxF K) (tVar 4) (tC (.int 4)))))) rfl sc_w_right.nd rfl rfl (sw_true rfl rfl rfl (by decide +kernel)) (pi_seq (pe_ix ix_lt (pv 2) pe_int (fun _ _ => rfl))) (blkOk_by (own := [("_law_row", 4)]) (N := sc_w_right_N) (sc := defScope s_w_right) (by decide +kernel)) (fun _ _ _ _ _ => pg_name (i := 4) sc_w_right.nd rfl (Or.inl rfl)) (fun _ _ _ _ _ => (pts_one (pt_cmpR op_gt (pe_ix ix_lt (pv 4) pe_int (fun _ _ => rfl)) (pe_ix ix_lt (pv 4) pe_int (fun _ _ => rfl)) (nomark _)))) (fun _ _ _ _ _ => (pv 4)))) 
      (pss_one (ps_if (pt_cmpR (op_neD hr.units) (pv 3) (pe_lst pa_nil) (nomark _)) 
        (pss_cons (ps_set (i := 4) sc_w_right.nd rfl (Or.inl rfl) (pe_call G_w_of hr (by rfl) g_w_of F_w_of.kp b_w_of .nil pass0 (pa_cons (pv 0) (pa_cons (pv 3) pa_nil)))) 
        (pss_cons (ps_asg (pe_call G_w_parted hr (by rfl) g_w_parted F_w_parted.kp b_w_parted .nil pass0 (pa_cons (pv 0) (pa_cons (pv 4) pa_nil))) (pg_tup rfl (pgs_cons (pg_name (i := 5) sc_w_right.nd rfl (Or.inl rfl)) (pgs_cons (pg_name (i := 6) sc_w_right.nd rfl (Or.inl rfl)) pgs_nil)))) 
        (pss_one (ps_if (pt_not (pt_val (pe_call G_w_both_right hr (by rfl) g_w_both_right F_w_both_right.kp b_w_both_right .nil pass0 (pa_cons (pv 2) (pa_cons (pv 4) (pa_cons (pv 5) (pa_cons (pv 6) pa_nil))))))) (pss_one (ps_ret pe_bl)) pss_nil)))) pss_nil)))))) 
    (pss_one (ps_ret pe_bl)))), ?_⟩
    rw [show L2.start (["_law_box_here", "_law_turn", "_law_web_here", "_law_some", "_law_row", "_law_first", "_law_last"] : List Str) [.ref b] = [some (.ref b), none, none, none, none, none, none] from rfl]
    refine ⟨rfl, fun H0 s0 => ?_⟩
    refine ⟨_, rfl, iteF ?_⟩
    dsimp only [tNext]
    replace hb := s0 _ _ hb
    have S0 := cutS_mono (S := [b]) s0
    refine for_of ?_
    refine ⟨6, rfl, by decide, by decide, ?_⟩
    refine forR_it (walk_range (lo := 0) (n := 6)) (fun i σ Hc => ∃ (x1 x2 x3 x4 x5 x6 : Option V) (bx : List V), σ = [some (.ref b), x1, x2, x3, x4, x5, x6] ∧ Hc b = some (.lst bx) ∧ BoxL bx (N + 1000 * i) ∧ Same (cutS [b] H) (cutS [b] Hc)) ⟨_, _, _, _, _, _, bx, rfl, hb, hB, S0⟩ (fun _ _ _ _ _ => trivial) (fun i x σ Hc Hc' hi hh y => ?_) (fun σ Hc hh => ?_)
    · obtain ⟨x1, x2, x3, x4, x5, x6, bx, rfl, hb, hB, sc⟩ := hh
      obtain ⟨rfl, rfl⟩ := y
      refine seq_byC (fun σ Hd => ∃ (v : V) (ws : List Str) (qs : List QD) (bx : List V), σ = [some (.ref b), some (.int (0 + (i : Nat))), some v, x3, x4, x5, x6] ∧ NM ws qs ∧ Dp K (cutS [b] Hd) v (netD true ws qs) ∧ Hd b = some (.lst bx) ∧ BoxL bx (N + 1000 * i + 900) ∧ Same (cutS [b] H) (cutS [b] Hd)) (fun σ Hd hh => ?_) (fun D' hD' => ?_)
      · obtain ⟨v, ws, qs, bx2, rfl, hM, hD, hb2, hB2, sd⟩ := hh
        clear hb hB sc
        have hDd := cutS_le.dp hD
        obtain ⟨a0, b1, b2, xq, rfl, Nc⟩ := netAt hD
        have N0 := Nc.same (cutS_le (S := [b]) (H := Hd))
        have i1 : atI [V.ref b1, V.ref b2] 1 = some (.ref b2) := atI_nat (j := 1) rfl
        have q8 := hM.q8
        have w6 := hM.w6
        have okq : ∀ q ∈ qs, OkE (q.d true) := fun q hq => by
          obtain ⟨k1, k2, _⟩ := hM.ng.q1 q hq
          exact okE_q (hM.oq q hq) (hM.ow _ k1) (hM.ow _ k2)
        refine asg_of ?_
        refine lcs (K := K) (fb := true) qs (fun x q => Dp K (cutS [b] Hd) x (q.d true)) (fun H' u q => Dp K (cutS [b] H') u (q.d true)) (fun q => decide (q.gap < q.room)) (fun R' r => ⟨_, rfl, rIxF_at N0.h0 i1 r⟩) N0.h2 (fun k y z g1 g2 => ?_) N0.ll (by omega) (fun _ _ _ _ e h => (cutS_mono e).dp h) (fun x => rfl) (fun y z H4 hz e4 hy Q' q' => ?_) (fun y z H4 TT hz ht e4 eT tr hy _ Q' q' => ?_) (fun D ys H4 s4 hD0 hD1 hA => ?_)
        · obtain ⟨d, e1, e2⟩ := dpa_get (net_all Nc) g1
          rw [List.getElem?_map, g2] at e1
          cases e1
          exact e2
        · obtain ⟨ya, rfl, hs⟩ := dp_q hy
          have hs4 : SqT K H4 ya _ := cutS_le.sqT ((cutS_mono e4).sqT hs)
          refine ⟨_, rfl, rIxF_at (f := true) hs4 (atI_nat (j := 3) rfl) ?_⟩
          refine ⟨_, rfl, rIxF_at (f := true) hs4 (atI_nat (j := 4) rfl) ?_⟩
          exact ⟨_, _, rfl, rfl, _, rfl, q' H4 fun _ _ e => e⟩
        · exact ⟨_, rfl, q' H4 _ (fun _ _ e => e) ((cutS_mono eT).dp hy)⟩
        · have hA1 : DpAll K (cutS [b] (cutS [D] H4)) ys ((qs.filter fun q => decide (q.gap < q.room)).map (QD.d true)) := a2_dpa hA
          have nDb : D ≠ b := fun z => by
            rw [z, hb2] at hD0
            cases hD0
          have hb4 := s4 _ _ hb2
          have S4 := sd.trans (cutS_mono (S := [b]) s4)
          have hA2 : DpAll K (cutS [b] H4) ys ((qs.filter fun q => decide (q.gap < q.room)).map (QD.d true)) := (cutS_mono (S := [b]) cutS_le).dpa hA1
          have fl := List.length_filter_le (fun q : QD => decide (q.gap < q.room)) qs
          have yl := dpa_len hA2
          rw [List.length_map] at yl
          have hD4 := (cutS_mono (S := [b]) s4).dp hD
          refine ne_nilD (i := 3) rfl (sql_of hD1) (cutS_le.dpa hA2) (fun d hd => ?_) fun H5 s5 => ?_
          · obtain ⟨z, hz, rfl⟩ := List.mem_map.mp hd
            exact okq z (List.mem_filter.mp hz).1
          · have hb5 := s5 _ _ hb4
            have S5 := S4.trans (cutS_mono (S := [b]) s5)
            refine ⟨_, rfl, ?_⟩
            cases hf : (qs.filter fun q => decide (q.gap < q.room)) with
            | nil =>
              refine iteF ?_
              exact ⟨_, _, _, _, _, _, bx2, rfl, hb5, hB2.mono (by omega), S5⟩
            | cons z zs =>
              refine iteT ?_
              have hD5 : SqF false K (cutS [b] H5) D ys := sql_of (cutS_at (s5 _ _ hD1) (not1 nDb))
              have hA5 := (cutS_mono (S := [b]) s5).dpa hA2
              have hW5 := (cutS_mono (S := [b]) s5).dp hD4
              have y1 : 1 ≤ ys.length := by
                rw [yl, hf]
                exact Nat.succ_le_succ (Nat.zero_le _)
              refine asg_of ?_
              refine ⟨_, rfl, _, rfl, b, D, false, ys, bx2, _, rfl, hb5, hB2, by omega, hD5, y1, by omega, fun r x bx6 hx hB6 => ?_⟩
              obtain ⟨d, e1, e2⟩ := dpa_get hA5 hx
              rw [List.getElem?_map] at e1
              obtain ⟨q0, hg, rfl⟩ := Option.map_eq_some_iff.mp e1
              have hq0 := List.mem_of_getElem? hg
              obtain ⟨hm0, hlt⟩ := List.mem_filter.mp hq0
              have hlt : q0.gap < q0.room := of_decide_eq_true hlt
              obtain ⟨g0, _, r0⟩ := hM.bd q0 hm0
              have hb6 : (upd H5 b (.lst bx6)) b = some (.lst bx6) := upd_same
              have c6 : cutS [b] (upd H5 b (.lst bx6)) = cutS [b] H5 := cutS_upd List.mem_cons_self
              rw [← c6] at e2 hW5 S5
              generalize upd H5 b (.lst bx6) = H6 at hb6 e2 hW5 S5 ⊢
              dsimp only [List.set]
              refine ⟨_, rfl, _, rfl, b, x, q0, bx6, _, rfl, hb6, hB6, by omega, e2, g0, hlt, by omega, fun H7 u bx7 r1 g1 r2 g2 hP d7 hb7 hB7 s7 => ?_⟩
              obtain ⟨ua, ux, rfl, hu1, hu2⟩ := Dp.seq_of (f := true) (show Dp K (cutS [b] H7) u (seqD true [.tuple [.int r1, .int g1], .tuple [.int r2, .int g2]]) from d7)
              cases hu2 with
              | cons k1 hu2 =>
              cases hu2 with
              | cons k2 hu2 =>
              cases hu2
              refine ⟨ua, _, rfl, cutS_le.sqT hu1, rfl, _, _, rfl, _, _, rfl, rfl, ?_⟩
              dsimp only [List.set]
              refine ⟨_, rfl, _, rfl, _, rfl, _, rfl, _, _, _, _, ws, qs, q0, r1, g1, r2, g2, rfl, cutS_le.dp (s7.dp hW5), cutS_le.dp (s7.dp e2), cutS_le.dp k1, cutS_le.dp k2, hM, hm0, hP, fun H8 s8 => ?_⟩
              refine ⟨_, rfl, iteF ?_⟩
              exact ⟨_, _, _, _, _, _, bx7, rfl, s8 _ _ hb7, hB7.mono (by omega), S5.trans (s7.trans (cutS_mono s8))⟩
      · refine ⟨_, rfl, b, 2, bx, _, rfl, hb, hB, by omega, by decide, small8000 ⟨by decide, by decide⟩, fun r bx1 r0 r1 hB1 => ?_⟩
        have hb1 : (upd Hc' b (.lst bx1)) b = some (.lst bx1) := upd_same
        have S1 : Same (cutS [b] H) (cutS [b] (upd Hc' b (.lst bx1))) := by
          rw [cutS_upd List.mem_cons_self]
          exact sc
        generalize upd Hc' b (.lst bx1) = H1 at hb1 S1 ⊢
        walk_at "ev"
        by_cases hr0 : r = 0
        · rw [show decide (V.int r = V.int 0) = true from decide_eq_true (by rw [hr0])]
          refine iteT ?_
          refine ⟨_, rfl, b, 6, bx1, _, rfl, hb1, hB1, by omega, by decide, by decide, fun H2 v ws qs bx2 hW dW _ hb2 hB2 s2 => ?_⟩
          exact hD' _ _ ⟨v, ws, qs, bx2, rfl, nm_twin hW, dW, hb2, hB2.mono (by omega), S1.trans s2⟩
        · rw [show decide (V.int r = V.int 0) = false from decide_eq_false fun z => hr0 (V.int.inj z)]
          refine iteF ?_
          refine ⟨_, rfl, b, 5, 7, 6, bx1, _, rfl, hb1, hB1, by omega, by decide, by decide, by decide, by decide, by decide, by decide, fun H2 v ws qs bx2 hW dW _ hb2 hB2 s2 => ?_⟩
          exact hD' _ _ ⟨v, ws, qs, bx2, rfl, nm_good hW, dW, hb2, hB2.mono (by omega), S1.trans s2⟩
    · obtain ⟨x1, x2, x3, x4, x5, x6, bx, rfl, hb, hB, sc⟩ := hh
      walk_at "ev"
      exact q Hc (sc.trans cutS_le)
end
end Jl

set_option Elab.async false
set_option linter.all false
set_option maxRecDepth 100000
set_option maxHeartbeats 4000000
set_option pp.maxSteps 900
namespace Jl
open PySem PySem.Spec PyProof.Rows L2
open Evl (sz_of sz_lt)
local macro_rules | `(tactic| walk_at "at") => `(tactic| first | exact box0 | exact box1 | exact box2)
local macro_rules | `(tactic| walk_at "sq") => `(tactic| first | (show SqL _ _ _ _; assumption) | (show SqT _ _ _ _; assumption) | (show _ = some _; assumption))
local macro_rules | `(tactic| walk_at "side") => `(tactic| first
  | (show (0 : Int) < _; decide)
  | (show (0 : Int) < _; omega)
  | exact ⟨by decide, by decide, by decide⟩
  | exact sz_of (Nat.le_of_ble_eq_true rfl)
  | exact rfl
  | exact Or.inl (by decide)
  | exact Or.inr (by decide)
  | exact Or.inr ⟨by omega, by omega⟩
  | exact Or.inl ⟨by omega, by omega⟩
  | exact ⟨by decide, by decide +kernel⟩)
local macro_rules | `(tactic| walk_at "ev1") => `(tactic| first
  | refine ⟨_, rfl, ?_⟩
  | refine ⟨_, _, rfl, rfl, ?_⟩
  | refine ⟨_, _, _, _, rfl, rfl, (by walk_at "sq"), (by walk_at "at"), ?_⟩
  | refine ⟨_, _, rfl, (by walk_at "sq"), ?_⟩
  | refine ⟨_, _, rfl, Or.inl (by walk_at "sq"), ?_⟩
  | refine ⟨_, _, rfl, Or.inr (by walk_at "sq"), ?_⟩
  | refine Or.inl ⟨_, rfl, ?_⟩
  | refine Or.inr ⟨_, rfl, ?_⟩
  | refine ⟨(by walk_at "side"), ?_⟩
  | refine ⟨.inl ⟨rfl, _, (by walk_at "sq")⟩, ?_⟩
  | refine ⟨_, _, rfl, ?_⟩)
local macro_rules | `(tactic| walk_at "nrm") => `(tactic| dsimp only [tNil, tCons, tC, tCB])
local macro_rules | `(tactic| walk_at "ev") => `(tactic| repeat (walk_at "ev1"))

abbrev sc_law_N : List Str := ["_law_script", "_law_cells_here", "_law_k"]
abbrev s_law : Stmt := topS 41
theorem sc_law : FnScope ["_law_script", "_law_cells_here", "_law_k"] ["_law_script"] (defScope s_law) := ⟨rfl, rfl, rfl, by decide +kernel, rfl, by decide +kernel, by decide +kernel⟩
theorem ne_of_none {H : Hp} {a c : Addr} {o : HO} (h : H a = some o) (hc : H c = none) : a ≠ c := fun z => by
  rw [z, hc] at h
  cases h
section
variable {P : Program} {w : World} {K : PySem.W.Frag} {mg : Str → Option Value} {base : Heap}
def spLaw (K : PySem.W.Frag) : Sp := fun vs H Q _ => ∃ (a : Addr) (ns : List Int), vs = [.ref a] ∧ SqL K H a (ns.map V.int) ∧ ns.length ≤ 63 ∧ ∀ H', Q (.bl true) H'
theorem ok_law {f fC fB fR : Addr} {fd fdC fdB fdR : FuncData} {k : Nat} (F : Fun K "law" "law" s_law f fd)
    (G_w_cells : FnOk P w K mg base CX0 k fC fdC ["_law_script", "_law_most"] (spCells K)) (g_w_cells : mg "_law_cells" = some (.ref fC)) (F_w_cells : Fun K "_law_cells" "_law_cells" s_w_cells fC fdC) (b_w_cells : Binds K fdC ["_law_script", "_law_most"] [])
    (G_w_box : FnOk P w K mg base CX0 k fB fdB ["_law_script", "_law_k"] (spBox K)) (g_w_box : mg "_law_box" = some (.ref fB)) (F_w_box : Fun K "_law_box" "_law_box" s_w_box fB fdB) (b_w_box : Binds K fdB ["_law_script", "_law_k"] [])
    (G_w_right : FnOk P w K mg base CX0 k fR fdR ["_law_box_here"] (spRight K)) (g_w_right : mg "_law_right" = some (.ref fR)) (F_w_right : Fun K "_law_right" "_law_right" s_w_right fR fdR) (b_w_right : Binds K fdR ["_law_box_here"] [])
    (m_all : mg "all" = none) (m_range : mg "range" = none) (m_len : mg "len" = none) : FnOk P w K mg base CX0 (k + 1) f fd ["_law_script"] (spLaw K) := by
  refine F.ok sc_law (fun vs H Q E h => ?_) (fun cdv A outer s0 H vs Q E hr h => ?_)
  · obtain ⟨a, ns, rfl, _⟩ := h
    rfl
  · obtain ⟨a, ns, rfl, hS, hn, q⟩ := h
    refine ⟨_, (pss_cons (ps_set (i := 1) sc_law.nd rfl (Or.inr rfl) (pe_call G_w_cells hr (by rfl) g_w_cells F_w_cells.kp b_w_cells .nil pass0 (pa_cons (pv 0) (pa_cons pe_int pa_nil)))) 
    (pss_one (ps_ret (pe_callB (cr_all rfl) (by rfl) m_all (by decide +kernel) (pa_cons (pe_lcX (pe_lc (own := [("_law_k", 2)]) (g := gName 2) (tt := tYes) (by rfl) sc_law.nd (pi_range1 (by rfl) m_range (pa_cons (pe_callB call_len_seq (by rfl) m_len PySem.boot_len (pa_cons (pv 1) pa_nil)) pa_nil)) (blkOk_by (own := [("_law_k", 2)]) (N := sc_law_N) (sc := defScope s_law) (by decide +kernel)) (fun _ _ _ _ _ => pg_name (i := 2) sc_law.nd rfl (Or.inl rfl)) (fun _ _ _ _ _ => pts_nil) (fun _ _ _ _ _ => (pe_call G_w_right hr (by rfl) g_w_right F_w_right.kp b_w_right .nil pass0 (pa_cons (pe_call G_w_box hr (by rfl) g_w_box F_w_box.kp b_w_box .nil pass0 (pa_cons (pv 1) (pa_cons (pv 2) pa_nil))) pa_nil))))) pa_nil))))), ?_⟩
    walk_at "ev"
    refine ⟨a, ns, 3, rfl, hS, hn, by decide, by decide, fun H1 p cs s1 hp hp1 hl => ?_⟩
    have hq1 : SqL K H1 p (cs.map V.int) := sql_of hp1
    walk_at "ev"
    refine lc_of ?_
    walk_at "ev"
    rw [List.length_map]
    refine ⟨by omega, by omega, ?_⟩
    rw [Int.toNat_natCast]
    intro D hD
    refine lc_it (walk_range (lo := 0) (n := cs.length)) (fun i H' => H' p = some (.lst (cs.map V.int)) ∧ H' D = some (.lst ((List.replicate i true).map V.bl))) ⟨(Same.upd hD) _ _ hp1, upd_same⟩ (fun _ _ _ _ => trivial) (fun i x H' H'' hi hh y => ?_) (fun H' hh => ?_)
    · obtain ⟨h1, h2⟩ := hh
      obtain ⟨rfl, hv⟩ := y
      have hv : x = .int (0 + (i : Int)) := hv
      rw [Int.zero_add] at hv
      subst hv
      refine ⟨rfl, ?_⟩
      dsimp only [tYes]
      rw [if_pos rfl]
      walk_at "ev"
      refine ⟨p, cs, i, rfl, sql_of h1, by omega, by omega, fun b c0 c1 hb k0 k1 k2 => ?_⟩
      walk_at "ev"
      refine ⟨b, _, 0, rfl, upd_same, ⟨c0, c1, 0, rfl, k0, k1, k2, by decide, by decide⟩, by decide, fun H3 s3 => ?_⟩
      have npb : p ≠ b := ne_of_none h1 hb
      have nDb : D ≠ b := ne_of_none h2 hb
      have g1 : H3 p = some (.lst (cs.map V.int)) := s3 _ _ (by rw [cutS_out (not1 npb), upd_ne npb]; exact h1)
      have g2 : H3 D = some (.lst ((List.replicate i true).map V.bl)) := s3 _ _ (by rw [cutS_out (not1 nDb), upd_ne nDb]; exact h2)
      have nDp : p ≠ D := ne_of_none hp1 hD
      refine ⟨_, g2, by rw [List.length_map, List.length_replicate]; exact sz_lt (by omega), ?_, ?_⟩
      · rw [upd_ne nDp]
        exact g1
      · rw [upd_same, List.replicate_succ', List.map_append]
        rfl
    · obtain ⟨h1, h2⟩ := hh
      refine ⟨D, _, rfl, sql_of h2, ?_⟩
      have e : (List.replicate cs.length true).all id = true := by
        rw [List.all_eq_true]
        exact fun b hb => List.eq_of_mem_replicate hb
      rw [e]
      exact q _
end
end Jl

set_option Elab.async false
set_option linter.all false
set_option maxRecDepth 100000
set_option maxHeartbeats 4000000
set_option pp.maxSteps 40
namespace Jl
open PySem PySem.Spec PyProof.Rows L2
open Evl (sz_of sz_lt)
local macro_rules | `(tactic| walk_at "at") => `(tactic| first | exact box0 | exact box1 | exact box2)
local macro_rules | `(tactic| walk_at "sq") => `(tactic| first | (show SqL _ _ _ _; assumption) | (show SqT _ _ _ _; assumption) | (show _ = some _; assumption))
local macro_rules | `(tactic| walk_at "side") => `(tactic| first
  | (show (0 : Int) < _; decide)
  | (show (0 : Int) < _; omega)
  | exact ⟨by decide, by decide, by decide⟩
  | exact sz_of (Nat.le_of_ble_eq_true rfl)
  | exact rfl
  | exact Or.inl (by decide)
  | exact Or.inr (by decide)
  | exact Or.inr ⟨by omega, by omega⟩
  | exact Or.inl ⟨by omega, by omega⟩
  | exact ⟨by decide, by decide +kernel⟩)
local macro_rules | `(tactic| walk_at "ev1") => `(tactic| first
  | refine ⟨_, rfl, ?_⟩
  | refine ⟨_, _, rfl, rfl, ?_⟩
  | refine ⟨_, _, _, _, rfl, rfl, (by walk_at "sq"), (by walk_at "at"), ?_⟩
  | refine ⟨_, _, rfl, (by walk_at "sq"), ?_⟩
  | refine ⟨_, _, rfl, Or.inl (by walk_at "sq"), ?_⟩
  | refine ⟨_, _, rfl, Or.inr (by walk_at "sq"), ?_⟩
  | refine Or.inl ⟨_, rfl, ?_⟩
  | refine Or.inr ⟨_, rfl, ?_⟩
  | refine ⟨(by walk_at "side"), ?_⟩
  | refine ⟨.inl ⟨rfl, _, (by walk_at "sq")⟩, ?_⟩
  | refine ⟨_, _, rfl, ?_⟩)
local macro_rules | `(tactic| walk_at "nrm") => `(tactic| dsimp only [tNil, tCons, tC, tCB])
local macro_rules | `(tactic| walk_at "ev") => `(tactic| repeat (walk_at "ev1"))

theorem all_mk {l : PySem.W.OpenLaw} {w : World} {K : PySem.W.Frag} {h : Heap} {mg : Str → Option Value} {fa C_Way f1 f2 f3 f4 f5 f6 f7 f8 f9 f10 f11 f12 f13 f14 f15 f16 f17 f18 f19 f20 f21 f22 f23 f24 f25 f26 f27 f28 f29 f30 f31 f32 f33 f34 : Addr} (X : K.In h) (G : h.Ns mainGlobals mg) (hfa : mg "law" = some (.ref fa))
    {od1 an1 od2 an2 od3 an3 od4 an4 od5 an5 od6 an6 od7 an7 od8 an8 od9 an9 od10 an10 od11 an11 od12 an12 od13 an13 od14 an14 od15 an15 od16 an16 od17 an17 od18 an18 od19 an19 od20 an20 od21 an21 od22 an22 od23 an23 od24 an24 od25 an25 od26 an26 od27 an27 od28 an28 od29 an29 od30 an30 od31 an31 od32 an32 od33 an33 od34 an34 : Option Addr} {sl1 sl2 sl3 sl4 sl5 sl6 sl7 sl8 sl9 sl10 sl11 sl12 sl13 sl14 sl15 sl16 sl17 sl18 sl19 sl20 sl21 sl22 sl23 sl24 sl25 sl26 sl27 sl28 sl29 sl30 sl31 sl32 sl33 sl34 : Array (Option Value)} {oc1 kV1 dc1 pm1 cd1 ct1 oc2 kV2 dc2 pm2 cd2 ct2 oc3 kV3 dc3 pm3 cd3 ct3 oc4 kV4 dc4 pm4 cd4 ct4 oc5 kV5 dc5 pm5 cd5 ct5 oc6 kV6 dc6 pm6 cd6 ct6 oc7 kV7 dc7 pm7 cd7 ct7 oc8 kV8 dc8 pm8 cd8 ct8 oc9 kV9 dc9 pm9 cd9 ct9 oc10 kV10 dc10 pm10 cd10 ct10 oc11 kV11 dc11 pm11 cd11 ct11 oc12 kV12 dc12 pm12 cd12 ct12 oc13 kV13 dc13 pm13 cd13 ct13 oc14 kV14 dc14 pm14 cd14 ct14 oc15 kV15 dc15 pm15 cd15 ct15 oc16 kV16 dc16 pm16 cd16 ct16 oc17 kV17 dc17 pm17 cd17 ct17 oc18 kV18 dc18 pm18 cd18 ct18 oc19 kV19 dc19 pm19 cd19 ct19 oc20 kV20 dc20 pm20 cd20 ct20 oc21 kV21 dc21 pm21 cd21 ct21 oc22 kV22 dc22 pm22 cd22 ct22 oc23 kV23 dc23 pm23 cd23 ct23 oc24 kV24 dc24 pm24 cd24 ct24 oc25 kV25 dc25 pm25 cd25 ct25 oc26 kV26 dc26 pm26 cd26 ct26 oc27 kV27 dc27 pm27 cd27 ct27 oc28 kV28 dc28 pm28 cd28 ct28 oc29 kV29 dc29 pm29 cd29 ct29 oc30 kV30 dc30 pm30 cd30 ct30 oc31 kV31 dc31 pm31 cd31 ct31 oc32 kV32 dc32 pm32 cd32 ct32 oc33 kV33 dc33 pm33 cd33 ct33 oc34 kV34 dc34 pm34 cd34 ct34 : Value}
    (a1 : PySem.W.nsIn K mainGlobals "frozen" = some (some (.ref f1))) (l1 : K.lookup f1 = some ⟨oc1, od1, .func (PySem.W.fnOf "frozen" "frozen" (defArgs s_frozen) (defBody s_frozen) (defScope s_frozen) .none kV1 dc1 pm1 an1 cd1 ct1), sl1⟩) (c1 : PySem.W.codeIn K cd1 "frozen" = true) (k1 : PySem.W.keepIn K (.ref f1) = true)
    (a2 : PySem.W.nsIn K mainGlobals "check_worker" = some (some (.ref f2))) (l2 : K.lookup f2 = some ⟨oc2, od2, .func (PySem.W.fnOf "check_worker" "check_worker" (defArgs s_check_worker) (defBody s_check_worker) (defScope s_check_worker) .none kV2 dc2 pm2 an2 cd2 ct2), sl2⟩) (c2 : PySem.W.codeIn K cd2 "check_worker" = true) (k2 : PySem.W.keepIn K (.ref f2) = true)
    (a3 : PySem.W.nsIn K mainGlobals "step_over" = some (some (.ref f3))) (l3 : K.lookup f3 = some ⟨oc3, od3, .func (PySem.W.fnOf "step_over" "step_over" (defArgs s_step_over) (defBody s_step_over) (defScope s_step_over) .none kV3 dc3 pm3 an3 cd3 ct3), sl3⟩) (c3 : PySem.W.codeIn K cd3 "step_over" = true) (k3 : PySem.W.keepIn K (.ref f3) = true)
    (a4 : PySem.W.nsIn K mainGlobals "arcs_of" = some (some (.ref f4))) (l4 : K.lookup f4 = some ⟨oc4, od4, .func (PySem.W.fnOf "arcs_of" "arcs_of" (defArgs s_arcs_of) (defBody s_arcs_of) (defScope s_arcs_of) .none kV4 dc4 pm4 an4 cd4 ct4), sl4⟩) (c4 : PySem.W.codeIn K cd4 "arcs_of" = true) (k4 : PySem.W.keepIn K (.ref f4) = true)
    (a5 : PySem.W.nsIn K mainGlobals "least_sums" = some (some (.ref f5))) (l5 : K.lookup f5 = some ⟨oc5, od5, .func (PySem.W.fnOf "least_sums" "least_sums" (defArgs s_least_sums) (defBody s_least_sums) (defScope s_least_sums) .none kV5 dc5 pm5 an5 cd5 ct5), sl5⟩) (c5 : PySem.W.codeIn K cd5 "least_sums" = true) (k5 : PySem.W.keepIn K (.ref f5) = true)
    (a6 : PySem.W.nsIn K mainGlobals "ring_costs" = some (some (.ref f6))) (l6 : K.lookup f6 = some ⟨oc6, od6, .func (PySem.W.fnOf "ring_costs" "ring_costs" (defArgs s_ring_costs) (defBody s_ring_costs) (defScope s_ring_costs) .none kV6 dc6 pm6 an6 cd6 ct6), sl6⟩) (c6 : PySem.W.codeIn K cd6 "ring_costs" = true) (k6 : PySem.W.keepIn K (.ref f6) = true)
    (a7 : PySem.W.nsIn K mainGlobals "slack" = some (some (.ref f7))) (l7 : K.lookup f7 = some ⟨oc7, od7, .func (PySem.W.fnOf "slack" "slack" (defArgs s_slack) (defBody s_slack) (defScope s_slack) .none kV7 dc7 pm7 an7 cd7 ct7), sl7⟩) (c7 : PySem.W.codeIn K cd7 "slack" = true) (k7 : PySem.W.keepIn K (.ref f7) = true)
    (a8 : PySem.W.nsIn K mainGlobals "graded" = some (some (.ref f8))) (l8 : K.lookup f8 = some ⟨oc8, od8, .func (PySem.W.fnOf "graded" "graded" (defArgs s_graded) (defBody s_graded) (defScope s_graded) .none kV8 dc8 pm8 an8 cd8 ct8), sl8⟩) (c8 : PySem.W.codeIn K cd8 "graded" = true) (k8 : PySem.W.keepIn K (.ref f8) = true)
    (a9 : PySem.W.nsIn K mainGlobals "never_held" = some (some (.ref f9))) (l9 : K.lookup f9 = some ⟨oc9, od9, .func (PySem.W.fnOf "never_held" "never_held" (defArgs s_never_held) (defBody s_never_held) (defScope s_never_held) .none kV9 dc9 pm9 an9 cd9 ct9), sl9⟩) (c9 : PySem.W.codeIn K cd9 "never_held" = true) (k9 : PySem.W.keepIn K (.ref f9) = true)
    (a10 : PySem.W.nsIn K mainGlobals "ring_price" = some (some (.ref f10))) (l10 : K.lookup f10 = some ⟨oc10, od10, .func (PySem.W.fnOf "ring_price" "ring_price" (defArgs s_ring_price) (defBody s_ring_price) (defScope s_ring_price) .none kV10 dc10 pm10 an10 cd10 ct10), sl10⟩) (c10 : PySem.W.codeIn K cd10 "ring_price" = true) (k10 : PySem.W.keepIn K (.ref f10) = true)
    (a11 : PySem.W.nsIn K mainGlobals "cheapest_ring" = some (some (.ref f11))) (l11 : K.lookup f11 = some ⟨oc11, od11, .func (PySem.W.fnOf "cheapest_ring" "cheapest_ring" (defArgs s_cheapest_ring) (defBody s_cheapest_ring) (defScope s_cheapest_ring) .none kV11 dc11 pm11 an11 cd11 ct11), sl11⟩) (c11 : PySem.W.codeIn K cd11 "cheapest_ring" = true) (k11 : PySem.W.keepIn K (.ref f11) = true)
    (a12 : PySem.W.nsIn K mainGlobals "fewest_drops" = some (some (.ref f12))) (l12 : K.lookup f12 = some ⟨oc12, od12, .func (PySem.W.fnOf "fewest_drops" "fewest_drops" (defArgs s_fewest_drops) (defBody s_fewest_drops) (defScope s_fewest_drops) .none kV12 dc12 pm12 an12 cd12 ct12), sl12⟩) (c12 : PySem.W.codeIn K cd12 "fewest_drops" = true) (k12 : PySem.W.keepIn K (.ref f12) = true)
    (a13 : PySem.W.nsIn K mainGlobals "lowered" = some (some (.ref f13))) (l13 : K.lookup f13 = some ⟨oc13, od13, .func (PySem.W.fnOf "lowered" "lowered" (defArgs s_lowered) (defBody s_lowered) (defScope s_lowered) .none kV13 dc13 pm13 an13 cd13 ct13), sl13⟩) (c13 : PySem.W.codeIn K cd13 "lowered" = true) (k13 : PySem.W.keepIn K (.ref f13) = true)
    (a14 : PySem.W.nsIn K mainGlobals "parted" = some (some (.ref f14))) (l14 : K.lookup f14 = some ⟨oc14, od14, .func (PySem.W.fnOf "parted" "parted" (defArgs s_parted) (defBody s_parted) (defScope s_parted) .none kV14 dc14 pm14 an14 cd14 ct14), sl14⟩) (c14 : PySem.W.codeIn K cd14 "parted" = true) (k14 : PySem.W.keepIn K (.ref f14) = true)
    (a15 : PySem.W.nsIn K mainGlobals "free_lasso" = some (some (.ref f15))) (l15 : K.lookup f15 = some ⟨oc15, od15, .func (PySem.W.fnOf "free_lasso" "free_lasso" (defArgs s_free_lasso) (defBody s_free_lasso) (defScope s_free_lasso) .none kV15 dc15 pm15 an15 cd15 ct15), sl15⟩) (c15 : PySem.W.codeIn K cd15 "free_lasso" = true) (k15 : PySem.W.keepIn K (.ref f15) = true)
    (a16 : PySem.W.nsIn K mainGlobals "free_lassos" = some (some (.ref f16))) (l16 : K.lookup f16 = some ⟨oc16, od16, .func (PySem.W.fnOf "free_lassos" "free_lassos" (defArgs s_free_lassos) (defBody s_free_lassos) (defScope s_free_lassos) .none kV16 dc16 pm16 an16 cd16 ct16), sl16⟩) (c16 : PySem.W.codeIn K cd16 "free_lassos" = true) (k16 : PySem.W.keepIn K (.ref f16) = true)
    (a17 : PySem.W.nsIn K mainGlobals "needs_to" = some (some (.ref f17))) (l17 : K.lookup f17 = some ⟨oc17, od17, .func (PySem.W.fnOf "needs_to" "needs_to" (defArgs s_needs_to) (defBody s_needs_to) (defScope s_needs_to) .none kV17 dc17 pm17 an17 cd17 ct17), sl17⟩) (c17 : PySem.W.codeIn K cd17 "needs_to" = true) (k17 : PySem.W.keepIn K (.ref f17) = true)
    (a18 : PySem.W.nsIn K mainGlobals "earliest" = some (some (.ref f18))) (l18 : K.lookup f18 = some ⟨oc18, od18, .func (PySem.W.fnOf "earliest" "earliest" (defArgs s_earliest) (defBody s_earliest) (defScope s_earliest) .none kV18 dc18 pm18 an18 cd18 ct18), sl18⟩) (c18 : PySem.W.codeIn K cd18 "earliest" = true) (k18 : PySem.W.keepIn K (.ref f18) = true)
    (a19 : PySem.W.nsIn K mainGlobals "_law_box" = some (some (.ref f19))) (l19 : K.lookup f19 = some ⟨oc19, od19, .func (PySem.W.fnOf "_law_box" "_law_box" (defArgs s_w_box) (defBody s_w_box) (defScope s_w_box) .none kV19 dc19 pm19 an19 cd19 ct19), sl19⟩) (c19 : PySem.W.codeIn K cd19 "_law_box" = true) (k19 : PySem.W.keepIn K (.ref f19) = true)
    (a20 : PySem.W.nsIn K mainGlobals "_law_take" = some (some (.ref f20))) (l20 : K.lookup f20 = some ⟨oc20, od20, .func (PySem.W.fnOf "_law_take" "_law_take" (defArgs s_w_take) (defBody s_w_take) (defScope s_w_take) .none kV20 dc20 pm20 an20 cd20 ct20), sl20⟩) (c20 : PySem.W.codeIn K cd20 "_law_take" = true) (k20 : PySem.W.keepIn K (.ref f20) = true)
    (a21 : PySem.W.nsIn K mainGlobals "_law_cells" = some (some (.ref f21))) (l21 : K.lookup f21 = some ⟨oc21, od21, .func (PySem.W.fnOf "_law_cells" "_law_cells" (defArgs s_w_cells) (defBody s_w_cells) (defScope s_w_cells) .none kV21 dc21 pm21 an21 cd21 ct21), sl21⟩) (c21 : PySem.W.codeIn K cd21 "_law_cells" = true) (k21 : PySem.W.keepIn K (.ref f21) = true)
    (a22 : PySem.W.nsIn K mainGlobals "_law_of" = some (some (.ref f22))) (l22 : K.lookup f22 = some ⟨oc22, od22, .func (PySem.W.fnOf "_law_of" "_law_of" (defArgs s_w_of) (defBody s_w_of) (defScope s_w_of) .none kV22 dc22 pm22 an22 cd22 ct22), sl22⟩) (c22 : PySem.W.codeIn K cd22 "_law_of" = true) (k22 : PySem.W.keepIn K (.ref f22) = true)
    (a23 : PySem.W.nsIn K mainGlobals "_law_pick" = some (some (.ref f23))) (l23 : K.lookup f23 = some ⟨oc23, od23, .func (PySem.W.fnOf "_law_pick" "_law_pick" (defArgs s_w_pick) (defBody s_w_pick) (defScope s_w_pick) .none kV23 dc23 pm23 an23 cd23 ct23), sl23⟩) (c23 : PySem.W.codeIn K cd23 "_law_pick" = true) (k23 : PySem.W.keepIn K (.ref f23) = true)
    (a24 : PySem.W.nsIn K mainGlobals "_law_same" = some (some (.ref f24))) (l24 : K.lookup f24 = some ⟨oc24, od24, .func (PySem.W.fnOf "_law_same" "_law_same" (defArgs s_w_same) (defBody s_w_same) (defScope s_w_same) .none kV24 dc24 pm24 an24 cd24 ct24), sl24⟩) (c24 : PySem.W.codeIn K cd24 "_law_same" = true) (k24 : PySem.W.keepIn K (.ref f24) = true)
    (a25 : PySem.W.nsIn K mainGlobals "_law_web" = some (some (.ref f25))) (l25 : K.lookup f25 = some ⟨oc25, od25, .func (PySem.W.fnOf "_law_web" "_law_web" (defArgs s_w_web) (defBody s_w_web) (defScope s_w_web) .none kV25 dc25 pm25 an25 cd25 ct25), sl25⟩) (c25 : PySem.W.codeIn K cd25 "_law_web" = true) (k25 : PySem.W.keepIn K (.ref f25) = true)
    (a26 : PySem.W.nsIn K mainGlobals "_law_twin_web" = some (some (.ref f26))) (l26 : K.lookup f26 = some ⟨oc26, od26, .func (PySem.W.fnOf "_law_twin_web" "_law_twin_web" (defArgs s_w_twin_web) (defBody s_w_twin_web) (defScope s_w_twin_web) .none kV26 dc26 pm26 an26 cd26 ct26), sl26⟩) (c26 : PySem.W.codeIn K cd26 "_law_twin_web" = true) (k26 : PySem.W.keepIn K (.ref f26) = true)
    (a27 : PySem.W.nsIn K mainGlobals "_law_parted" = some (some (.ref f27))) (l27 : K.lookup f27 = some ⟨oc27, od27, .func (PySem.W.fnOf "_law_parted" "_law_parted" (defArgs s_w_parted) (defBody s_w_parted) (defScope s_w_parted) .none kV27 dc27 pm27 an27 cd27 ct27), sl27⟩) (c27 : PySem.W.codeIn K cd27 "_law_parted" = true) (k27 : PySem.W.keepIn K (.ref f27) = true)
    (a28 : PySem.W.nsIn K mainGlobals "_law_both_right" = some (some (.ref f28))) (l28 : K.lookup f28 = some ⟨oc28, od28, .func (PySem.W.fnOf "_law_both_right" "_law_both_right" (defArgs s_w_both_right) (defBody s_w_both_right) (defScope s_w_both_right) .none kV28 dc28 pm28 an28 cd28 ct28), sl28⟩) (c28 : PySem.W.codeIn K cd28 "_law_both_right" = true) (k28 : PySem.W.keepIn K (.ref f28) = true)
    (a29 : PySem.W.nsIn K mainGlobals "_law_hand_right" = some (some (.ref f29))) (l29 : K.lookup f29 = some ⟨oc29, od29, .func (PySem.W.fnOf "_law_hand_right" "_law_hand_right" (defArgs s_w_hand_right) (defBody s_w_hand_right) (defScope s_w_hand_right) .none kV29 dc29 pm29 an29 cd29 ct29), sl29⟩) (c29 : PySem.W.codeIn K cd29 "_law_hand_right" = true) (k29 : PySem.W.keepIn K (.ref f29) = true)
    (a30 : PySem.W.nsIn K mainGlobals "_law_right" = some (some (.ref f30))) (l30 : K.lookup f30 = some ⟨oc30, od30, .func (PySem.W.fnOf "_law_right" "_law_right" (defArgs s_w_right) (defBody s_w_right) (defScope s_w_right) .none kV30 dc30 pm30 an30 cd30 ct30), sl30⟩) (c30 : PySem.W.codeIn K cd30 "_law_right" = true) (k30 : PySem.W.keepIn K (.ref f30) = true)
    (a31 : PySem.W.nsIn K mainGlobals "law" = some (some (.ref f31))) (l31 : K.lookup f31 = some ⟨oc31, od31, .func (PySem.W.fnOf "law" "law" (defArgs s_law) (defBody s_law) (defScope s_law) .none kV31 dc31 pm31 an31 cd31 ct31), sl31⟩) (c31 : PySem.W.codeIn K cd31 "law" = true) (k31 : PySem.W.keepIn K (.ref f31) = true)
    (a32 : PySem.W.findIn K (.ref C_Way) "cost" = some (some (.ref f32))) (i32 : PySem.W.isFn K (.ref f32) = true) (l32 : K.lookup f32 = some ⟨oc32, od32, .func (PySem.W.fnOf "cost" "Way.cost" (defArgs s_Way_cost) (defBody s_Way_cost) (defScope s_Way_cost) .none kV32 dc32 pm32 an32 cd32 ct32), sl32⟩) (c32 : PySem.W.codeIn K cd32 "Way.cost" = true) (k32 : PySem.W.keepIn K (.ref f32) = true)
    (a33 : PySem.W.findIn K (.ref C_Way) "__init__" = some (some (.ref f33))) (i33 : PySem.W.isFn K (.ref f33) = true) (l33 : K.lookup f33 = some ⟨oc33, od33, .func (PySem.W.fnOf "__init__" "Way.__init__" (defArgs s_Way_init) (defBody s_Way_init) (defScope s_Way_init) .none kV33 dc33 pm33 an33 cd33 ct33), sl33⟩) (c33 : PySem.W.codeIn K cd33 "Way.__init__" = true) (k33 : PySem.W.keepIn K (.ref f33) = true)
    (a34 : PySem.W.findIn K (.ref C_Way) "__neg__" = some (some (.ref f34))) (i34 : PySem.W.isFn K (.ref f34) = true) (l34 : K.lookup f34 = some ⟨oc34, od34, .func (PySem.W.fnOf "__neg__" "Way.__neg__" (defArgs s_Way_neg) (defBody s_Way_neg) (defScope s_Way_neg) .none kV34 dc34 pm34 an34 cd34 ct34), sl34⟩) (c34 : PySem.W.codeIn K cd34 "Way.__neg__" = true) (k34 : PySem.W.keepIn K (.ref f34) = true)
    (aC_Way : PySem.W.nsIn K mainGlobals "Way" = some (some (.ref C_Way))) (pg_Way : PySem.W.plainGet K C_Way Str.empty = true) (hd_Way : PySem.W.hasDictIn K C_Way = true) (po_Way : PySem.W.plainOver K C_Way = true) (sa_Way : PySem.W.findIn K (.ref C_Way) "__setattr__" = some (some (.builtin "object.__setattr__"))) (mk_Way : PySem.W.makesIn K C_Way = true) (kc_Way : PySem.W.keepIn K (.ref C_Way) = true)
    (nF1_Way : PySem.W.findIn K (.ref C_Way) "_net" = some none) (nF2_Way : PySem.W.findIn K (.ref C_Way) "_queues" = some none) (nF3_Way : PySem.W.findIn K (.ref C_Way) "_steps" = some none) (nF4_Way : PySem.W.findIn K (.ref C_Way) "_workers" = some none) (nF5_Way : PySem.W.findIn K (.ref C_Way) "_costs" = some none)
    (z1 : PySem.W.nsIn K mainGlobals "len" = some none) (z2 : PySem.W.nsIn K mainGlobals "abs" = some none) (z3 : PySem.W.nsIn K mainGlobals "int" = some none) (z4 : PySem.W.nsIn K mainGlobals "list" = some none) (z5 : PySem.W.nsIn K mainGlobals "enumerate" = some none) (z6 : PySem.W.nsIn K mainGlobals "range" = some none) (z7 : PySem.W.nsIn K mainGlobals "min" = some none) (z8 : PySem.W.nsIn K mainGlobals "max" = some none) (z9 : PySem.W.nsIn K mainGlobals "sorted" = some none) (z10 : PySem.W.nsIn K mainGlobals "tuple" = some none) (z11 : PySem.W.nsIn K mainGlobals "isinstance" = some none) (z12 : PySem.W.nsIn K mainGlobals "bool" = some none) (z13 : PySem.W.nsIn K mainGlobals "str" = some none) (z14 : PySem.W.nsIn K mainGlobals "all" = some none) (z15 : PySem.W.nsIn K mainGlobals "zip" = some none) (z16 : PySem.W.nsIn K mainGlobals "set" = some none) (z17 : PySem.W.nsIn K mainGlobals "sum" = some none) (z18 : PySem.W.nsIn K mainGlobals "LookupError" = some none) (z19 : PySem.W.nsIn K mainGlobals "ValueError" = some none) :
    ∃ fd : FuncData, (∀ (s : Shared) (v : Value), BindsTo s fd ⟨[v], []⟩ [("_law_script", v)]) ∧ ∀ base : Heap, K.In base → base.Ns mainGlobals mg → FnOk l.prog w K mg base CX0 13 fa fd ["_law_script"] (spLaw K) := by
  have e := hfa.symm.trans (PySem.W.mg_of X G a31)
  cases e
  have F1 := fun_mk (st := s_frozen) l1 c1 k1
  have g1 := PySem.W.mg_of X G a1
  have b1 := F1.binds (ps := ["thing"]) fun _ _ _ _ _ _ us hl => match us, hl with | [_], _ => rfl
  have F2 := fun_mk (st := s_check_worker) l2 c2 k2
  have g2 := PySem.W.mg_of X G a2
  have b2 := F2.binds (ps := ["net", "worker"]) fun _ _ _ _ _ _ us hl => match us, hl with | [_, _], _ => rfl
  have F3 := fun_mk (st := s_step_over) l3 c3 k3
  have g3 := PySem.W.mg_of X G a3
  have b3 := F3.binds (ps := ["queue", "place"]) fun _ _ _ _ _ _ us hl => match us, hl with | [_, _], _ => rfl
  have F4 := fun_mk (st := s_arcs_of) l4 c4 k4
  have g4 := PySem.W.mg_of X G a4
  have b4 := F4.binds (ps := ["net", "scale", "toll"]) fun _ _ _ _ _ _ us hl => match us, hl with | [_, _, _], _ => rfl
  have F5 := fun_mk (st := s_least_sums) l5 c5 k5
  have g5 := PySem.W.mg_of X G a5
  have b5 := F5.binds (ps := ["arcs", "first"]) fun _ _ _ _ _ _ us hl => match us, hl with | [_, _], _ => rfl
  have F6 := fun_mk (st := s_ring_costs) l6 c6 k6
  have g6 := PySem.W.mg_of X G a6
  have b6 := F6.binds (ps := ["net"]) fun _ _ _ _ _ _ us hl => match us, hl with | [_], _ => rfl
  have F7 := fun_mk (st := s_slack) l7 c7 k7
  have g7 := PySem.W.mg_of X G a7
  have b7 := F7.binds (ps := ["net"]) fun _ _ _ _ _ _ us hl => match us, hl with | [_], _ => rfl
  have F8 := fun_mk (st := s_graded) l8 c8 k8
  have g8 := PySem.W.mg_of X G a8
  have b8 := F8.binds (ps := ["net", "parts"]) fun _ _ _ _ _ _ us hl => match us, hl with | [_, _], _ => rfl
  have F9 := fun_mk (st := s_never_held) l9 c9 k9
  have g9 := PySem.W.mg_of X G a9
  have b9 := F9.binds (ps := ["net"]) fun _ _ _ _ _ _ us hl => match us, hl with | [_], _ => rfl
  have F10 := fun_mk (st := s_ring_price) l10 c10 k10
  have g10 := PySem.W.mg_of X G a10
  have b10 := F10.binds (ps := ["net", "ring"]) fun _ _ _ _ _ _ us hl => match us, hl with | [_, _], _ => rfl
  have F11 := fun_mk (st := s_cheapest_ring) l11 c11 k11
  have g11 := PySem.W.mg_of X G a11
  have b11 := F11.binds (ps := ["net"]) fun _ _ _ _ _ _ us hl => match us, hl with | [_], _ => rfl
  have F12 := fun_mk (st := s_fewest_drops) l12 c12 k12
  have g12 := PySem.W.mg_of X G a12
  have b12 := F12.binds (ps := ["net"]) fun _ _ _ _ _ _ us hl => match us, hl with | [_], _ => rfl
  have F13 := fun_mk (st := s_lowered) l13 c13 k13
  have g13 := PySem.W.mg_of X G a13
  have b13 := F13.binds (ps := ["arcs", "first"]) fun _ _ _ _ _ _ us hl => match us, hl with | [_, _], _ => rfl
  have F14 := fun_mk (st := s_parted) l14 c14 k14
  have g14 := PySem.W.mg_of X G a14
  have b14 := F14.binds (ps := ["walk", "arc"]) fun _ _ _ _ _ _ us hl => match us, hl with | [_, _], _ => rfl
  have F15 := fun_mk (st := s_free_lasso) l15 c15 k15
  have g15 := PySem.W.mg_of X G a15
  have b15 := F15.binds (ps := ["arcs", "worker"]) fun _ _ _ _ _ _ us hl => match us, hl with | [_, _], _ => rfl
  have F16 := fun_mk (st := s_free_lassos) l16 c16 k16
  have g16 := PySem.W.mg_of X G a16
  have b16 := F16.binds (ps := ["net"]) fun _ _ _ _ _ _ us hl => match us, hl with | [_], _ => rfl
  have F17 := fun_mk (st := s_needs_to) l17 c17 k17
  have g17 := PySem.W.mg_of X G a17
  have b17 := F17.binds (ps := ["net", "lassos"]) fun _ _ _ _ _ _ us hl => match us, hl with | [_, _], _ => rfl
  have F18 := fun_mk (st := s_earliest) l18 c18 k18
  have g18 := PySem.W.mg_of X G a18
  have b18 := F18.binds (ps := ["net"]) fun _ _ _ _ _ _ us hl => match us, hl with | [_], _ => rfl
  have F19 := fun_mk (st := s_w_box) l19 c19 k19
  have g19 := PySem.W.mg_of X G a19
  have b19 := F19.binds (ps := ["_law_script", "_law_k"]) fun _ _ _ _ _ _ us hl => match us, hl with | [_, _], _ => rfl
  have F20 := fun_mk (st := s_w_take) l20 c20 k20
  have g20 := PySem.W.mg_of X G a20
  have b20 := F20.binds (ps := ["_law_box_here", "_law_below"]) fun _ _ _ _ _ _ us hl => match us, hl with | [_, _], _ => rfl
  have F21 := fun_mk (st := s_w_cells) l21 c21 k21
  have g21 := PySem.W.mg_of X G a21
  have b21 := F21.binds (ps := ["_law_script", "_law_most"]) fun _ _ _ _ _ _ us hl => match us, hl with | [_, _], _ => rfl
  have F22 := fun_mk (st := s_w_of) l22 c22 k22
  have g22 := PySem.W.mg_of X G a22
  have b22 := F22.binds (ps := ["_law_box_here", "_law_some"]) fun _ _ _ _ _ _ us hl => match us, hl with | [_, _], _ => rfl
  have F23 := fun_mk (st := s_w_pick) l23 c23 k23
  have g23 := PySem.W.mg_of X G a23
  have b23 := F23.binds (ps := ["_law_box_here", "_law_pool", "_law_size_so"]) fun _ _ _ _ _ _ us hl => match us, hl with | [_, _, _], _ => rfl
  have F24 := fun_mk (st := s_w_same) l24 c24 k24
  have g24 := PySem.W.mg_of X G a24
  have b24 := F24.binds (ps := ["_law_got", "_law_due"]) fun _ _ _ _ _ _ us hl => match us, hl with | [_, _], _ => rfl
  have F25 := fun_mk (st := s_w_web) l25 c25 k25
  have g25 := PySem.W.mg_of X G a25
  have b25 := F25.binds (ps := ["_law_box_here", "_law_size_so", "_law_most", "_law_high"]) fun _ _ _ _ _ _ us hl => match us, hl with | [_, _, _, _], _ => rfl
  have F26 := fun_mk (st := s_w_twin_web) l26 c26 k26
  have g26 := PySem.W.mg_of X G a26
  have b26 := F26.binds (ps := ["_law_box_here", "_law_high"]) fun _ _ _ _ _ _ us hl => match us, hl with | [_, _], _ => rfl
  have F27 := fun_mk (st := s_w_parted) l27 c27 k27
  have g27 := PySem.W.mg_of X G a27
  have b27 := F27.binds (ps := ["_law_box_here", "_law_row"]) fun _ _ _ _ _ _ us hl => match us, hl with | [_, _], _ => rfl
  have F28 := fun_mk (st := s_w_both_right) l28 c28 k28
  have g28 := PySem.W.mg_of X G a28
  have b28 := F28.binds (ps := ["_law_web_here", "_law_row", "_law_first", "_law_last"]) fun _ _ _ _ _ _ us hl => match us, hl with | [_, _, _, _], _ => rfl
  have F29 := fun_mk (st := s_w_hand_right) l29 c29 k29
  have g29 := PySem.W.mg_of X G a29
  have b29 := F29.binds (ps := []) fun _ _ _ _ _ _ us hl => match us, hl with | [], _ => rfl
  have F30 := fun_mk (st := s_w_right) l30 c30 k30
  have g30 := PySem.W.mg_of X G a30
  have b30 := F30.binds (ps := ["_law_box_here"]) fun _ _ _ _ _ _ us hl => match us, hl with | [_], _ => rfl
  have F31 := fun_mk (st := s_law) l31 c31 k31
  have g31 := PySem.W.mg_of X G a31
  have F32 := fun_mk (st := s_Way_cost) l32 c32 k32
  have b32 := F32.binds (ps := ["self"]) fun _ _ _ _ _ _ us hl => match us, hl with | [_], _ => rfl
  have mt32 : Meth K C_Way "cost" f32 := ⟨a32, i32, k32⟩
  have F33 := fun_mk (st := s_Way_init) l33 c33 k33
  have b33 := F33.binds (ps := ["self", "net", "start", "queues"]) fun _ _ _ _ _ _ us hl => match us, hl with | [_, _, _, _], _ => rfl
  have mt33 : Meth K C_Way "__init__" f33 := ⟨a33, i33, k33⟩
  have F34 := fun_mk (st := s_Way_neg) l34 c34 k34
  have b34 := F34.binds (ps := ["self"]) fun _ _ _ _ _ _ us hl => match us, hl with | [_], _ => rfl
  have mt34 : Meth K C_Way "__neg__" f34 := ⟨a34, i34, k34⟩
  have T_Way : TWay K C_Way := ⟨⟨pg_Way, hd_Way, po_Way, sa_Way⟩, nF1_Way, nF2_Way, nF3_Way, nF4_Way, nF5_Way⟩
  have mg_Way := PySem.W.mg_of X G aC_Way
  have M_Way : L2.Mk K C_Way f33 := ⟨mk_Way, a33, i33, kc_Way⟩
  have m_len := PySem.W.mg_none_of X G z1
  have m_abs := PySem.W.mg_none_of X G z2
  have m_int := PySem.W.mg_none_of X G z3
  have m_list := PySem.W.mg_none_of X G z4
  have m_enumerate := PySem.W.mg_none_of X G z5
  have m_range := PySem.W.mg_none_of X G z6
  have m_min := PySem.W.mg_none_of X G z7
  have m_max := PySem.W.mg_none_of X G z8
  have m_sorted := PySem.W.mg_none_of X G z9
  have m_tuple := PySem.W.mg_none_of X G z10
  have m_isinstance := PySem.W.mg_none_of X G z11
  have m_bool := PySem.W.mg_none_of X G z12
  have m_str := PySem.W.mg_none_of X G z13
  have m_all := PySem.W.mg_none_of X G z14
  have m_zip := PySem.W.mg_none_of X G z15
  have m_set := PySem.W.mg_none_of X G z16
  have m_sum := PySem.W.mg_none_of X G z17
  have m_LookupError := PySem.W.mg_none_of X G z18
  have m_ValueError := PySem.W.mg_none_of X G z19
  clear hfa a1 l1 c1 k1 a2 l2 c2 k2 a3 l3 c3 k3 a4 l4 c4 k4 a5 l5 c5 k5 a6 l6 c6 k6 a7 l7 c7 k7 a8 l8 c8 k8 a9 l9 c9 k9 a10 l10 c10 k10 a11 l11 c11 k11 a12 l12 c12 k12 a13 l13 c13 k13 a14 l14 c14 k14 a15 l15 c15 k15 a16 l16 c16 k16 a17 l17 c17 k17 a18 l18 c18 k18 a19 l19 c19 k19 a20 l20 c20 k20 a21 l21 c21 k21 a22 l22 c22 k22 a23 l23 c23 k23 a24 l24 c24 k24 a25 l25 c25 k25 a26 l26 c26 k26 a27 l27 c27 k27 a28 l28 c28 k28 a29 l29 c29 k29 a30 l30 c30 k30 a31 l31 c31 k31 a32 l32 c32 k32 a33 l33 c33 k33 a34 l34 c34 k34 z1 z2 z3 z4 z5 z6 z7 z8 z9 z10 z11 z12 z13 z14 z15 z16 z17 z18 z19
  refine ⟨PySem.W.fnOf "law" "law" (defArgs s_law) (defBody s_law) (defScope s_law) .none kV31 dc31 pm31 an31 cd31 ct31, fun s v => .of_eq rfl, fun base _ _ => ?_⟩
  have G21 := ok_cells (P := l.prog) (w := w) (base := base) (mg := mg) (k := 0) F21 m_int m_list m_enumerate
  have G19 := ok_box (P := l.prog) (w := w) (base := base) (mg := mg) (k := 0) F19 m_len m_abs m_int
  have G20 := ok_take2 (ok_take (P := l.prog) (w := w) (base := base) (k := 0) F20 m_int)
  have G26 := ok_twin (P := l.prog) (w := w) (base := base) (mg := mg) (k := 1) F26 G20 g20 F20 b20 m_range m_max m_sorted m_tuple
  have G23 := ok_pick (P := l.prog) (w := w) (base := base) (mg := mg) (k := 1) F23 G20 g20 F20 b20 m_list m_range m_min m_len
  have G25 := ok_web (P := l.prog) (w := w) (base := base) (mg := mg) (k := 2) F25 (G20.mono (by decide : 1 ≤ 2)) g20 F20 b20 G23 g23 F23 b23 m_sorted m_len m_int m_tuple
  have G22 := ok_w_of (P := l.prog) (w := w) (base := base) (mg := mg) (k := 1) F22 G20 g20 F20 b20 m_len
  have G24 := ok_same (P := l.prog) (w := w) (base := base) F24 g24 b24 m_isinstance m_list m_tuple m_bool m_str m_int m_len m_all m_zip 5
  have G3 := ok_step_over (P := l.prog) (w := w) (base := base) (mg := mg) (k := 0) F3
  have G6 := ok_ring_costs (P := l.prog) (w := w) (base := base) (mg := mg) (k := 1) F6 G3 g3 F3 b3 m_len
  have G7 := ok_slack (P := l.prog) (w := w) (base := base) (mg := mg) (k := 2) F7 G6 g6 F6 b6 m_min
  have G4 := ok_arcs_of (P := l.prog) (w := w) (base := base) (mg := mg) (k := 1) F4 G3 g3 F3 b3
  have G5 := ok_least_sums (P := l.prog) (w := w) (base := base) (mg := mg) (k := 0) F5 m_len m_set m_list m_range
  have G8 := ok_graded (P := l.prog) (w := w) (base := base) (mg := mg) (k := 2) F8 G4 g4 F4 b4 (G5.mono (by decide : 1 ≤ 2)) g5 F5 b5
  have G9 := ok_never_held (P := l.prog) (w := w) (base := base) (mg := mg) (k := 3) F9 G8 g8 F8 b8 m_len
  have G10 := ok_ring_price (P := l.prog) (w := w) (base := base) (mg := mg) (k := 0) F10 m_sum
  have G11 := ok_cheapest_ring (P := l.prog) (w := w) (base := base) (mg := mg) (k := 2) F11 G6 g6 F6 b6 (G10.mono (by decide : 1 ≤ 2)) g10 F10 b10 m_min m_len
  have G12 := ok_fewest_drops (P := l.prog) (w := w) (base := base) (mg := mg) (k := 3) F12 G11 g11 F11 b11 (G10.mono (by decide : 1 ≤ 3)) g10 F10 b10
  have G14 := ok_parted (P := l.prog) (w := w) (base := base) (mg := mg) (k := 0) F14
  have G15 := ok_free_lasso (P := l.prog) (w := w) (base := base) (mg := mg) (k := 1) F15 G14 g14 F14 b14
  have G16 := ok_free_lassos (P := l.prog) (w := w) (base := base) (mg := mg) (k := 2) F16 G4 g4 F4 b4 G15 g15 F15 b15
  have G13 := ok_lowered (P := l.prog) (w := w) (base := base) (mg := mg) (k := 0) F13 m_max
  have G17 := ok_needs_to (P := l.prog) (w := w) (base := base) (mg := mg) (k := 2) F17 G4 g4 F4 b4 (G13.mono (by decide : 1 ≤ 2)) g13 F13 b13
  have G18 := ok_earliest (P := l.prog) (w := w) (base := base) (mg := mg) (k := 3) F18 G16 g16 F16 b16 G17 g17 F17 b17 m_tuple
  have G1 := ok_frozen (P := l.prog) (w := w) (base := base) F1 g1 b1 m_isinstance m_list m_tuple 5
  have G2 := ok_check_worker (P := l.prog) (w := w) (base := base) (mg := mg) (k := 0) F2
  have G33 := ok_Way_init (P := l.prog) (w := w) (base := base) (mg := mg) (k := 5) F33 T_Way G1 g1 F1 b1 (G2.mono (by decide : 1 ≤ 5)) g2 F2 b2 (G3.mono (by decide : 1 ≤ 5)) g3 F3 b3 m_tuple m_enumerate
  have G32 := ok_Way_cost (P := l.prog) (w := w) (base := base) (mg := mg) (k := 0) F32 T_Way m_sum
  have G34 := ok_Way_neg (P := l.prog) (w := w) (base := base) (mg := mg) (k := 6) F34 T_Way M_Way mg_Way G33 b33
  have G28 := ok_w_both_right (P := l.prog) (w := w) (base := base) (mg := mg) (k := 8) F28 T_Way M_Way mg_Way mt32 mt34 (G24.mono (by decide : 5 ≤ 8)) g24 F24 b24 (G7.mono (by decide : 3 ≤ 8)) g7 F7 b7 (G9.mono (by decide : 4 ≤ 8)) g9 F9 b9 (G12.mono (by decide : 4 ≤ 8)) g12 F12 b12 (G18.mono (by decide : 4 ≤ 8)) g18 F18 b18 (G33.mono (by decide : 6 ≤ 8)) b33 (G32.mono (by decide : 1 ≤ 8)) b32 G34 b34 m_sorted m_tuple m_list
  have G29 := ok_w_hand_right (P := l.prog) (w := w) (base := base) (mg := mg) (k := 10) F29 G28 g28 F28 b28
  have G27 := ok_w_parted (P := l.prog) (w := w) (base := base) (mg := mg) (k := 1) F27 G20 g20 F20 b20 m_max m_min
  have G30 := ok_w_right (P := l.prog) (w := w) (base := base) (mg := mg) (k := 11) F30 (G20.mono (by decide : 1 ≤ 11)) g20 F20 b20 (G26.mono (by decide : 2 ≤ 11)) g26 F26 b26 (G25.mono (by decide : 3 ≤ 11)) g25 F25 b25 (G22.mono (by decide : 2 ≤ 11)) g22 F22 b22 G29 g29 F29 b29 (G27.mono (by decide : 2 ≤ 11)) g27 F27 b27 (G28.mono (by decide : 10 ≤ 11)) g28 F28 b28 m_range
  have G31 := ok_law (P := l.prog) (w := w) (base := base) (mg := mg) (k := 12) F31 (G21.mono (by decide : 1 ≤ 12)) g21 F21 b21 (G19.mono (by decide : 1 ≤ 12)) g19 F19 b19 G30 g30 F30 b30 m_all m_range m_len
  exact G31
end Jl
open PySem PySem.W PyProof.Rows
set_option maxHeartbeats 0 in
theorem PySem.Challenge.cw_joinlags_k14_whole_a_worker_in_the_middl_holds : PySem.Challenge.rw_joinlags_k14_whole_a_worker_in_the_middl.Holds := by
  w_on; o_law; k_head; (case hw => w_witness2)
  k_fill
  refine L2.walk_of (l := PySem.Challenge.rw_joinlags_k14_whole_a_worker_in_the_middl) (n := 63) (k := 13) (x := "_law_script") (CX := fun _ => L2.CX0) (sp := fun w => Jl.spLaw _) rfl (by decide) rfl ⟨rfl, by decide, by decide⟩ (fun w h Y => PySem.W.kIn_of Y) ?F (fun _ _ a ns hl _ hS => ⟨a, ns, rfl, hS, hl, fun _ => rfl⟩) (fun _ _ _ _ _ h => h)
  case F =>
    intro w mg fa h KX G hmg
    refine' Jl.all_mk KX G hmg ?a1 ?l1 ?c1 ?k1 ?a2 ?l2 ?c2 ?k2 ?a3 ?l3 ?c3 ?k3 ?a4 ?l4 ?c4 ?k4 ?a5 ?l5 ?c5 ?k5 ?a6 ?l6 ?c6 ?k6 ?a7 ?l7 ?c7 ?k7 ?a8 ?l8 ?c8 ?k8 ?a9 ?l9 ?c9 ?k9 ?a10 ?l10 ?c10 ?k10 ?a11 ?l11 ?c11 ?k11 ?a12 ?l12 ?c12 ?k12 ?a13 ?l13 ?c13 ?k13 ?a14 ?l14 ?c14 ?k14 ?a15 ?l15 ?c15 ?k15 ?a16 ?l16 ?c16 ?k16 ?a17 ?l17 ?c17 ?k17 ?a18 ?l18 ?c18 ?k18 ?a19 ?l19 ?c19 ?k19 ?a20 ?l20 ?c20 ?k20 ?a21 ?l21 ?c21 ?k21 ?a22 ?l22 ?c22 ?k22 ?a23 ?l23 ?c23 ?k23 ?a24 ?l24 ?c24 ?k24 ?a25 ?l25 ?c25 ?k25 ?a26 ?l26 ?c26 ?k26 ?a27 ?l27 ?c27 ?k27 ?a28 ?l28 ?c28 ?k28 ?a29 ?l29 ?c29 ?k29 ?a30 ?l30 ?c30 ?k30 ?a31 ?l31 ?c31 ?k31 ?a32 ?i32 ?l32 ?c32 ?k32 ?a33 ?i33 ?l33 ?c33 ?k33 ?a34 ?i34 ?l34 ?c34 ?k34 ?aC_Way ?pg_Way ?hd_Way ?po_Way ?sa_Way ?mk_Way ?kc_Way ?nF1_Way ?nF2_Way ?nF3_Way ?nF4_Way ?nF5_Way ?z1 ?z2 ?z3 ?z4 ?z5 ?z6 ?z7 ?z8 ?z9 ?z10 ?z11 ?z12 ?z13 ?z14 ?z15 ?z16 ?z17 ?z18 ?z19
    (case aC_Way => k_is); (case a1 => k_is); (case l1 => k_is); (case c1 => k_is); (case k1 => k_is); (case a2 => k_is); (case l2 => k_is); (case c2 => k_is); (case k2 => k_is); (case a3 => k_is); (case l3 => k_is); (case c3 => k_is); (case k3 => k_is); (case a4 => k_is); (case l4 => k_is); (case c4 => k_is); (case k4 => k_is); (case a5 => k_is); (case l5 => k_is); (case c5 => k_is); (case k5 => k_is); (case a6 => k_is); (case l6 => k_is); (case c6 => k_is); (case k6 => k_is); (case a7 => k_is); (case l7 => k_is); (case c7 => k_is); (case k7 => k_is); (case a8 => k_is); (case l8 => k_is); (case c8 => k_is); (case k8 => k_is); (case a9 => k_is); (case l9 => k_is); (case c9 => k_is); (case k9 => k_is); (case a10 => k_is); (case l10 => k_is); (case c10 => k_is); (case k10 => k_is); (case a11 => k_is); (case l11 => k_is); (case c11 => k_is); (case k11 => k_is); (case a12 => k_is); (case l12 => k_is); (case c12 => k_is); (case k12 => k_is); (case a13 => k_is); (case l13 => k_is); (case c13 => k_is); (case k13 => k_is); (case a14 => k_is); (case l14 => k_is); (case c14 => k_is); (case k14 => k_is); (case a15 => k_is); (case l15 => k_is); (case c15 => k_is); (case k15 => k_is); (case a16 => k_is); (case l16 => k_is); (case c16 => k_is); (case k16 => k_is); (case a17 => k_is); (case l17 => k_is); (case c17 => k_is); (case k17 => k_is); (case a18 => k_is); (case l18 => k_is); (case c18 => k_is); (case k18 => k_is); (case a19 => k_is); (case l19 => k_is); (case c19 => k_is); (case k19 => k_is); (case a20 => k_is); (case l20 => k_is); (case c20 => k_is); (case k20 => k_is); (case a21 => k_is); (case l21 => k_is); (case c21 => k_is); (case k21 => k_is); (case a22 => k_is); (case l22 => k_is); (case c22 => k_is); (case k22 => k_is); (case a23 => k_is); (case l23 => k_is); (case c23 => k_is); (case k23 => k_is); (case a24 => k_is); (case l24 => k_is); (case c24 => k_is); (case k24 => k_is); (case a25 => k_is); (case l25 => k_is); (case c25 => k_is); (case k25 => k_is); (case a26 => k_is); (case l26 => k_is); (case c26 => k_is); (case k26 => k_is); (case a27 => k_is); (case l27 => k_is); (case c27 => k_is); (case k27 => k_is); (case a28 => k_is); (case l28 => k_is); (case c28 => k_is); (case k28 => k_is); (case a29 => k_is); (case l29 => k_is); (case c29 => k_is); (case k29 => k_is); (case a30 => k_is); (case l30 => k_is); (case c30 => k_is); (case k30 => k_is); (case a31 => k_is); (case l31 => k_is); (case c31 => k_is); (case k31 => k_is); (case a32 => k_is); (case i32 => k_is); (case l32 => k_is); (case c32 => k_is); (case k32 => k_is); (case a33 => k_is); (case i33 => k_is); (case l33 => k_is); (case c33 => k_is); (case k33 => k_is); (case a34 => k_is); (case i34 => k_is); (case l34 => k_is); (case c34 => k_is); (case k34 => k_is); (case pg_Way => k_is); (case hd_Way => k_is); (case po_Way => k_is); (case sa_Way => k_is); (case mk_Way => k_is); (case kc_Way => k_is); (case nF1_Way => k_is); (case nF2_Way => k_is); (case nF3_Way => k_is); (case nF4_Way => k_is); (case nF5_Way => k_is); (case z1 => k_is); (case z2 => k_is); (case z3 => k_is); (case z4 => k_is); (case z5 => k_is); (case z6 => k_is); (case z7 => k_is); (case z8 => k_is); (case z9 => k_is); (case z10 => k_is); (case z11 => k_is); (case z12 => k_is); (case z13 => k_is); (case z14 => k_is); (case z15 => k_is); (case z16 => k_is); (case z17 => k_is); (case z18 => k_is); (case z19 => k_is)

