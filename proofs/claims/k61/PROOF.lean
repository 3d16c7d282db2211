import PyProof.Rows.All
import HandS.ForMost
import HandS.Wide
import HandS.IsInst
import HandS.Zip
import HandS.DictComp
import HandS.SetKeys
import HandS.Flow
import HandS.SortOrd
import HandS.Evl
import HandS.Walk
import PySem.Challenge.RW_joinlags_k61_whole_filled_in_any_order
import PyProof.ListRange
import HandS.Sort
import HandS.Strs
import KE.SortData
import HandS.TryOnly
import HandS.SortKw
import HandS.TupAny
import KE.DataMinMax
import KE.GoesEnum
import PyProof.Rows.SeqMore
import HandS.SetTxtIn
import HandS.TupSets
import HandS.Exc
import HandS.ExcOwn
import HandS.ExcInit
import HandS.WordsExc
import HandS.ExcField
import KE.KExcIs
import KE.KExcInit
import KE.KTryMore
import HandS.Style
import KE.KRevSl
import HandS.Deep
set_option Elab.async false
set_option linter.all false
set_option maxRecDepth 100000
set_option maxHeartbeats 4000000
namespace Jl
open PySem PySem.Spec PyProof.Rows L2
open Evl (sz_of sz_lt)
def topS (i : Nat) : Stmt := PySem.Challenge.pw_joinlags_k61_whole_filled_in_any_order.main.body.getD i (.Pass ⟨0, 0, 0, 0⟩)
abbrev sc_w_box_N : List Str := ["_law_script", "_law_k", "_law_cell"]
abbrev s_w_box : Stmt := topS 19
theorem sc_w_box : FnScope ["_law_script", "_law_k", "_law_cell"] ["_law_script", "_law_k"] (defScope s_w_box) := ⟨rfl, rfl, rfl, by decide +kernel, rfl, by decide +kernel, by decide +kernel⟩
local macro_rules | `(tactic| walk_at "at") => `(tactic| fail)
local macro_rules | `(tactic| walk_at "side") => `(tactic| first
  | (show (0 : Int) < _; decide)
  | (show (0 : Int) < _; omega)
  | exact ⟨by decide, by decide, by decide⟩
  | exact sz_of (Nat.le_of_ble_eq_true rfl)
  | exact rfl
  | exact Or.inl (by decide)
  | exact Or.inr (by decide)
  | exact Or.inr ⟨by omega, by omega⟩
  | exact Or.inl ⟨by omega, by omega⟩
  | exact ⟨by decide, by decide +kernel⟩)
local macro_rules | `(tactic| walk_at "ev1") => `(tactic| first
  | refine ⟨_, rfl, ?_⟩
  | refine ⟨_, _, rfl, rfl, ?_⟩
  | refine ⟨_, _, _, _, rfl, rfl, (by assumption), (by walk_at "at"), ?_⟩
  | refine Or.inl ⟨_, rfl, ?_⟩
  | refine Or.inr ⟨_, rfl, ?_⟩
  | refine ⟨(by walk_at "side"), ?_⟩)
local macro_rules | `(tactic| walk_at "ev") => `(tactic| repeat (walk_at "ev1"))
abbrev sc_w_take_N : List Str := ["_law_box_here", "_law_below", "_law_once", "_law_far", "_law_twice", "_law_drawn_here"]
abbrev s_w_take : Stmt := topS 20
theorem sc_w_take : FnScope ["_law_box_here", "_law_below", "_law_once", "_law_far", "_law_twice", "_law_drawn_here"] ["_law_box_here", "_law_below"] (defScope s_w_take) := ⟨rfl, rfl, rfl, by decide +kernel, rfl, by decide +kernel, by decide +kernel⟩
section
variable {P : Program} {w : World} {K : PySem.W.Frag} {mg : Str → Option Value} {base : Heap}
/-! ### the box: three numbers -/
def boxV (c0 c1 c2 : Int) : List V := [.int c0, .int c1, .int c2]
theorem box0 {c0 c1 c2 : Int} : atI (boxV c0 c1 c2) 0 = some (.int c0) := atI_nat (j := 0) rfl
theorem box1 {c0 c1 c2 : Int} : atI (boxV c0 c1 c2) 1 = some (.int c1) := atI_nat (j := 1) rfl
theorem box2 {c0 c1 c2 : Int} : atI (boxV c0 c1 c2) 2 = some (.int c2) := atI_nat (j := 2) rfl
local macro_rules | `(tactic| walk_at "at") => `(tactic| first | exact box0 | exact box1 | exact box2)
/-- _law_box(script, k) -/
def spBox (K : PySem.W.Frag) : Sp := fun vs H Q _ => ∃ (a : Addr) (ns : List Int) (k : Int), vs = [.ref a, .int k] ∧ SqL K H a (ns.map V.int) ∧ 0 ≤ k ∧ k < 100 ∧
  ∀ p c0 c1, H p = none → 0 ≤ c0 → 0 ≤ c1 → c1 < 2 ^ 62 → Q (.ref p) (upd H p (.lst (boxV c0 c1 0)))
theorem ok_box {f : Addr} {fd : FuncData} {k : Nat} (F : Fun K "_law_box" "_law_box" s_w_box f fd) (m_len : mg "len" = none) (m_abs : mg "abs" = none) (m_int : mg "int" = none) : FnOk P w K mg base CX0 (k + 1) f fd ["_law_script", "_law_k"] (spBox K) := by
  refine F.ok sc_w_box (fun vs H Q E h => ?_) (fun cdv A outer s H vs Q E hr h => ?_)
  · obtain ⟨a, ns, k, rfl, _⟩ := h
    rfl
  · obtain ⟨a, ns, j, rfl, hS, j0, j1, q⟩ := h
    refine ⟨_, (pss_cons (ps_set (i := 2) sc_w_box.nd rfl (Or.inl rfl) (pe_ifExp (pt_cmpR op_lt (pv 1) (pe_callB call_len_seq (by rfl) m_len PySem.boot_len (pa_cons (pv 0) pa_nil)) (nomark _)) (pe_ix ix_list (pv 0) (pv 1) (fun _ _ => rfl)) pe_int)) 
    (pss_one (ps_ret (pe_lst (pa_cons (pe_op op_mul (pe_callB call_abs (by rfl) m_abs (by decide +kernel) (pa_cons (pv 2) pa_nil)) (pe_callTy call_int1 (by rfl) m_int (by decide +kernel) (pa_cons (pe_cmpR op_ge (pe_callB call_abs (by rfl) m_abs (by decide +kernel) (pa_cons (pv 2) pa_nil)) (pe_op op_pow pe_int pe_int) (nomark _)) pa_nil))) (pa_cons (pe_op op_add (pe_op op_add (pe_op op_mod (pe_callTy call_int1 (by rfl) m_int (by decide +kernel) (pa_cons (pv 2) pa_nil)) pe_int) (pe_op op_mul pe_int (pv 1))) pe_int) (pa_cons pe_int pa_nil))))))), ?_⟩
    have fin : ∀ (c : Int), 0 ≤ (if c < 0 then -c else c) * (if decide ((10 : Int) ^ (18 : Int).toNat ≤ (if c < 0 then -c else c)) = true then 1 else 0) ∧ 0 ≤ c % 2305843009213693951 + 39373 * j + 307 ∧ c % 2305843009213693951 + 39373 * j + 307 < 2 ^ 62 := fun c => by
      refine ⟨Int.mul_nonneg (by split <;> omega) (by split <;> omega), by omega, by omega⟩
    have h01 : ∀ (b : Bool), -(2 ^ 64) < (if b = true then (1 : Int) else 0) ∧ (if b = true then (1 : Int) else 0) < 2 ^ 64 := fun b => by cases b <;> decide
    refine ⟨_, rfl, .ref a, rfl, a, _, rfl, .inl hS, _, _, rfl, rfl, _, rfl, ite2 (fun e => ?_) (fun e => ?_)⟩
    · have e1 : j < ((ns.map V.int).length : Int) := of_decide_eq_true e
      rw [List.length_map] at e1
      have hj : j.toNat < ns.length := by omega
      have hat : atI (ns.map V.int) j = some (.int ns[j.toNat]) := at_of (j := j.toNat) (by omega) (by rw [List.getElem?_map, List.getElem?_eq_getElem hj]; rfl)
      refine ⟨_, rfl, _, rfl, a, _, _, _, rfl, rfl, hS, hat, ?_⟩
      generalize ns[j.toNat] = c
      walk_at "ev"
      exact fun p hp => q p _ _ hp (fin c).1 (fin c).2.1 (fin c).2.2
    · walk_at "ev"
      exact fun p hp => q p _ _ hp (fin 0).1 (fin 0).2.1 (fin 0).2.2
/-- _law_take(box, below): a drawn number below, the box goes on -/
def spTake (K : PySem.W.Frag) : Sp := fun vs H Q _ => ∃ (b : Addr) (c0 c1 c2 n : Int), vs = [.ref b, .int n] ∧ H b = some (.lst (boxV c0 c1 c2)) ∧ 0 ≤ c0 ∧ 0 ≤ c1 ∧ c1 < 2 ^ 62 ∧ 0 ≤ c2 ∧ c2 < 2 ^ 60 ∧ 1 ≤ n ∧ n.natAbs < 2 ^ 8000 ∧
  ∀ r d0 d2, 0 ≤ r → r < n → 0 ≤ d0 → 0 ≤ d2 → d2 ≤ c2 + 1 → Q (.int r) (upd H b (.lst (boxV d0 c1 d2)))
theorem ok_take {f : Addr} {fd : FuncData} {k : Nat} (F : Fun K "_law_take" "_law_take" s_w_take f fd) (m_int : mg "int" = none) : FnOk P w K mg base CX0 (k + 1) f fd ["_law_box_here", "_law_below"] (spTake K) := by
  refine F.ok sc_w_take (fun vs H Q E h => ?_) (fun cdv A outer s H vs Q E hr h => ?_)
  · obtain ⟨b, c0, c1, c2, n, rfl, _⟩ := h
    rfl
  · obtain ⟨b, c0, c1, c2, n, rfl, hb, c00, c10, c11, c20, c21, n0, n1, q⟩ := h
    refine ⟨_, (pss_cons (ps_if (pt_cmpR op_gt (pe_ix ix_list (pv 0) pe_int (fun _ _ => rfl)) pe_int (nomark _)) 
      (pss_cons (ps_set (i := 5) sc_w_take.nd rfl (Or.inl rfl) (pe_op op_mod (pe_callTy call_int1 (by rfl) m_int (by decide +kernel) (pa_cons (pe_ix ix_list (pv 0) pe_int (fun _ _ => rfl)) pa_nil)) (pv 1))) 
      (pss_cons (ps_asg (pe_op op_fdivW (pe_ix ix_list (pv 0) pe_int (fun _ _ => rfl)) (pv 1)) (pg_sub (pv 0) pe_int set_list)) 
      (pss_one (ps_ret (pv 5))))) pss_nil) 
    (pss_cons (ps_asg (pe_op op_add (pe_ix ix_list (pv 0) pe_int (fun _ _ => rfl)) pe_int) (pg_sub (pv 0) pe_int set_list)) 
    (pss_cons (ps_set (i := 2) sc_w_take.nd rfl (Or.inl rfl) (pe_op op_mod (pe_callTy call_int1 (by rfl) m_int (by decide +kernel) (pa_cons (pe_op op_mul (pe_op op_add (pe_ix ix_list (pv 0) pe_int (fun _ _ => rfl)) (pe_op op_mul pe_int (pe_ix ix_list (pv 0) pe_int (fun _ _ => rfl)))) (pe_op op_add pe_int (pe_ix ix_list (pv 0) pe_int (fun _ _ => rfl)))) pa_nil)) pe_int)) 
    (pss_cons (ps_set (i := 3) sc_w_take.nd rfl (Or.inl rfl) (pe_op op_add (pe_op op_mod (pe_callTy call_int1 (by rfl) m_int (by decide +kernel) (pa_cons (pv 2) pa_nil)) pe_int) pe_int)) 
    (pss_cons (ps_set (i := 4) sc_w_take.nd rfl (Or.inl rfl) (pe_op op_mod (pe_callTy call_int1 (by rfl) m_int (by decide +kernel) (pa_cons (pe_op op_mul (pe_op op_add (pe_op op_add (pv 2) (pe_ix ix_list (pv 0) pe_int (fun _ _ => rfl))) (pe_op op_fdivW (pe_ix ix_list (pv 0) pe_int (fun _ _ => rfl)) pe_int)) (pv 3)) pa_nil)) pe_int)) 
    (pss_one (ps_ret (pe_op op_mod (pe_callTy call_int1 (by rfl) m_int (by decide +kernel) (pa_cons (pe_op op_fdivW (pe_op op_mod (pe_callTy call_int1 (by rfl) m_int (by decide +kernel) (pa_cons (pe_op op_add (pe_op op_mul (pv 4) pe_int) (pv 2)) pa_nil)) pe_int) pe_int) pa_nil)) (pv 1))))))))), ?_⟩
    have hL : SqL K H b (boxV c0 c1 c2) := .inl (.inl hb)
    have small : ∀ j : Int, j = 1000003 ∨ j = 64 → CDivW 0 j := fun j h => by rcases h with h | h <;> (rw [h]; exact ⟨by decide, by decide +kernel⟩)
    walk_at "ev"
    refine ite2 (fun e => ?_) (fun e => ?_)
    · have e1 : 0 < c0 := of_decide_eq_true e
      walk_at "ev"
      refine ⟨wide_div (by omega) n1 (by decide) (by decide), ?_⟩
      walk_at "ev"
      refine ⟨b, _, _, 0, rfl, rfl, hb, rfl, ?_⟩
      refine ⟨_, rfl, ?_⟩
      exact q _ _ _ (Int.emod_nonneg _ (by omega)) (Int.emod_lt_of_pos _ (by omega)) (Int.ediv_nonneg c00 (by omega)) c20 (by omega)
    · walk_at "ev"
      refine ⟨b, _, _, 2, rfl, rfl, hb, rfl, ?_⟩
      have hb2 : (upd H b (.lst (boxV c0 c1 (c2 + 1)))) b = some (.lst (boxV c0 c1 (c2 + 1))) := upd_same
      have hL2 : SqL K (upd H b (.lst (boxV c0 c1 (c2 + 1)))) b (boxV c0 c1 (c2 + 1)) := .inl (.inl hb2)
      have fin : ∀ x : Int, Q (.int (x % n)) (upd H b (.lst (boxV c0 c1 (c2 + 1)))) := fun x => q _ _ _ (Int.emod_nonneg _ (by omega)) (Int.emod_lt_of_pos _ (by omega)) c00 (by omega) (by omega)
      show tSeq _ _ _ _ (upd H b (.lst (boxV c0 c1 (c2 + 1))))
      generalize upd H b (.lst (boxV c0 c1 (c2 + 1))) = H2 at hb2 hL2 fin
      walk_at "ev"
      exact fin _
end
end Jl

set_option Elab.async false
set_option linter.all false
set_option maxRecDepth 100000
set_option maxHeartbeats 4000000
namespace Jl
open PySem PySem.Spec PyProof.Rows L2
open Evl (sz_of sz_lt)
/-! ### heaps without some addresses -/
def cutS (S : List Addr) (H : Hp) : Hp := fun a => if a ∈ S then none else H a
theorem cutS_nil {H : Hp} : cutS [] H = H := by
  funext a
  unfold cutS
  rw [if_neg (List.not_mem_nil)]
theorem cutS_in {S : List Addr} {H : Hp} {a : Addr} (h : a ∈ S) : cutS S H a = none := by
  unfold cutS
  rw [if_pos h]
theorem cutS_out {S : List Addr} {H : Hp} {a : Addr} (h : a ∉ S) : cutS S H a = H a := by
  unfold cutS
  rw [if_neg h]
theorem cutS_some {S : List Addr} {H : Hp} {a : Addr} {o : HO} (h : cutS S H a = some o) : a ∉ S ∧ H a = some o := by
  by_cases q : a ∈ S
  · rw [cutS_in q] at h
    cases h
  · rw [cutS_out q] at h
    exact ⟨q, h⟩
theorem cutS_le {S : List Addr} {H : Hp} : Same (cutS S H) H := fun b o h => (cutS_some h).2
theorem cutS_mono {S : List Addr} {H H' : Hp} (e : Same H H') : Same (cutS S H) (cutS S H') := fun b o h => by
  obtain ⟨h1, h2⟩ := cutS_some h
  rw [cutS_out h1]
  exact e b o h2
theorem cutS_sub {S T : List Addr} {H : Hp} (h : ∀ a ∈ T, a ∈ S) : Same (cutS S H) (cutS T H) := fun b o q => by
  obtain ⟨h1, h2⟩ := cutS_some q
  rw [cutS_out fun z => h1 (h b z)]
  exact h2
theorem cutS_upd {S : List Addr} {H : Hp} {a : Addr} {o : HO} (h : a ∈ S) : cutS S (upd H a o) = cutS S H := by
  funext b
  by_cases q : b ∈ S
  · rw [cutS_in q, cutS_in q]
  · rw [cutS_out q, cutS_out q, upd_ne (fun e => q (by rw [e]; exact h))]
/-- a new object -/
theorem _root_.L2.Same.upd {H : Hp} {p : Addr} {o : HO} (h : H p = none) : Same H (upd H p o) := fun b x e => by
  rw [upd_ne (ne_of_none e h)]
  exact e
theorem _root_.L2.Same.mut {H H' : Hp} {p : Addr} {o : HO} (e : Same H H') (h : H p = none) : Same H (L2.upd H' p o) := fun a u ha => by
  rw [upd_ne (ne_of_none ha h)]
  exact e a u ha
def Trk (S : List Addr) (H : Hp) : Prop := ∀ a ∈ S, H a ≠ none
theorem Trk.nil {H : Hp} : Trk [] H := fun _ h => absurd h List.not_mem_nil
theorem Trk.mono {S : List Addr} {H H' : Hp} (t : Trk S H) (e : Same H H') : Trk S H' := fun a ha z => by
  cases q : H a with
  | none => exact t a ha q
  | some o =>
    rw [e a o q] at z
    cases z
theorem Trk.upd {S : List Addr} {H : Hp} {p : Addr} {o : HO} (t : Trk S H) : Trk S (L2.upd H p o) := fun a ha z => by
  by_cases e : a = p
  · rw [e, upd_same] at z
    cases z
  · rw [upd_ne e] at z
    exact t a ha z
theorem Trk.cons {S : List Addr} {H : Hp} {p : Addr} {o : HO} (t : Trk S H) (h : H p = some o) : Trk (p :: S) H := fun a ha z => by
  rcases List.mem_cons.mp ha with e | e
  · rw [e, h] at z
    cases z
  · exact t a e z
theorem Trk.out {S : List Addr} {H : Hp} {p : Addr} (t : Trk S H) (h : H p = none) : p ∉ S := fun z => t p z h
/-- a new object beside the cut -/
theorem cutS_new {S : List Addr} {H : Hp} {p : Addr} {o : HO} (t : Trk S H) (h : H p = none) : cutS S (L2.upd H p o) p = some o := by
  rw [cutS_out (t.out h), upd_same]
theorem cutS_none {S : List Addr} {H : Hp} {p : Addr} (h : H p = none) : cutS S H p = none := by
  by_cases q : p ∈ S
  · exact cutS_in q
  · rw [cutS_out q, h]
/-- a new object that will change goes into the cut -/
theorem cutS_cons {S : List Addr} {H : Hp} {p : Addr} {o : HO} (h : H p = none) : Same (cutS S H) (cutS (p :: S) (L2.upd H p o)) := fun b u q => by
  obtain ⟨h1, h2⟩ := cutS_some q
  have hb : b ≠ p := ne_of_none h2 h
  rw [cutS_out (fun z => by
    rcases List.mem_cons.mp z with e | e
    · exact hb e
    · exact h1 e), upd_ne hb]
  exact h2
theorem cutS_tail {S : List Addr} {H : Hp} {p : Addr} : Same (cutS (p :: S) H) (cutS S H) := cutS_sub fun _ h => List.mem_cons_of_mem _ h
/-! ### lists and tuples alike (f: a tuple) -/
def SqF (f : Bool) (K : PySem.W.Frag) (H : Hp) (a : Addr) (xs : List V) : Prop := if f = true then SqT K H a xs else SqL K H a xs
def seqO (f : Bool) (xs : List V) : HO := if f = true then .tup xs else .lst xs
def seqD (f : Bool) (ds : List PyData) : PyData := if f = true then .tuple ds else .list ds
theorem _root_.L2.Same.sqL {K : PySem.W.Frag} {H H' : Hp} {a : Addr} {xs : List V} (e : Same H H') (h : SqL K H a xs) : SqL K H' a xs := by
  rcases h with (h | ⟨o, h⟩) | h
  · exact .inl (.inl (e _ _ h))
  · exact .inl (.inr ⟨o, e _ _ h⟩)
  · exact .inr h
theorem _root_.L2.Same.sqT {K : PySem.W.Frag} {H H' : Hp} {a : Addr} {xs : List V} (e : Same H H') (h : SqT K H a xs) : SqT K H' a xs := by
  rcases h with (h | ⟨o, h⟩) | h
  · exact .inl (.inl (e _ _ h))
  · exact .inl (.inr ⟨o, e _ _ h⟩)
  · exact .inr h
theorem _root_.L2.Same.sqF {f : Bool} {K : PySem.W.Frag} {H H' : Hp} {a : Addr} {xs : List V} (e : Same H H') (h : SqF f K H a xs) : SqF f K H' a xs := by
  cases f with
  | true => exact e.sqT h
  | false => exact e.sqL h
theorem SqF.or {f : Bool} {K : PySem.W.Frag} {H : Hp} {a : Addr} {xs : List V} (h : SqF f K H a xs) : SqL K H a xs ∨ SqT K H a xs := by
  cases f with
  | true => exact .inr h
  | false => exact .inl h
theorem SqF.of {f : Bool} {K : PySem.W.Frag} {H : Hp} {a : Addr} {xs : List V} (h : H a = some (seqO f xs)) : SqF f K H a xs := by
  cases f with
  | true => exact .inl (.inl h)
  | false => exact .inl (.inl h)
theorem sql_of {K : PySem.W.Frag} {H : Hp} {a : Addr} {xs : List V} (h : H a = some (.lst xs)) : SqL K H a xs := .inl (.inl h)
theorem sqt_of {K : PySem.W.Frag} {H : Hp} {a : Addr} {xs : List V} (h : H a = some (.tup xs)) : SqT K H a xs := .inl (.inl h)
/-! ### data -/
section
variable {K : PySem.W.Frag} {H H' : Hp}
mutual
theorem dp_mono (e : Same H H') : ∀ (d : PyData) (v : V), Dp K H v d → Dp K H' v d
  | .none, _, h => by cases h; exact .non
  | .bool b, _, h => by cases h; exact .bl b
  | .int i, _, h => by cases h; exact .int i
  | .str x, _, h => by cases h; exact .str x
  | .list ds, _, h => by
    cases h with
    | lst hs ha => exact .lst (e.sqL hs) (dpa_mono e ds _ ha)
  | .tuple ds, _, h => by
    cases h with
    | tup hs ha => exact .tup (e.sqT hs) (dpa_mono e ds _ ha)
  | .dict _, _, h => by cases h
theorem dpa_mono (e : Same H H') : ∀ (ds : List PyData) (vs : List V), DpAll K H vs ds → DpAll K H' vs ds
  | [], _, h => by cases h; exact .nil
  | d :: ds, _, h => by
    cases h with
    | cons h1 h2 => exact .cons (dp_mono e d _ h1) (dpa_mono e ds _ h2)
end
theorem _root_.L2.Same.dp (e : Same H H') {v : V} {d : PyData} (h : Dp K H v d) : Dp K H' v d := dp_mono e d v h
theorem _root_.L2.Same.dpa (e : Same H H') {vs : List V} {ds : List PyData} (h : DpAll K H vs ds) : DpAll K H' vs ds := dpa_mono e ds vs h
theorem dpa_len : ∀ {vs : List V} {ds : List PyData}, DpAll K H vs ds → vs.length = ds.length
  | _, _, .nil => rfl
  | _, _, .cons _ h => by rw [List.length_cons, List.length_cons, dpa_len h]
theorem dpa_get : ∀ {vs : List V} {ds : List PyData} {i : Nat} {v : V}, DpAll K H vs ds → vs[i]? = some v → ∃ d, ds[i]? = some d ∧ Dp K H v d
  | _, _, _, _, .nil, h => by simp at h
  | _, _, 0, v, .cons h1 h2, h => by
    simp at h
    subst h
    exact ⟨_, rfl, h1⟩
  | _, _, i + 1, v, .cons h1 h2, h => by
    obtain ⟨d, e1, e2⟩ := dpa_get (i := i) h2 (by simpa using h)
    exact ⟨d, by simpa using e1, e2⟩
theorem dpa_get' : ∀ {vs : List V} {ds : List PyData} {i : Nat} {d : PyData}, DpAll K H vs ds → ds[i]? = some d → ∃ v, vs[i]? = some v ∧ Dp K H v d
  | _, _, _, _, .nil, h => by simp at h
  | _, _, 0, v, .cons h1 h2, h => by
    simp at h
    subst h
    exact ⟨_, rfl, h1⟩
  | _, _, i + 1, v, .cons h1 h2, h => by
    obtain ⟨d, e1, e2⟩ := dpa_get' (i := i) h2 (by simpa using h)
    exact ⟨d, by simpa using e1, e2⟩
theorem dpa_app : ∀ {vs ws : List V} {ds es : List PyData}, DpAll K H vs ds → DpAll K H ws es → DpAll K H (vs ++ ws) (ds ++ es)
  | _, _, _, _, .nil, h => h
  | _, _, _, _, .cons h1 h2, h => .cons h1 (dpa_app h2 h)
theorem dpa_one {v : V} {d : PyData} (h : Dp K H v d) : DpAll K H [v] [d] := .cons h .nil
theorem Dp.seq {f : Bool} {a : Addr} {xs : List V} {ds : List PyData} (h : SqF f K H a xs) (ha : DpAll K H xs ds) : Dp K H (.ref a) (seqD f ds) := by
  cases f with
  | true => exact .tup h ha
  | false => exact .lst h ha
theorem Dp.seq_of {f : Bool} {v : V} {ds : List PyData} (h : Dp K H v (seqD f ds)) : ∃ a xs, v = .ref a ∧ SqF f K H a xs ∧ DpAll K H xs ds := by
  cases f with
  | true =>
    have h : Dp K H v (.tuple ds) := h
    cases h with
    | tup hs ha => exact ⟨_, _, rfl, hs, ha⟩
  | false =>
    have h : Dp K H v (.list ds) := h
    cases h with
    | lst hs ha => exact ⟨_, _, rfl, hs, ha⟩
theorem dpa_strs : ∀ {xs : List Str}, DpAll K H (xs.map V.str) (xs.map PyData.str)
  | [] => .nil
  | x :: xs => .cons (.str x) dpa_strs
theorem dpa_strs_of : ∀ {vs : List V} {xs : List Str}, DpAll K H vs (xs.map PyData.str) → vs = xs.map V.str
  | _, [], .nil => rfl
  | _, x :: xs, .cons h1 h2 => by
    cases h1
    rw [dpa_strs_of h2]
    rfl
end
/-! ### what is walked, indexed: a list or a tuple -/
section
variable {X : Cx}
theorem pi_or {tg l : Expr} {w1 w2 : TI} (h1 : PI X tg l w1) (h2 : PI X tg l w2) : PI X tg l (fun σ H R => w1 σ H R ∨ w2 σ H R) := ⟨fun pins s σ H R I h => by
  rcases h with h | h
  · exact h1.run pins s σ H R I h
  · exact h2.run pins s σ H R I h⟩
def iSeq (K : PySem.W.Frag) (tl : TE) : TI := fun σ H R => iList K tl σ H R ∨ iTup K tl σ H R
theorem pi_seq {tg l : Expr} {tl : TE} (hl : PE X l tl) : PI X tg l (iSeq X.K tl) := pi_or (pi_list hl) (pi_tup hl)
theorem iSeq_at {K : PySem.W.Frag} {tl : TE} {σ : L2.St} {H H1 : Hp} {R : It → Hp → Prop} {a : Addr} {f : Bool} {xs : List V} (ht : ∀ R' : VK, R' (.ref a) H1 → tl σ H R') (hs : SqF f K H1 a xs)
    (q : ∀ J, Walk J xs.length (fun H => SqF f K H a xs) (YAt xs) → R J H1) : iSeq K tl σ H R := by
  cases f with
  | false => exact .inl (ht _ ⟨a, rfl, ⟨xs, hs⟩, q _ walk_list⟩)
  | true => exact .inr (ht _ ⟨a, rfl, ⟨xs, hs⟩, q _ walk_tup⟩)
def rIxF (K : PySem.W.Frag) : R2 := fun x y H Q => rIxL K x y H Q ∨ rIxT K x y H Q
theorem ix_lt : IxR X (rIxF X.K) := ix_list.or ix_tup
theorem rIxF_at {K : PySem.W.Frag} {f : Bool} {p : Addr} {xs : List V} {i : Int} {v : V} {H : Hp} {Q : VK} (h : SqF f K H p xs) (ha : atI xs i = some v) (q : Q v H) : rIxF K (.ref p) (.int i) H Q := by
  cases f with
  | false => exact .inl ⟨p, xs, i, v, rfl, rfl, h, ha, q⟩
  | true => exact .inr ⟨p, xs, i, v, rfl, rfl, h, ha, q⟩
theorem walk_zipTT {K : PySem.W.Frag} {a b : Addr} {xs ys : List V} (e : xs.length = ys.length) : Walk (RZ.ItzT K a b) xs.length (fun H => SqT K H a xs ∧ SqT K H b ys) (YPair (fun i => xs[i]?) (fun i => ys[i]?)) := by
  refine ⟨fun i _ hi q => ?_, fun _ q => ⟨xs, ys, q.1, q.2, .inl (Nat.le_refl _)⟩, fun i H v H' _ q y => ?_⟩
  · have h2 : i < ys.length := by omega
    exact ⟨xs, ys, xs[i], ys[i], q.1, q.2, by simp [hi], by simp [h2]⟩
  · obtain ⟨T, x, z, h1, h2, h3, h4, h5⟩ := y
    exact ⟨T, x, z, h1, h2, h3, h4 xs q.1, h5 ys q.2⟩
theorem iZip_at {K : PySem.W.Frag} {ta : TA} {σ : L2.St} {H H1 : Hp} {R : It → Hp → Prop} {a b : Addr} {f : Bool} {xs ys : List V} (ht : ∀ R' : List V → Hp → Prop, R' [.ref a, .ref b] H1 → ta σ H R') (h1 : SqF f K H1 a xs) (h2 : SqF f K H1 b ys) (el : xs.length = ys.length)
    (q : ∀ J, Walk J xs.length (fun H => SqF f K H a xs ∧ SqF f K H b ys) (YPair (fun i => xs[i]?) (fun i => ys[i]?)) → R J H1) : RZ.iZipA K ta σ H R := by
  refine ht _ ⟨a, b, xs, ys, rfl, ?_⟩
  cases f with
  | false => exact .inl ⟨h1, h2, q _ (walk_zip (by omega))⟩
  | true => exact .inr ⟨h1, h2, q _ (walk_zipTT el)⟩
/-! ### a loop, a comprehension by a walk -/
inductive ForP (wi : TI) (g : TG) (tb : TS) (D : Ends) (σ : L2.St) (H : Hp) : Prop
  | yes (h : tFor wi g tb D σ H)
  | no (h : False)
def tForX (wi : TI) (g : TG) (tb : TS) : TS := fun D σ H => ForP wi g tb D σ H
theorem ps_forX {st : Stmt} {wi : TI} {g : TG} {tb : TS} (h : PS X st (tFor wi g tb)) : PS X st (tForX wi g tb) := ⟨fun pins s σ H D I q => by
  cases q with
  | yes q => exact h.run pins s σ H D I q
  | no q => exact q.elim⟩
theorem for_of {wi : TI} {g : TG} {tb : TS} {D : Ends} {σ : L2.St} {H : Hp} (q : wi σ H fun J H1 => tFor (fun _ _ R => R J H1) g tb D σ H1) : tForX wi g tb D σ H := .yes q
inductive WhP (t : TT) (tb : TS) (D : Ends) (σ : L2.St) (H : Hp) : Prop
  | yes (h : tWhile t tb D σ H)
  | no (h : False)
def tWhileX (t : TT) (tb : TS) : TS := fun D σ H => WhP t tb D σ H
theorem ps_whileX {st : Stmt} {t : TT} {tb : TS} (h : PS X st (tWhile t tb)) : PS X st (tWhileX t tb) := ⟨fun pins s σ H D I q => by
  cases q with
  | yes q => exact h.run pins s σ H D I q
  | no q => exact q.elim⟩
inductive LcP (wi : TI) (g : TG) (tt : TT) (te : TE) (vs : List Nat) (σ : L2.St) (H : Hp) (Q : VK) : Prop
  | yes (h : tLc wi g tt te vs σ H Q)
  | no (h : False)
def tLcX (wi : TI) (g : TG) (tt : TT) (te : TE) (vs : List Nat) : TE := fun σ H Q => LcP wi g tt te vs σ H Q
theorem pe_lcX {e : Expr} {wi : TI} {g : TG} {tt : TT} {te : TE} {vs : List Nat} (h : PE X e (tLc wi g tt te vs)) : PE X e (tLcX wi g tt te vs) := ⟨fun pins s σ H Q I q => by
  cases q with
  | yes q => exact h.run pins s σ H Q I q
  | no q => exact q.elim⟩
theorem lc_of {wi : TI} {g : TG} {tt : TT} {te : TE} {vs : List Nat} {σ : L2.St} {H : Hp} {Q : VK} (q : tLc wi g tt te vs σ H Q) : tLcX wi g tt te vs σ H Q := .yes q
theorem ps_setLcX {st : Stmt} {i : Nat} {wi : TI} {g : TG} {tt : TT} {te : TE} {vs : List Nat} (h : PS X st (tAsg (tLc wi g tt te vs) (gName i))) : PS X st (tAsg (tLcX wi g tt te vs) (gName i)) := ⟨fun pins s σ H D I q => by
  have q : LcP wi g tt te vs σ H (fun x H1 => gName i x σ H1 D.nx) := q
  cases q with
  | yes q => exact h.run pins s σ H D I q
  | no q => exact q.elim⟩
theorem forR_it {J : It} {n : Nat} {G : Hp → Prop} {Y : Nat → Hp → V → Hp → Prop} (w : Walk J n G Y) {g : TG} {tb : TS} {D : Ends} {σ : L2.St} {H : Hp} (Pv : Nat → L2.St → Hp → Prop) (h0 : Pv 0 σ H) (hG : ∀ i σ H, i ≤ n → Pv i σ H → G H)
    (hs : ∀ i x σ H H', i < n → Pv i σ H → Y i H x H' → g x σ H' fun σ2 H2 => tb { D with nx := Pv (i + 1), ct := Pv (i + 1), bk := D.nx } σ2 H2) (hd : ∀ σ H, Pv n σ H → D.nx σ H) : tFor (fun _ _ R => R J H) g tb D σ H := for_it w Pv h0 hG hs hd
/-! ### isinstance -/
theorem tyx_list {K : PySem.W.Frag} {H : Hp} {a : Addr} {xs : List V} (h : SqL K H a xs) : TyX K H (.ref a) (.type "list") := by
  rcases h with (h | ⟨o, h⟩) | ⟨o, its, n, h, hc, _⟩
  · exact .base (.lst h)
  · exact .base (.frz h)
  · exact .kList h hc
theorem tyx_tup {K : PySem.W.Frag} {H : Hp} {a : Addr} {xs : List V} (h : SqT K H a xs) : TyX K H (.ref a) (.type "tuple") := by
  rcases h with (h | ⟨o, h⟩) | ⟨o, its, n, h, hc, _⟩
  · exact .base (.tup h)
  · exact .fTuple h
  · exact .kTuple h hc
def tyD : PyData → String
  | .none => "NoneType"
  | .bool _ => "bool"
  | .int _ => "int"
  | .str _ => "str"
  | .list _ => "list"
  | .tuple _ => "tuple"
  | .dict _ => "dict"
theorem tyx_dp {K : PySem.W.Frag} {H : Hp} {v : V} {d : PyData} (h : Dp K H v d) : TyX K H v (.type (tyD d)) := by
  cases h with
  | non => exact .base .non
  | bl b => exact .base (.bl b)
  | int i => exact .base (.int i)
  | str x => exact .base (.str x)
  | lst hs _ => exact tyx_list hs
  | tup hs _ => exact tyx_tup hs
/-- isinstance(x, (A, B)) of data -/
theorem isi2 {K : PySem.W.Frag} {H : Hp} {Q : VK} {v : V} {d : PyData} {p : Addr} {A B : String} {r : Bool} (h : Dp K H v d) (hp : H p = some (.tup [.ty A, .ty B])) (hk : ∀ t, t = tyD d → PySem.W.kitAny K (.type t) [.type A, .type B] = some r) (q : Q (.bl r) H) :
    rIsiT K [v, .ref p] H Q := ⟨v, p, _, _, _, r, rfl, hp, .cons (.ty _) (.cons (.ty _) .nil), tyx_dp h, hk _ rfl, q⟩
theorem isi1 {K : PySem.W.Frag} {H : Hp} {Q : VK} {v : V} {d : PyData} {A : String} {r : Bool} (h : Dp K H v d) (hk : ∀ t, t = tyD d → PySem.W.kitOne K (.type t) (.type A) = some r) (q : Q (.bl r) H) :
    rIsi K [v, .ty A] H Q := ⟨v, _, _, _, r, rfl, .ty _, tyx_dp h, hk _ rfl, q⟩
end
end Jl

set_option Elab.async false
set_option linter.all false
set_option maxRecDepth 100000
set_option maxHeartbeats 4000000
set_option pp.maxSteps 900
namespace Jl
open PySem PySem.Spec PyProof.Rows L2
open Evl (sz_of sz_lt)
local macro_rules | `(tactic| walk_at "at") => `(tactic| first | exact box0 | exact box1 | exact box2)
local macro_rules | `(tactic| walk_at "side") => `(tactic| first
  | (show (0 : Int) < _; decide)
  | (show (0 : Int) < _; omega)
  | exact ⟨by decide, by decide, by decide⟩
  | exact sz_of (Nat.le_of_ble_eq_true rfl)
  | exact rfl
  | exact Or.inl (by decide)
  | exact Or.inr (by decide)
  | exact Or.inr ⟨by omega, by omega⟩
  | exact Or.inl ⟨by omega, by omega⟩
  | exact ⟨by decide, by decide +kernel⟩)
local macro_rules | `(tactic| walk_at "ev1") => `(tactic| first
  | refine ⟨_, rfl, ?_⟩
  | refine ⟨_, _, rfl, rfl, ?_⟩
  | refine ⟨_, _, _, _, rfl, rfl, (by assumption), (by walk_at "at"), ?_⟩
  | refine Or.inl ⟨_, rfl, ?_⟩
  | refine Or.inr ⟨_, rfl, ?_⟩
  | refine ⟨(by walk_at "side"), ?_⟩)
local macro_rules | `(tactic| walk_at "ev") => `(tactic| repeat (walk_at "ev1"))

abbrev sc_w_lists_N : List Str := ["_law_matter", "_law_bit"]
abbrev s_w_lists : Stmt := topS 23
theorem sc_w_lists : FnScope ["_law_matter", "_law_bit"] ["_law_matter"] (defScope s_w_lists) := ⟨rfl, rfl, rfl, by decide +kernel, rfl, by decide +kernel, by decide +kernel⟩
theorem szL {n : Nat} (h : n < 4000001) : n < sizeLine := Nat.lt_of_lt_of_le h (by decide)
/-! ### data of bounded depth and width -/
def okD : Nat → PyData → Prop
  | 0, _ => False
  | n + 1, .list ds => ds.length ≤ 4000000 ∧ ∀ d ∈ ds, okD n d
  | n + 1, .tuple ds => ds.length ≤ 4000000 ∧ ∀ d ∈ ds, okD n d
  | _ + 1, .dict _ => False
  | _ + 1, _ => True
theorem okD_seq {n : Nat} {f : Bool} {ds : List PyData} : okD (n + 1) (seqD f ds) ↔ ds.length ≤ 4000000 ∧ ∀ d ∈ ds, okD n d := by
  cases f <;> exact Iff.rfl
mutual
def listsD : PyData → PyData
  | .list ds => .list (listsA ds)
  | .tuple ds => .list (listsA ds)
  | .none => .none
  | .bool b => .bool b
  | .int i => .int i
  | .str x => .str x
  | .dict k => .dict k
def listsA : List PyData → List PyData
  | [] => []
  | d :: ds => listsD d :: listsA ds
end
theorem listsA_map : ∀ ds : List PyData, listsA ds = ds.map listsD
  | [] => rfl
  | d :: ds => by
    show listsD d :: listsA ds = listsD d :: ds.map listsD
    rw [listsA_map ds]
theorem listsD_seq {f : Bool} {ds : List PyData} : listsD (seqD f ds) = .list (ds.map listsD) := by
  cases f
  · show PyData.list (listsA ds) = _
    rw [listsA_map]
  · show PyData.list (listsA ds) = _
    rw [listsA_map]
theorem fnok_no {P : Program} {w : World} {K : PySem.W.Frag} {mg : Str → Option Value} {base : Heap} {CX : CXT} {k : Nat} {f : Addr} {fd : FuncData} {ps : List Str} : FnOk P w K mg base CX k f fd ps (fun _ _ _ _ => False) := ⟨fun _ _ _ _ h => h.elim, fun _ _ _ _ _ _ _ _ _ _ _ _ _ h => h.elim⟩
/-- an atom, or a row -/
theorem dp_cases {K : PySem.W.Frag} {H : Hp} {v : V} {d : PyData} (h : Dp K H v d) : (∃ f ds, d = seqD f ds) ∨ (PySem.W.kitAny K (.type (tyD d)) [.type "list", .type "tuple"] = some false ∧ listsD d = d) := by
  have no : ∀ s : String, kitB s "list" = some false → kitB s "tuple" = some false → PySem.W.kitAny K (.type s) [.type "list", .type "tuple"] = some false := fun s h1 h2 =>
    kitAny_cons (kit_ty h1) (fun _ => kitAny_cons (kit_ty h2) (fun _ => kitAny_nil) (fun z => nomatch z)) (fun z => nomatch z)
  cases h with
  | non => exact .inr ⟨no "NoneType" (by decide +kernel) (by decide +kernel), rfl⟩
  | bl b => exact .inr ⟨no "bool" (by decide +kernel) (by decide +kernel), rfl⟩
  | int i => exact .inr ⟨no "int" (by decide +kernel) (by decide +kernel), rfl⟩
  | str x => exact .inr ⟨no "str" (by decide +kernel) (by decide +kernel), rfl⟩
  | @lst a xs ds hs _ => exact .inl ⟨false, ds, rfl⟩
  | @tup a xs ds hs _ => exact .inl ⟨true, ds, rfl⟩
theorem kit_seq {K : PySem.W.Frag} {fb : Bool} {ds : List PyData} : PySem.W.kitAny K (.type (tyD (seqD fb ds))) [.type "list", .type "tuple"] = some true := by
  have h1 : PySem.W.kitAny K (.type "list") [.type "list", .type "tuple"] = some true := kitAny_cons (b := true) (kit_ty (by decide +kernel)) (fun z => nomatch z) (fun _ => rfl)
  have h2 : PySem.W.kitAny K (.type "tuple") [.type "list", .type "tuple"] = some true := kitAny_cons (b := false) (kit_ty (by decide +kernel)) (fun _ => kitAny_cons (b := true) (kit_ty (by decide +kernel)) (fun z => nomatch z) (fun _ => rfl)) (fun z => nomatch z)
  cases fb with
  | false => exact h1
  | true => exact h2
/-- a place that was free goes into the cut -/
theorem cutS_into {S : List Addr} {H H' : Hp} {p : Addr} (e : Same H H') (h : H p = none) : Same (cutS S H) (cutS (p :: S) H') := fun b o hb => by
  obtain ⟨h1, h2⟩ := cutS_some hb
  have nb : b ≠ p := ne_of_none h2 h
  rw [cutS_out (fun z => by
    rcases List.mem_cons.mp z with z | z
    · exact nb z
    · exact h1 z)]
  exact e b o h2
/-- a comprehension over data, its element told by a function of data -/
theorem lc_data {K : PySem.W.Frag} {tl te : TE} {j : Nat} {vs : List Nat} {σ : L2.St} {H H0 : Hp} {Q : VK} {a : Addr} {fb : Bool} {xs : List V} {ds : List PyData} {S : List Addr} (g : PyData → PyData)
    (ht : ∀ R' : VK, R' (.ref a) H0 → tl σ H R') (hs : SqF fb K H0 a xs) (ha : DpAll K (cutS S H0) xs ds) (hT : Trk S H0) (hl : ds.length ≤ 4000000)
    (hw : ∀ x, wipe ((wipe σ vs).set j (some x)) vs = wipe σ vs)
    (he : ∀ (x : V) (d : PyData) (H1 : Hp) (T : List Addr), d ∈ ds → Trk T H1 → Dp K (cutS T H1) x d → ∀ Q' : VK, (∀ H2 y, Same H1 H2 → Dp K (cutS T H2) y (g d) → Q' y H2) → te ((wipe σ vs).set j (some x)) H1 Q')
    (q : ∀ D ys H', Same H0 H' → H0 D = none → H' D = some (.lst ys) → DpAll K (cutS S H') ys (ds.map g) → Q (.ref D) H') : tLcX (iSeq K tl) (gName j) tYes te vs σ H Q := by
  have ll := dpa_len ha
  refine lc_of ?_
  refine iSeq_at ht hs fun J w D hD => ?_
  refine lc_it w (fun i H1 => ∃ ys, Same H0 H1 ∧ H1 D = some (.lst ys) ∧ DpAll K (cutS (D :: S) H1) ys ((ds.take i).map g)) ⟨[], .upd hD, upd_same, .nil⟩ (fun i H1 _ p => ?_) (fun i x H1 H1' hi p y => ?_) (fun H1 p => ?_)
  · obtain ⟨ys, e1, _⟩ := p
    exact e1.sqF hs
  · obtain ⟨ys, e1, e2, e3⟩ := p
    obtain ⟨rfl, hx⟩ := y
    obtain ⟨d, hd, hxd⟩ := dpa_get ha hx
    refine ⟨hw x, ?_⟩
    dsimp only [tYes]
    rw [if_pos rfl]
    have s3 : Same (cutS S H0) (cutS (D :: S) H1') := cutS_into e1 hD
    have hxd1 : Dp K (cutS (D :: S) H1') x d := s3.dp hxd
    refine he x d H1' (D :: S) (List.mem_of_getElem? hd) ((hT.mono e1).cons e2) hxd1 _ fun H2 y s2 hy => ?_
    refine ⟨ys, s2 _ _ e2, ?_, ys ++ [y], ?_, upd_same, ?_⟩
    · have := dpa_len e3
      rw [this, List.length_map, List.length_take]
      exact szL (by omega)
    · exact (e1.trans s2).mut hD
    · rw [cutS_upd List.mem_cons_self, List.take_add_one, hd, List.map_append]
      exact dpa_app ((cutS_mono s2).dpa e3) (dpa_one hy)
  · obtain ⟨ys, e1, e2, e3⟩ := p
    refine q D ys H1 e1 hD e2 ?_
    have e4 : (ds.take xs.length).map g = ds.map g := by rw [List.take_of_length_le (by omega)]
    rw [e4] at e3
    exact cutS_tail.dpa e3
section
variable {P : Program} {w : World} {K : PySem.W.Frag} {mg : Str → Option Value} {base : Heap}
/-- _law_lists(matter): the same with lists for tuples, new -/
def spLists (K : PySem.W.Frag) : Nat → Sp
  | 0 => fun _ _ _ _ => False
  | n + 1 => fun vs H Q _ => ∃ (v : V) (d : PyData) (S : List Addr), vs = [v] ∧ Trk S H ∧ Dp K (cutS S H) v d ∧ okD (n + 1) d ∧ ∀ H' y, Same H H' → Dp K (cutS S H') y (listsD d) → Q y H'
theorem ok_lists {f : Addr} {fd : FuncData} (F_w_lists : Fun K "_law_lists" "_law_lists" s_w_lists f fd) (g_w_lists : mg "_law_lists" = some (.ref f)) (b_w_lists : Binds K fd ["_law_matter"] []) (m_isinstance : mg "isinstance" = none) (m_list : mg "list" = none) (m_tuple : mg "tuple" = none) :
    ∀ n : Nat, FnOk P w K mg base CX0 n f fd ["_law_matter"] (spLists K n)
  | 0 => fnok_no
  | n + 1 => by
    have G_w_lists := ok_lists F_w_lists g_w_lists b_w_lists m_isinstance m_list m_tuple n
    refine F_w_lists.ok sc_w_lists (fun vs H Q E h => ?_) (fun cdv A outer s H vs Q E hr h => ?_)
    · obtain ⟨v, d, S, rfl, _⟩ := h
      rfl
    · obtain ⟨v, d, S, rfl, hT, hD, hk, q⟩ := h
      refine ⟨_, (pss_one (ps_ret (pe_ifExp (pt_val (pe_callB call_isiT (by rfl) m_isinstance (by decide +kernel) (pa_cons (pv 0) (pa_cons (pe_tup (pa_cons (pe_bltn (v := .ty "list") (u := .type "list") (by rfl) m_list (by decide +kernel) rfl) (pa_cons (pe_bltn (v := .ty "tuple") (u := .type "tuple") (by rfl) m_tuple (by decide +kernel) rfl) pa_nil))) pa_nil)))) (pe_lcX (pe_lc (own := [("_law_bit", 1)]) (g := gName 1) (tt := tYes) (by rfl) sc_w_lists.nd (pi_seq (pv 0)) (blkOk_by (own := [("_law_bit", 1)]) (N := sc_w_lists_N) (sc := defScope s_w_lists) (by decide +kernel)) (fun _ _ _ _ _ => pg_name (i := 1) sc_w_lists.nd rfl (Or.inl rfl)) (fun _ _ _ _ _ => pts_nil) (fun _ _ _ _ _ => (pe_call G_w_lists hr (by rfl) g_w_lists F_w_lists.kp b_w_lists .nil pass0 (pa_cons (pv 1) pa_nil))))) (pv 0)))), ?_⟩
      walk_at "ev"
      intro p hp
      have e1 : Same H (upd H p (.tup [.ty "list", .ty "tuple"])) := .upd hp
      have hp1 : (upd H p (.tup [.ty "list", .ty "tuple"])) p = some (.tup [.ty "list", .ty "tuple"]) := upd_same
      dsimp only [tNil]
      rcases dp_cases hD with ⟨fb, ds, rfl⟩ | ⟨hk0, hl⟩
      · refine isi2 (e1.dp (cutS_le.dp hD)) hp1 (fun t e => by rw [e]; exact kit_seq) ?_
        refine ⟨_, rfl, iteT ?_⟩
        obtain ⟨a, xs, rfl, hs, ha⟩ := Dp.seq_of hD
        obtain ⟨hk1, hk2⟩ := okD_seq.mp hk
        refine lc_data (S := S) listsD (fun R' r => ⟨_, rfl, r⟩) (e1.sqF (cutS_le.sqF hs)) ((cutS_mono e1).dpa ha) (hT.mono e1) hk1 (fun x => rfl) (fun x d H1 T hd t1 hx Q' q' => ?_) (fun D ys H' s1 hD h2 h3 => ?_)
        · cases n with
          | zero => exact (hk2 d hd).elim
          | succ n => exact ⟨_, rfl, x, d, T, rfl, t1, hx, hk2 d hd, fun H2 y s2 hy => q' H2 y s2 hy⟩
        · refine q H' _ (e1.trans s1) ?_
          rw [listsD_seq]
          exact .lst (.inl (.inl (by rw [cutS_out ((hT.mono e1).out hD)]; exact h2))) h3
      · refine isi2 (e1.dp (cutS_le.dp hD)) hp1 (fun t e => by rw [e]; exact hk0) ?_
        refine ⟨_, rfl, iteF ?_⟩
        refine ⟨_, rfl, ?_⟩
        refine q _ _ e1 ?_
        rw [hl]
        exact (cutS_mono e1).dp hD
end
end Jl

set_option Elab.async false
set_option linter.all false
set_option maxRecDepth 100000
set_option maxHeartbeats 4000000
set_option pp.maxSteps 900
namespace Jl
open PySem PySem.Spec PyProof.Rows L2
open Evl (sz_of sz_lt)
local macro_rules | `(tactic| walk_at "at") => `(tactic| first | exact box0 | exact box1 | exact box2)
local macro_rules | `(tactic| walk_at "side") => `(tactic| first
  | (show (0 : Int) < _; decide)
  | (show (0 : Int) < _; omega)
  | exact ⟨by decide, by decide, by decide⟩
  | exact sz_of (Nat.le_of_ble_eq_true rfl)
  | exact rfl
  | exact Or.inl (by decide)
  | exact Or.inr (by decide)
  | exact Or.inr ⟨by omega, by omega⟩
  | exact Or.inl ⟨by omega, by omega⟩
  | exact ⟨by decide, by decide +kernel⟩)
local macro_rules | `(tactic| walk_at "ev1") => `(tactic| first
  | refine ⟨_, rfl, ?_⟩
  | refine ⟨_, _, rfl, rfl, ?_⟩
  | refine ⟨_, _, _, _, rfl, rfl, (by assumption), (by walk_at "at"), ?_⟩
  | refine Or.inl ⟨_, rfl, ?_⟩
  | refine Or.inr ⟨_, rfl, ?_⟩
  | refine ⟨(by walk_at "side"), ?_⟩)
local macro_rules | `(tactic| walk_at "nrm") => `(tactic| dsimp only [tNil, tCons, tC, tCB])
local macro_rules | `(tactic| walk_at "ev") => `(tactic| repeat (walk_at "ev1"))

abbrev sc_w_same_N : List Str := ["_law_got", "_law_due", "_law_mine", "_law_its"]
abbrev s_w_same : Stmt := topS 24
theorem sc_w_same : FnScope ["_law_got", "_law_due", "_law_mine", "_law_its"] ["_law_got", "_law_due"] (defScope s_w_same) := ⟨rfl, rfl, rfl, by decide +kernel, rfl, by decide +kernel, by decide +kernel⟩
theorem kit_list {K : PySem.W.Frag} {fb : Bool} {ds : List PyData} : PySem.W.kitOne K (.type (tyD (seqD fb ds))) (.type "list") = some (!fb) := by
  have h1 : PySem.W.kitOne K (.type "list") (.type "list") = some true := kit_ty (by decide +kernel)
  have h2 : PySem.W.kitOne K (.type "tuple") (.type "list") = some false := kit_ty (by decide +kernel)
  cases fb with
  | false => exact h1
  | true => exact h2
theorem kit_tup {K : PySem.W.Frag} {fb : Bool} {ds : List PyData} : PySem.W.kitOne K (.type (tyD (seqD fb ds))) (.type "tuple") = some fb := by
  have h1 : PySem.W.kitOne K (.type "list") (.type "tuple") = some false := kit_ty (by decide +kernel)
  have h2 : PySem.W.kitOne K (.type "tuple") (.type "tuple") = some true := kit_ty (by decide +kernel)
  cases fb with
  | false => exact h1
  | true => exact h2
section
variable {P : Program} {w : World} {K : PySem.W.Frag} {mg : Str → Option Value} {base : Heap}
/-- _law_same(got, due) of equal data -/
def spSame (K : PySem.W.Frag) : Nat → Sp
  | 0 => fun _ _ _ _ => False
  | n + 1 => fun vs H Q _ => ∃ (x y : V) (d : PyData), vs = [x, y] ∧ Dp K H x d ∧ Dp K H y d ∧ okD (n + 1) d ∧ ∀ H', Same H H' → Q (.bl true) H'
theorem ok_same {f : Addr} {fd : FuncData} (F_w_same : Fun K "_law_same" "_law_same" s_w_same f fd) (g_w_same : mg "_law_same" = some (.ref f)) (b_w_same : Binds K fd ["_law_got", "_law_due"] []) (m_isinstance : mg "isinstance" = none) (m_list : mg "list" = none) (m_tuple : mg "tuple" = none)
    (m_bool : mg "bool" = none) (m_str : mg "str" = none) (m_int : mg "int" = none) (m_len : mg "len" = none) (m_all : mg "all" = none) (m_zip : mg "zip" = none) :
    ∀ n : Nat, FnOk P w K mg base CX0 n f fd ["_law_got", "_law_due"] (spSame K n)
  | 0 => fnok_no
  | n + 1 => by
    have G_w_same := ok_same F_w_same g_w_same b_w_same m_isinstance m_list m_tuple m_bool m_str m_int m_len m_all m_zip n
    refine F_w_same.ok sc_w_same (fun vs H Q E h => ?_) (fun cdv A outer s H vs Q E hr h => ?_)
    · obtain ⟨x, y, d, rfl, _⟩ := h
      rfl
    · obtain ⟨x, y, d, rfl, hx, hy, hk, q⟩ := h
      refine ⟨_, (pss_cons (ps_if (pt_val (pe_callB call_isiT (by rfl) m_isinstance (by decide +kernel) (pa_cons (pv 1) (pa_cons (pe_tup (pa_cons (pe_bltn (v := .ty "list") (u := .type "list") (by rfl) m_list (by decide +kernel) rfl) (pa_cons (pe_bltn (v := .ty "tuple") (u := .type "tuple") (by rfl) m_tuple (by decide +kernel) rfl) pa_nil))) pa_nil)))) 
      (pss_cons (ps_if (PW.pt (pw_or (pt_cmpR op_ne (pe_callB call_isi (by rfl) m_isinstance (by decide +kernel) (pa_cons (pv 0) (pa_cons (pe_bltn (v := .ty "list") (u := .type "list") (by rfl) m_list (by decide +kernel) rfl) pa_nil))) (pe_callB call_isi (by rfl) m_isinstance (by decide +kernel) (pa_cons (pv 1) (pa_cons (pe_bltn (v := .ty "list") (u := .type "list") (by rfl) m_list (by decide +kernel) rfl) pa_nil))) (nomark _)) (pw_or1 (pt_cmpR op_ne (pe_callB call_isi (by rfl) m_isinstance (by decide +kernel) (pa_cons (pv 0) (pa_cons (pe_bltn (v := .ty "tuple") (u := .type "tuple") (by rfl) m_tuple (by decide +kernel) rfl) pa_nil))) (pe_callB call_isi (by rfl) m_isinstance (by decide +kernel) (pa_cons (pv 1) (pa_cons (pe_bltn (v := .ty "tuple") (u := .type "tuple") (by rfl) m_tuple (by decide +kernel) rfl) pa_nil))) (nomark _))))) (pss_one (ps_ret pe_bl)) pss_nil) 
      (pss_one (ps_ret (pe_and (pe_cmpR op_eq (pe_callB call_len_seq (by rfl) m_len PySem.boot_len (pa_cons (pv 0) pa_nil)) (pe_callB call_len_seq (by rfl) m_len PySem.boot_len (pa_cons (pv 1) pa_nil)) (nomark _)) (pe_one (pe_callB (cr_all rfl) (by rfl) m_all (by decide +kernel) (pa_cons (pe_lcX (pe_lc (own := [("_law_mine", 2), ("_law_its", 3)]) (g := gTup K 2 (gCons (gName 2) (gCons (gName 3) gNil))) (tt := tYes) (by rfl) sc_w_same.nd (RZ.pi_zipA (by rfl) m_zip (pa_cons (pv 0) (pa_cons (pv 1) pa_nil))) (blkOk_by (own := [("_law_mine", 2), ("_law_its", 3)]) (N := sc_w_same_N) (sc := defScope s_w_same) (by decide +kernel)) (fun _ _ _ _ _ => pg_tup rfl (pgs_cons (pg_name (i := 2) sc_w_same.nd rfl (Or.inl rfl)) (pgs_cons (pg_name (i := 3) sc_w_same.nd rfl (Or.inl rfl)) pgs_nil))) (fun _ _ _ _ _ => pts_nil) (fun _ _ _ _ _ => (pe_call G_w_same hr (by rfl) g_w_same F_w_same.kp b_w_same .nil pass0 (pa_cons (pv 2) (pa_cons (pv 3) pa_nil)))))) pa_nil))))))) pss_nil) 
    (pss_cons (ps_if (PW.pt (pw_or (pt_cmpR op_isN (pv 1) pe_non (nomark _)) (pw_or1 (pt_val (pe_callB call_isiT (by rfl) m_isinstance (by decide +kernel) (pa_cons (pv 1) (pa_cons (pe_tup (pa_cons (pe_bltn (v := .ty "bool") (u := .type "bool") (by rfl) m_bool (by decide +kernel) rfl) (pa_cons (pe_bltn (v := .ty "str") (u := .type "str") (by rfl) m_str (by decide +kernel) rfl) pa_nil))) pa_nil))))))) (pss_one (ps_ret (pe_and (pe_cmpR op_eq (pv 0) (pv 1) (nomark _)) (pe_and (pe_cmpR op_eq (pe_callB call_isi (by rfl) m_isinstance (by decide +kernel) (pa_cons (pv 0) (pa_cons (pe_bltn (v := .ty "bool") (u := .type "bool") (by rfl) m_bool (by decide +kernel) rfl) pa_nil))) (pe_callB call_isi (by rfl) m_isinstance (by decide +kernel) (pa_cons (pv 1) (pa_cons (pe_bltn (v := .ty "bool") (u := .type "bool") (by rfl) m_bool (by decide +kernel) rfl) pa_nil))) (nomark _)) (pe_one (pe_cmpR op_eq (pe_cmpR op_isN (pv 0) pe_non (nomark _)) (pe_cmpR op_isN (pv 1) pe_non (nomark _)) (nomark _))))))) pss_nil) 
    (pss_one (ps_ret (pe_and (pe_callB call_isi (by rfl) m_isinstance (by decide +kernel) (pa_cons (pv 0) (pa_cons (pe_bltn (v := .ty "int") (u := .type "int") (by rfl) m_int (by decide +kernel) rfl) pa_nil))) (pe_and (pe_not (pe_callB call_isi (by rfl) m_isinstance (by decide +kernel) (pa_cons (pv 0) (pa_cons (pe_bltn (v := .ty "bool") (u := .type "bool") (by rfl) m_bool (by decide +kernel) rfl) pa_nil)))) (pe_one (pe_cmpR op_eq (pv 0) (pv 1) (nomark _))))))))), ?_⟩
      walk_at "ev"
      intro p hp
      have e1 : Same H (upd H p (.tup [.ty "list", .ty "tuple"])) := .upd hp
      have hp1 : (upd H p (.tup [.ty "list", .ty "tuple"])) p = some (.tup [.ty "list", .ty "tuple"]) := upd_same
      walk_at "nrm"
      generalize upd H p (.tup [.ty "list", .ty "tuple"]) = H1 at e1 hp1
      have hx1 := e1.dp hx
      have hy1 := e1.dp hy
      rcases dp_cases hy with ⟨fb, ds, rfl⟩ | ⟨hk0, hl⟩
      · refine isi2 hy1 hp1 (fun t e => by rw [e]; exact kit_seq) ?_
        refine ⟨_, rfl, iteT ?_⟩
        walk_at "ev"
        walk_at "nrm"
        refine isi1 hx1 (fun t e => by rw [e]; exact kit_list) ?_
        walk_at "ev"
        walk_at "nrm"
        refine isi1 hy1 (fun t e => by rw [e]; exact kit_list) ?_
        walk_at "ev"
        refine iteNS rfl ?_
        walk_at "ev"
        walk_at "nrm"
        refine isi1 hx1 (fun t e => by rw [e]; exact kit_tup) ?_
        walk_at "ev"
        walk_at "nrm"
        refine isi1 hy1 (fun t e => by rw [e]; exact kit_tup) ?_
        walk_at "ev"
        refine iteNS rfl ?_
        obtain ⟨a, xs, rfl, ha, hax⟩ := Dp.seq_of hx1
        obtain ⟨b, ys, rfl, hb, hby⟩ := Dp.seq_of hy1
        have lx := dpa_len hax
        have ly := dpa_len hby
        refine ⟨_, rfl, a, xs, rfl, ha.or, _, rfl, b, ys, rfl, hb.or, rfl, _, rfl, ?_⟩
        have el : V.int (xs.length : Nat) = V.int (ys.length : Nat) := by rw [lx, ly]
        rw [decide_eq_true el]
        refine iteT ?_
        obtain ⟨hk1, hk2⟩ := okD_seq.mp hk
        walk_at "nrm"
        refine lc_of ?_
        refine iZip_at (fun R' r => ⟨_, rfl, _, rfl, r⟩) ha hb (by omega) fun J w D hD => ?_
        refine lc_it w (fun i H2 => Same H1 H2 ∧ H2 D = some (.lst (List.replicate i (.bl true)))) ⟨.upd hD, upd_same⟩ (fun i H2 _ p => ⟨p.1.sqF ha, p.1.sqF hb⟩) (fun i v H2 H2' hi p yy => ?_) (fun H2 p => ?_)
        · obtain ⟨s1, hl⟩ := p
          obtain ⟨T, x1, x2, rfl, hTn, rfl, g1, g2⟩ := yy
          obtain ⟨d, hd, hd1⟩ := dpa_get hax g1
          obtain ⟨d', hd', hd2⟩ := dpa_get hby g2
          cases Option.some.inj (hd.symm.trans hd')
          have s2 : Same H1 (upd H2 T (.tup [x1, x2])) := s1.trans (.upd hTn)
          have hkd := hk2 d (List.mem_of_getElem? hd)
          refine ⟨T, [x1, x2], rfl, .inl (.inl upd_same), rfl, x1, [x2], rfl, x2, [], rfl, rfl, rfl, ?_⟩
          dsimp only [tYes]
          rw [if_pos rfl]
          refine ⟨_, rfl, _, rfl, ?_⟩
          cases n with
          | zero => exact hkd.elim
          | succ n =>
            refine ⟨x1, x2, d, rfl, s2.dp hd1, s2.dp hd2, hkd, fun H3 s3 => ⟨_, s3 _ _ ((Same.upd hTn) _ _ hl), ?_, s2.trans s3 |>.mut hD, ?_⟩⟩
            · rw [List.length_replicate]
              exact szL (by omega)
            · rw [upd_same, List.replicate_succ']
        · obtain ⟨s1, hl⟩ := p
          refine ⟨D, List.replicate xs.length true, rfl, sql_of (by rw [List.map_replicate]; exact hl), ?_⟩
          have e : (List.replicate xs.length true).all id = true := by
            rw [List.all_eq_true]
            intro z hz
            rw [List.eq_of_mem_replicate hz]
            rfl
          rw [e]
          exact q _ (e1.trans s1)
      · refine isi2 hy1 hp1 (fun t e => by rw [e]; exact hk0) ?_
        refine ⟨_, rfl, iteF ?_⟩
        cases hx with
        | non => 
          cases hy
          walk_at "ev"
          walk_at "nrm"
          refine isi1 (r := false) hx1 (fun t e => by rw [e]; exact kit_ty (a := "NoneType") (b := "bool") (by decide +kernel)) ?_
          walk_at "ev"
          walk_at "nrm"
          refine isi1 (r := false) hy1 (fun t e => by rw [e]; exact kit_ty (a := "NoneType") (b := "bool") (by decide +kernel)) ?_
          walk_at "ev"
          exact q _ e1
        | bl c => 
          cases hy
          walk_at "ev"
          intro p2 hp2
          have e2 : Same H1 (upd H1 p2 (.tup [.ty "bool", .ty "str"])) := .upd hp2
          have hp3 : (upd H1 p2 (.tup [.ty "bool", .ty "str"])) p2 = some (.tup [.ty "bool", .ty "str"]) := upd_same
          walk_at "nrm"
          refine isi2 (r := true) (e2.dp hy1) hp3 (fun t e => by rw [e]; exact kitAny_cons (kit_ty (a := "bool") (b := "bool") (r := true) (by decide +kernel)) (fun z => nomatch z) (fun _ => rfl)) ?_
          walk_at "ev"
          rw [if_pos (decide_eq_true rfl)]
          walk_at "ev"
          walk_at "nrm"
          refine isi1 (r := true) (e2.dp hx1) (fun t e => by rw [e]; exact kit_ty (a := "bool") (b := "bool") (by decide +kernel)) ?_
          walk_at "ev"
          walk_at "nrm"
          refine isi1 (r := true) (e2.dp hy1) (fun t e => by rw [e]; exact kit_ty (a := "bool") (b := "bool") (by decide +kernel)) ?_
          walk_at "ev"
          exact q _ (e1.trans e2)
        | str c => 
          cases hy
          walk_at "ev"
          intro p2 hp2
          have e2 : Same H1 (upd H1 p2 (.tup [.ty "bool", .ty "str"])) := .upd hp2
          have hp3 : (upd H1 p2 (.tup [.ty "bool", .ty "str"])) p2 = some (.tup [.ty "bool", .ty "str"]) := upd_same
          walk_at "nrm"
          refine isi2 (r := true) (e2.dp hy1) hp3 (fun t e => by rw [e]; exact kitAny_cons (kit_ty (a := "str") (b := "bool") (r := false) (by decide +kernel)) (fun _ => kitAny_cons (kit_ty (a := "str") (b := "str") (r := true) (by decide +kernel)) (fun z => nomatch z) (fun _ => rfl)) (fun z => nomatch z)) ?_
          walk_at "ev"
          rw [if_pos (decide_eq_true rfl)]
          walk_at "ev"
          walk_at "nrm"
          refine isi1 (r := false) (e2.dp hx1) (fun t e => by rw [e]; exact kit_ty (a := "str") (b := "bool") (by decide +kernel)) ?_
          walk_at "ev"
          walk_at "nrm"
          refine isi1 (r := false) (e2.dp hy1) (fun t e => by rw [e]; exact kit_ty (a := "str") (b := "bool") (by decide +kernel)) ?_
          walk_at "ev"
          exact q _ (e1.trans e2)
        | int c => 
          cases hy
          walk_at "ev"
          intro p2 hp2
          have e2 : Same H1 (upd H1 p2 (.tup [.ty "bool", .ty "str"])) := .upd hp2
          have hp3 : (upd H1 p2 (.tup [.ty "bool", .ty "str"])) p2 = some (.tup [.ty "bool", .ty "str"]) := upd_same
          walk_at "nrm"
          refine isi2 (r := false) (e2.dp hy1) hp3 (fun t e => by rw [e]; exact kitAny_cons (kit_ty (a := "int") (b := "bool") (r := false) (by decide +kernel)) (fun _ => kitAny_cons (kit_ty (a := "int") (b := "str") (r := false) (by decide +kernel)) (fun _ => kitAny_nil) (fun z => nomatch z)) (fun z => nomatch z)) ?_
          walk_at "ev"
          walk_at "nrm"
          refine isi1 (r := true) (e2.dp hx1) (fun t e => by rw [e]; exact kit_ty (a := "int") (b := "int") (by decide +kernel)) ?_
          walk_at "ev"
          walk_at "nrm"
          refine isi1 (r := false) (e2.dp hx1) (fun t e => by rw [e]; exact kit_ty (a := "int") (b := "bool") (by decide +kernel)) ?_
          walk_at "ev"
          rw [decide_eq_true rfl]
          exact q _ (e1.trans e2)
        | @lst a xs ds hs _ => cases (hk0.symm.trans (kit_seq (fb := false) (ds := ds)))
        | @tup a xs ds hs _ => cases (hk0.symm.trans (kit_seq (fb := true) (ds := ds)))
end
end Jl

set_option Elab.async false
set_option linter.all false
set_option maxRecDepth 100000
set_option maxHeartbeats 4000000
set_option pp.maxSteps 900
namespace Jl
open PySem PySem.Spec PyProof.Rows L2
open Evl (sz_of sz_lt)
local macro_rules | `(tactic| walk_at "at") => `(tactic| first | exact box0 | exact box1 | exact box2)
local macro_rules | `(tactic| walk_at "side") => `(tactic| first
  | (show (0 : Int) < _; decide)
  | (show (0 : Int) < _; omega)
  | exact ⟨by decide, by decide, by decide⟩
  | exact sz_of (Nat.le_of_ble_eq_true rfl)
  | exact rfl
  | exact Or.inl (by decide)
  | exact Or.inr (by decide)
  | exact Or.inr ⟨by omega, by omega⟩
  | exact Or.inl ⟨by omega, by omega⟩
  | exact ⟨by decide, by decide +kernel⟩)
local macro_rules | `(tactic| walk_at "ev1") => `(tactic| first
  | refine ⟨_, rfl, ?_⟩
  | refine ⟨_, _, rfl, rfl, ?_⟩
  | refine ⟨_, _, _, _, rfl, rfl, (by assumption), (by walk_at "at"), ?_⟩
  | refine ⟨_, _, rfl, (by assumption), ?_⟩
  | refine ⟨_, _, rfl, Or.inl (by assumption), ?_⟩
  | refine ⟨_, _, rfl, Or.inr (by assumption), ?_⟩
  | refine Or.inl ⟨_, rfl, ?_⟩
  | refine Or.inr ⟨_, rfl, ?_⟩
  | refine ⟨(by walk_at "side"), ?_⟩)
local macro_rules | `(tactic| walk_at "nrm") => `(tactic| dsimp only [tNil, tCons, tC, tCB])
local macro_rules | `(tactic| walk_at "ev") => `(tactic| repeat (walk_at "ev1"))

abbrev sc_w_cells_N : List Str := ["_law_script", "_law_most", "_law_cells_here", "_law_k", "_law_cell", "_law_at_so"]
abbrev s_w_cells : Stmt := topS 21
theorem sc_w_cells : FnScope ["_law_script", "_law_most", "_law_cells_here", "_law_k", "_law_cell", "_law_at_so"] ["_law_script", "_law_most"] (defScope s_w_cells) := ⟨rfl, rfl, rfl, by decide +kernel, rfl, by decide +kernel, by decide +kernel⟩
theorem ixN_nat {n j : Nat} (h : j < n) : ixN n (j : Int) = some j := by
  unfold ixN
  rw [if_pos (by omega), if_pos (by omega)]
  simp
theorem cutV_int {ns : List Int} {lo hi : Option Int} : cutV (ns.map V.int) lo hi = ((ns.drop (HT.sIx ns.length 0 lo)).take (HT.sIx ns.length ns.length hi - HT.sIx ns.length 0 lo)).map V.int := by
  unfold cutV
  rw [List.length_map, List.map_take, List.map_drop]
section
variable {P : Program} {w : World} {K : PySem.W.Frag} {mg : Str → Option Value} {base : Heap}
/-- _law_cells(script, most): a new list of at most so many numbers -/
def spCells (K : PySem.W.Frag) : Sp := fun vs H Q _ => ∃ (a : Addr) (ns : List Int) (m : Nat), vs = [.ref a, .int (m : Int)] ∧ SqL K H a (ns.map V.int) ∧ ns.length ≤ 63 ∧ 1 ≤ m ∧ m ≤ 60 ∧
  ∀ (H' : Hp) (p : Addr) (cs : List Int), Same H H' → H p = none → H' p = some (.lst (cs.map V.int)) → cs.length ≤ m → Q (.ref p) H'
theorem ok_cells {f : Addr} {fd : FuncData} {k : Nat} (F : Fun K "_law_cells" "_law_cells" s_w_cells f fd) (m_int : mg "int" = none) (m_list : mg "list" = none) (m_enumerate : mg "enumerate" = none) : FnOk P w K mg base CX0 (k + 1) f fd ["_law_script", "_law_most"] (spCells K) := by
  refine F.ok sc_w_cells (fun vs H Q E h => ?_) (fun cdv A outer s H vs Q E hr h => ?_)
  · obtain ⟨a, ns, m, rfl, _⟩ := h
    rfl
  · obtain ⟨a, ns, m, rfl, hS, hn, m1, m2, q⟩ := h
    refine ⟨_, (Evl.pss_cut (ps_set (i := 2) sc_w_cells.nd rfl (Or.inl rfl) (pe_orT (pe_callTy call_list_of (by rfl) m_list (by decide +kernel) (pa_cons (pe_slice sl_list (pv 0) po_none (po_some (pv 1))) pa_nil)) (pe_one (pe_lst (pa_cons pe_int pa_nil))))) 
    (pss_cons (ps_forX (ps_for PassesOwn.never rfl (pi_enum (by rfl) m_enumerate (pa_cons (pe_slice sl_list (pv 0) (po_some (pv 1)) (po_some pe_int)) pa_nil)) (pg_tup rfl (pgs_cons (pg_name (i := 3) sc_w_cells.nd rfl (Or.inl rfl)) (pgs_cons (pg_name (i := 4) sc_w_cells.nd rfl (Or.inl rfl)) pgs_nil))) 
      (pss_cons (ps_set (i := 5) sc_w_cells.nd rfl (Or.inl rfl) (pe_op op_mod (pe_callTy call_int1 (by rfl) m_int (by decide +kernel) (pa_cons (pv 3) pa_nil)) (pv 1))) 
      (pss_one (ps_asg (pe_op op_add (pe_ix ix_list (pv 2) (pv 5) (fun _ _ => rfl)) (pe_op op_mul (pv 4) (pe_op op_add (pv 3) pe_int))) (pg_sub (pv 2) (pv 5) set_list)))))) 
    (pss_one (ps_ret (pv 2))))), ?_⟩
    refine ⟨fun σ1 H1 => ∃ (p : Addr) (c0 : List Int), σ1 = [some (.ref a), some (.int (m : Int)), some (.ref p), none, none, none] ∧ Same H H1 ∧ H p = none ∧ H1 p = some (.lst (c0.map V.int)) ∧ c0.length ≤ m ∧ (m < ns.length → c0.length = m), ?_, ?_⟩
    · walk_at "ev"
      intro p hp
      rw [cutV_int, show HT.sIx ns.length 0 none = 0 from HT.sIx_none _ _, show HT.sIx ns.length ns.length (some (m : Int)) = min m ns.length from HT.sIx_nat _ _ _, Nat.sub_zero, List.drop_zero]
      walk_at "nrm"
      have s1 : Same H (upd H p (.lst ((ns.take (min m ns.length)).map V.int))) := .upd hp
      refine ⟨p, _, rfl, .inl (sql_of upd_same), fun l hl => ?_⟩
      have s2 := s1.trans (Same.upd (o := .lst ((ns.take (min m ns.length)).map V.int)) hl)
      refine ⟨_, .inl ⟨_, sql_of upd_same, rfl⟩, ite2 (fun e => ?_) (fun e => ?_)⟩
      · refine ⟨l, _, rfl, s2, s1.free hl, upd_same, ?_, fun h => ?_⟩
        · rw [List.length_take]
          omega
        · rw [List.length_take]
          omega
      · walk_at "ev"
        intro r hr
        refine ⟨r, [0], rfl, s2.trans (.upd hr), s2.free hr, upd_same, by simp; omega, fun h => (e ?_).elim⟩
        have : (ns.take (min m ns.length)).length ≠ 0 := by
          rw [List.length_take]
          omega
        cases hq : ns.take (min m ns.length) with
        | nil => rw [hq] at this; exact (this rfl).elim
        | cons => rfl
    · rintro σ1 H1 ⟨p, c0, rfl, s1, hp, hp1, hc0, hc1⟩
      have hS1 : SqL K H1 a (ns.map V.int) := s1.sqL hS
      refine for_of ?_
      walk_at "ev"
      intro p3 hp3
      rw [cutV_int]
      generalize hms : List.take _ (List.drop _ ns) = ms
      have hlen : ms.length ≤ ns.length - m := by
        rw [← hms, List.length_take, List.length_drop, show HT.sIx ns.length 0 (some (m : Int)) = min m ns.length from HT.sIx_nat _ _ _]
        omega
      have s3 : Same H1 (upd H1 p3 (.lst (ms.map V.int))) := .upd hp3
      refine ⟨p3, _, rfl, sql_of upd_same, ?_⟩
      refine forR_it (walk_enum (K := K) (a := p3) (xs := ms.map V.int)) (fun i σ H2 => ∃ x3 x4 x5 cs, σ = [some (.ref a), some (.int (m : Int)), some (.ref p), x3, x4, x5] ∧ Same H H2 ∧ H2 p = some (.lst (cs.map V.int)) ∧ cs.length = c0.length ∧ H2 p3 = some (.lst (ms.map V.int)))
        ⟨_, _, _, c0, rfl, s1.trans s3, s3 _ _ hp1, rfl, upd_same⟩ (fun i σ H2 _ h => ?_) (fun i v σ H2 H2' hi h y => ?_) (fun σ H2 h => ?_)
      · obtain ⟨_, _, _, _, _, _, _, _, h3⟩ := h
        exact sql_of h3
      · obtain ⟨x3, x4, x5, cs, rfl, s4, h4, hl4, h3⟩ := h
        obtain ⟨T, u1, u2, rfl, hT, rfl, g1, g2⟩ := y
        cases g1
        rw [List.length_map] at hi
        have g2 : (ms.map V.int)[i]? = some u2 := g2
        rw [List.getElem?_map, List.getElem?_eq_getElem hi] at g2
        cases g2
        have s5 : Same H2 (upd H2 T (.tup [.int (i : Int), .int ms[i]])) := .upd hT
        have hcm : cs.length = m := by rw [hl4]; exact hc1 (by omega)
        refine ⟨T, _, rfl, sqt_of upd_same, rfl, _, _, rfl, _, _, rfl, rfl, ?_⟩
        have hat : ((i : Int) % (m : Int)) = ((i % m : Nat) : Int) := rfl
        have hlt : i % m < cs.length := by rw [hcm]; exact Nat.mod_lt _ (by omega)
        have h6 := s5 _ _ h4
        have hS6 : SqL K (upd H2 T (.tup [.int (i : Int), .int ms[i]])) p (cs.map V.int) := sql_of h6
        have hi63 : (i : Int) < 63 := by omega
        have hix : ixN (cs.map V.int).length ((i : Int) % (m : Int)) = some (i % m) := by
          rw [hat, List.length_map]
          exact ixN_nat hlt
        walk_at "ev"
        refine ⟨p, _, _, _, rfl, rfl, hS6, at_of (v := .int cs[i % m]) hat (by rw [List.getElem?_map, List.getElem?_eq_getElem hlt]; rfl), ?_⟩
        walk_at "ev"
        refine ⟨p, _, _, i % m, rfl, rfl, h6, hix, ?_⟩
        have np : p3 ≠ p := fun z => by
          rw [z, hp1] at hp3
          cases hp3
        refine ⟨_, _, _, cs.set (i % m) (cs[i % m] + ms[i] * ((i : Int) + 2)), rfl, (s4.trans s5).mut hp, ?_, by rw [List.length_set]; exact hl4, ?_⟩
        · rw [upd_same, List.map_set]
        · rw [upd_ne np]
          exact s5 _ _ h3
      · obtain ⟨x3, x4, x5, cs, rfl, s4, h4, hl4, h3⟩ := h
        exact ⟨_, rfl, q _ _ cs s4 hp h4 (by omega)⟩
end
end Jl

set_option Elab.async false
set_option linter.all false
set_option maxRecDepth 100000
set_option maxHeartbeats 4000000
set_option pp.maxSteps 900
namespace Jl
open PySem PySem.Spec PyProof.Rows L2
open Evl (sz_of sz_lt)
local macro_rules | `(tactic| walk_at "at") => `(tactic| first | exact box0 | exact box1 | exact box2)
local macro_rules | `(tactic| walk_at "sq") => `(tactic| first | (show SqL _ _ _ _; assumption) | (show SqT _ _ _ _; assumption) | (show _ = some _; assumption))
local macro_rules | `(tactic| walk_at "side") => `(tactic| first
  | (show (0 : Int) < _; decide)
  | (show (0 : Int) < _; omega)
  | exact ⟨by decide, by decide, by decide⟩
  | exact sz_of (Nat.le_of_ble_eq_true rfl)
  | exact rfl
  | exact Or.inl (by decide)
  | exact Or.inr (by decide)
  | exact Or.inr ⟨by omega, by omega⟩
  | exact Or.inl ⟨by omega, by omega⟩
  | exact ⟨by decide, by decide +kernel⟩)
local macro_rules | `(tactic| walk_at "ev1") => `(tactic| first
  | refine ⟨_, rfl, ?_⟩
  | refine ⟨_, _, rfl, rfl, ?_⟩
  | refine ⟨_, _, _, _, rfl, rfl, (by walk_at "sq"), (by walk_at "at"), ?_⟩
  | refine ⟨_, _, rfl, (by walk_at "sq"), ?_⟩
  | refine ⟨_, _, rfl, Or.inl (by walk_at "sq"), ?_⟩
  | refine ⟨_, _, rfl, Or.inr (by walk_at "sq"), ?_⟩
  | refine Or.inl ⟨_, rfl, ?_⟩
  | refine Or.inr ⟨_, rfl, ?_⟩
  | refine ⟨(by walk_at "side"), ?_⟩
  | refine ⟨.inl ⟨rfl, _, (by walk_at "sq")⟩, ?_⟩
  | refine ⟨_, _, rfl, ?_⟩)
local macro_rules | `(tactic| walk_at "nrm") => `(tactic| dsimp only [tNil, tCons, tC, tCB])
local macro_rules | `(tactic| walk_at "ev") => `(tactic| repeat (walk_at "ev1"))

abbrev sc_w_pick_N : List Str := ["_law_box_here", "_law_pool", "_law_size_so", "_law_rest", "_law_some", "_law_turn"]
abbrev s_w_pick : Stmt := topS 22
theorem sc_w_pick : FnScope ["_law_box_here", "_law_pool", "_law_size_so", "_law_rest", "_law_some", "_law_turn"] ["_law_box_here", "_law_pool", "_law_size_so"] (defScope s_w_pick) := ⟨rfl, rfl, rfl, by decide +kernel, rfl, by decide +kernel, by decide +kernel⟩
theorem cutS_more {S T : List Addr} {H H' : Hp} (e : Same (cutS T H) (cutS T H')) (h : ∀ a ∈ T, a ∈ S) : Same (cutS S H) (cutS S H') := fun b o q => by
  obtain ⟨h1, h2⟩ := cutS_some q
  have h3 : b ∉ T := fun z => h1 (h b z)
  have := e b o (by rw [cutS_out h3]; exact h2)
  rw [cutS_out h3] at this
  rw [cutS_out h1]
  exact this
theorem era_map {α β : Type} (f : α → β) : ∀ (l : List α) (k : Nat), (l.map f).eraseIdx k = (l.eraseIdx k).map f
  | [], _ => rfl
  | _ :: _, 0 => rfl
  | a :: l, k + 1 => congrArg (f a :: ·) (era_map f l k)
theorem era_perm {α : Type} : ∀ (l : List α) (k : Nat) (h : k < l.length), (l[k] :: l.eraseIdx k).Perm l
  | a :: l, 0, _ => List.Perm.refl _
  | a :: l, k + 1, h => (List.Perm.swap a (l[k]'(by simpa using h)) (l.eraseIdx k)).trans (List.Perm.cons a (era_perm l k (by simpa using h)))
theorem small8000 {i : Int} (h : 0 ≤ i ∧ i ≤ 10 ^ 60) : i.natAbs < 2 ^ 8000 := by
  have h2 : i.natAbs < 2 ^ 250 := by omega
  exact Nat.lt_of_lt_of_le h2 (Nat.pow_le_pow_right (by decide) (by decide))
/-! ### the box as it goes on -/
def BoxL (bx : List V) (N : Nat) : Prop := ∃ c0 c1 c2 : Int, bx = boxV c0 c1 c2 ∧ 0 ≤ c0 ∧ 0 ≤ c1 ∧ c1 < 2 ^ 62 ∧ 0 ≤ c2 ∧ c2 ≤ N
theorem BoxL.mono {bx : List V} {N M : Nat} (h : BoxL bx N) (e : N ≤ M) : BoxL bx M := by
  obtain ⟨c0, c1, c2, rfl, h1, h2, h3, h4, h5⟩ := h
  exact ⟨c0, c1, c2, rfl, h1, h2, h3, h4, by omega⟩
def spTake2 : Sp := fun vs H Q _ => ∃ (b : Addr) (n : Int) (bx : List V) (N : Nat), vs = [.ref b, .int n] ∧ H b = some (.lst bx) ∧ BoxL bx N ∧ N < 2 ^ 60 ∧ 1 ≤ n ∧ n.natAbs < 2 ^ 8000 ∧
  ∀ r bx', 0 ≤ r → r < n → BoxL bx' (N + 1) → Q (.int r) (upd H b (.lst bx'))
section
variable {P : Program} {w : World} {K : PySem.W.Frag} {mg : Str → Option Value} {base : Heap}
theorem ok_take2 {f : Addr} {fd : FuncData} {k : Nat} (G : FnOk P w K mg base CX0 k f fd ["_law_box_here", "_law_below"] (spTake K)) : FnOk P w K mg base CX0 k f fd ["_law_box_here", "_law_below"] spTake2 :=
  G.imp fun vs H Q E h => by
    obtain ⟨b, n, bx, N, rfl, hb, ⟨c0, c1, c2, rfl, h1, h2, h3, h4, h5⟩, hN, n1, n2, q⟩ := h
    exact ⟨b, c0, c1, c2, n, rfl, hb, h1, h2, h3, h4, by omega, n1, n2, fun r d0 d2 r0 r1 d00 d20 d21 => q r _ r0 r1 ⟨d0, c1, d2, rfl, d00, h2, h3, d20, by omega⟩⟩
/-- _law_pick(box, pool, size): some of the pool, each once -/
def spPick (K : PySem.W.Frag) : Sp := fun vs H Q _ => ∃ (b a : Addr) (n : Int) (bx : List V) (N : Nat) (xs : List Str), vs = [.ref b, .ref a, .int n] ∧ H b = some (.lst bx) ∧ BoxL bx N ∧ N + xs.length < 2 ^ 60 ∧ SqL K H a (xs.map V.str) ∧ xs.length ≤ 1000 ∧ 0 ≤ n ∧ n < 2 ^ 60 ∧
  ∀ (H' : Hp) (q : Addr) (ys rs : List Str) (bx' : List V), (ys ++ rs).Perm xs → ys.length = min n.toNat xs.length → H q = none → H' q = some (.lst (ys.map V.str)) → H' b = some (.lst bx') → BoxL bx' (N + ys.length) → Same (cutS [b] H) (cutS [b] H') → Q (.ref q) H'
theorem ok_pick {f fT : Addr} {fd fdT : FuncData} {k : Nat} (F : Fun K "_law_pick" "_law_pick" s_w_pick f fd) (G_w_take : FnOk P w K mg base CX0 k fT fdT ["_law_box_here", "_law_below"] spTake2) (g_w_take : mg "_law_take" = some (.ref fT)) (F_w_take : Fun K "_law_take" "_law_take" s_w_take fT fdT) (b_w_take : Binds K fdT ["_law_box_here", "_law_below"] [])
    (m_list : mg "list" = none) (m_range : mg "range" = none) (m_min : mg "min" = none) (m_len : mg "len" = none) : FnOk P w K mg base CX0 (k + 1) f fd ["_law_box_here", "_law_pool", "_law_size_so"] (spPick K) := by
  refine F.ok sc_w_pick (fun vs H Q E h => ?_) (fun cdv A outer s H vs Q E hr h => ?_)
  · obtain ⟨b, a, n, bx, N, xs, rfl, _⟩ := h
    rfl
  · obtain ⟨b, a, n, bx, N, xs, rfl, hb, hB, hN, hA, hx, n0, n1, q⟩ := h
    refine ⟨_, (pss_cons (ps_par (i := 3) (j := 4) (by rfl) sc_w_pick.nd rfl rfl (by decide) rfl rfl (pa_cons (pe_callTy call_list_of (by rfl) m_list (by decide +kernel) (pa_cons (pv 1) pa_nil)) (pa_cons (pe_lst pa_nil) pa_nil)) (by rfl)) 
    (pss_cons (ps_forX (ps_for PassesOwn.never rfl (pi_range1 (by rfl) m_range (pa_cons (pe_callB (call_min2 rfl) (by rfl) m_min (by decide +kernel) (pa_cons (pv 2) (pa_cons (pe_callB call_len_seq (by rfl) m_len PySem.boot_len (pa_cons (pv 3) pa_nil)) pa_nil))) pa_nil)) (pg_name (i := 5) sc_w_pick.nd rfl (Or.inl rfl)) (pss_one (ps_expr (pe_bm PySem.F.plainAttrs_list PySem.F.slot_list_append PySem.F.type_list_append mt_append (pv 4) (pa_cons (pe_bm PySem.F.plainAttrs_list PySem.F.slot_list_pop PySem.F.type_list_pop mt_popAt (pv 3) (pa_cons (pe_call G_w_take hr (by rfl) g_w_take F_w_take.kp b_w_take .nil pass0 (pa_cons (pv 0) (pa_cons (pe_callB call_len_seq (by rfl) m_len PySem.boot_len (pa_cons (pv 3) pa_nil)) pa_nil))) pa_nil)) pa_nil)))))) 
    (pss_one (ps_ret (pv 4))))), ?_⟩
    walk_at "ev"
    intro l hl
    walk_at "ev"
    intro p hp
    walk_at "ev"
    refine for_of ?_
    have nbl : l ≠ b := fun z => by
      rw [z, hb] at hl
      cases hl
    have s1 : Same H (upd H l (.lst (xs.map V.str))) := .upd hl
    have s2 : Same (upd H l (.lst (xs.map V.str))) (upd (upd H l (.lst (xs.map V.str))) p (.lst [])) := .upd hp
    have hl2 := s2 _ _ (upd_same (H := H) (a := l) (o := .lst (xs.map V.str)))
    have hp2 : (upd (upd H l (.lst (xs.map V.str))) p (.lst [])) p = some (.lst []) := upd_same
    have s12 := s1.trans s2
    have hpl : p ≠ l := fun z => by
      rw [z, upd_same] at hp
      cases hp
    have hpb : p ≠ b := fun z => by
      rw [z, upd_ne nbl.symm, hb] at hp
      cases hp
    have hp0 : H p = none := s1.free hp
    have hL2 : SqL K (upd (upd H l (.lst (xs.map V.str))) p (.lst [])) l (xs.map V.str) := sql_of hl2
    show iRng1 _ _ (upd (upd H l (.lst (xs.map V.str))) p (.lst [])) _
    generalize upd (upd H l (.lst (xs.map V.str))) p (.lst []) = H2 at s12 hl2 hp2 hL2
    walk_at "ev"
    rw [List.length_map]
    have hj : (if (xs.length : Int) < n then (xs.length : Int) else n) = ((min n.toNat xs.length : Nat) : Int) := by
      split <;> omega
    rw [hj]
    refine ⟨by omega, by omega, ?_⟩
    rw [Int.toNat_natCast]
    refine forR_it (walk_range (lo := 0) (n := min n.toNat xs.length)) (fun i σ H3 => ∃ x5 ys rs bx', σ = [some (.ref b), some (.ref a), some (.int n), some (.ref l), some (.ref p), x5] ∧ H3 l = some (.lst (rs.map V.str)) ∧ H3 p = some (.lst (ys.map V.str)) ∧ H3 b = some (.lst bx') ∧ BoxL bx' (N + i) ∧ (ys ++ rs).Perm xs ∧ ys.length = i ∧ Same (cutS [b] H) H3)
      ⟨_, [], xs, bx, rfl, hl2, hp2, s12 _ _ hb, hB, List.Perm.refl _, rfl, cutS_le.trans s12⟩ (fun _ _ _ _ _ => trivial) (fun i v σ H3 H3' hi h y => ?_) (fun σ H3 h => ?_)
    · obtain ⟨x5, ys, rs, bx', rfl, h1, h2, h3, h4, h5, h6, h7⟩ := h
      obtain ⟨rfl, rfl⟩ := y
      have hlen := h5.length_eq
      rw [List.length_append] at hlen
      have hL : SqL K H3' l (rs.map V.str) := sql_of h1
      have hPl : SqL K H3' p (ys.map V.str) := sql_of h2
      walk_at "ev"
      have hrl : ((rs.map V.str).length : Int) = rs.length := by rw [List.length_map]
      have hr1 : 1 ≤ rs.length := by omega
      refine ⟨b, _, bx', N + i, rfl, h3, h4, by omega, by omega, small8000 (by rw [hrl]; omega), fun r bx2 r0 r1 hB2 => ?_⟩
      rw [hrl] at r1
      obtain ⟨k, rfl⟩ : ∃ k : Nat, r = (k : Int) := ⟨r.toNat, by omega⟩
      have hk : k < rs.length := by omega
      have hsi : seqIndex? (k : Int) (rs.map V.str).length = some k := (ixN_seq (ixN_nat (by rw [List.length_map]; exact hk))).1
      have h1' : (upd H3' b (.lst bx2)) l = some (.lst (rs.map V.str)) := by
        rw [upd_ne nbl]
        exact h1
      refine ⟨l, _, (k : Int), k, .str rs[k], rfl, rfl, h1', by omega, by omega, hsi, by rw [List.getElem?_map, List.getElem?_eq_getElem hk]; rfl, ?_⟩
      have h2' : (upd (upd H3' b (.lst bx2)) l (.lst ((rs.map V.str).eraseIdx k))) p = some (.lst (ys.map V.str)) := by
        rw [upd_ne hpl, upd_ne hpb]
        exact h2
      refine ⟨p, _, _, rfl, rfl, h2', ?_, ?_⟩
      · rw [List.length_map]
        exact sz_lt (by omega)
      · refine ⟨_, ys ++ [rs[k]], rs.eraseIdx k, bx2, rfl, ?_, ?_, ?_, hB2, ?_, ?_, ?_⟩
        · rw [upd_ne hpl.symm, upd_same, era_map]
        · rw [upd_same, List.map_append]
          rfl
        · rw [upd_ne hpb.symm, upd_ne nbl.symm, upd_same]
        · refine List.Perm.trans ?_ h5
          rw [List.append_assoc]
          exact List.Perm.append_left ys (era_perm rs k hk)
        · rw [List.length_append, h6]
          rfl
        · intro x o hx
          obtain ⟨g1, g2⟩ := cutS_some hx
          have gb : x ≠ b := fun z => g1 (by rw [z]; exact List.mem_cons_self)
          have gl : x ≠ l := ne_of_none g2 hl
          have gp : x ≠ p := ne_of_none g2 hp0
          rw [upd_ne gp, upd_ne gl, upd_ne gb]
          exact h7 x o hx
    · obtain ⟨x5, ys, rs, bx', rfl, h1, h2, h3, h4, h5, h6, h7⟩ := h
      refine ⟨_, rfl, ?_⟩
      refine q H3 p ys rs bx' h5 h6 hp0 h2 h3 (by rw [h6]; exact h4) fun x o hx => ?_
      obtain ⟨g1, g2⟩ := cutS_some hx
      rw [cutS_out g1]
      exact h7 x o hx
end
end Jl

set_option Elab.async false
set_option linter.all false
set_option maxRecDepth 100000
set_option maxHeartbeats 4000000
set_option pp.maxSteps 900
namespace Jl
open PySem PySem.Spec PyProof.Rows L2
open Evl (sz_of sz_lt)
local macro_rules | `(tactic| walk_at "at") => `(tactic| first | exact box0 | exact box1 | exact box2)
local macro_rules | `(tactic| walk_at "sq") => `(tactic| first | (show SqL _ _ _ _; assumption) | (show SqT _ _ _ _; assumption) | (show _ = some _; assumption))
local macro_rules | `(tactic| walk_at "side") => `(tactic| first
  | (show (0 : Int) < _; decide)
  | (show (0 : Int) < _; omega)
  | exact ⟨by decide, by decide, by decide⟩
  | exact sz_of (Nat.le_of_ble_eq_true rfl)
  | exact rfl
  | exact Or.inl (by decide)
  | exact Or.inr (by decide)
  | exact Or.inr ⟨by omega, by omega⟩
  | exact Or.inl ⟨by omega, by omega⟩
  | exact ⟨by decide, by decide +kernel⟩)
local macro_rules | `(tactic| walk_at "ev1") => `(tactic| first
  | refine ⟨_, rfl, ?_⟩
  | refine ⟨_, _, rfl, rfl, ?_⟩
  | refine ⟨_, _, _, _, rfl, rfl, (by walk_at "sq"), (by walk_at "at"), ?_⟩
  | refine ⟨_, _, rfl, (by walk_at "sq"), ?_⟩
  | refine ⟨_, _, rfl, Or.inl (by walk_at "sq"), ?_⟩
  | refine ⟨_, _, rfl, Or.inr (by walk_at "sq"), ?_⟩
  | refine Or.inl ⟨_, rfl, ?_⟩
  | refine Or.inr ⟨_, rfl, ?_⟩
  | refine ⟨(by walk_at "side"), ?_⟩
  | refine ⟨.inl ⟨rfl, _, (by walk_at "sq")⟩, ?_⟩
  | refine ⟨_, _, rfl, ?_⟩)
local macro_rules | `(tactic| walk_at "nrm") => `(tactic| dsimp only [tNil, tCons, tC, tCB])
local macro_rules | `(tactic| walk_at "ev") => `(tactic| repeat (walk_at "ev1"))
/-! ### range(n) as a value, list of it -/
section
variable {X : Cx}
theorem cr_range1 : CallR X (.type "range") (fun vs H Q => ∃ j, vs = [V.int j] ∧ ∀ p, H p = none → Q (.ref p) (upd H p (.rng 0 j))) := fun pins s σ H vs us Q I r h => by
  obtain ⟨j, rfl, q⟩ := h
  obtain ⟨u, rfl, ru⟩ := vals1 r
  obtain ⟨t, rfl⟩ := ru
  exact call_range_1 ⟨.ref _, _, I.laid (o := .rng 0 j) (t' := s.toks + 1 + 1) (fun _ _ e => Heap.get?_push_of_some _ e) (Nat.le_refl _) ⟨_, _, _, Heap.get?_push_size _ rfl⟩, rfl, q _ (I.hok.fresh (Nat.le_refl _))⟩
theorem vals_from {f : Nat → V} : ∀ {us : List Value} (k : Nat), (∀ i v, us[i]? = some v → RelV (f (k + i)) v) → Vals ((List.range us.length).map fun i => f (k + i)) us
  | [], _, _ => .nil
  | u :: us, k, h => by
    rw [List.length_cons, List.range_succ_eq_map, List.map_cons, List.map_map]
    refine .cons (h 0 u rfl) ?_
    have := vals_from (f := f) (us := us) (k + 1) fun i v hv => by
      have q := h (i + 1) v (by simpa using hv)
      have e : k + (i + 1) = k + 1 + i := by omega
      rw [e] at q
      exact q
    have e : ((fun i => f (k + i)) ∘ Nat.succ) = fun i => f (k + 1 + i) := by
      funext i
      show f (k + (i + 1)) = f (k + 1 + i)
      congr 1
      omega
    rw [e]
    exact this
theorem call_list_rng (hc : X.calm = true) : CallR X (.type "list") (fun xs H Q => ∃ (r : Addr) (n : Nat), xs = [.ref r] ∧ H r = some (.rng 0 (n : Int)) ∧ n ≤ 1000 ∧ ∀ p, H p = none → Q (.ref p) (upd H p (.lst ((List.range n).map fun i => V.int ((i : Nat) : Int))))) := fun pins s σ H xs us Q I r h => by
  obtain ⟨a, n, rfl, ha, hn, q⟩ := h
  obtain ⟨u, rfl, ru⟩ := vals1 r
  cases ru
  obtain ⟨t, u, v, ho⟩ := I.hok _ _ ha
  refine call_list_range (n := n) (I.ok.hd hc) (show IsRange s.heap a 0 (n : Int) 1 t u v from ho) (small_one (by omega) (by omega) (by omega) (by omega)) ?_ (by omega) fun h' tk acc c hk hS hi => ?_
  · rw [rangeSize_one]
    by_cases h0 : (0 : Int) < n
    · rw [if_pos h0]
      omega
    · rw [if_neg h0]
      omega
  · obtain ⟨h1, h2⟩ := hi
    have hl : acc.toList.length = n := by rw [Array.length_toList]; exact h1
    have hv : Vals ((List.range n).map fun i => V.int ((i : Nat) : Int)) acc.toList := by
      rw [← hl]
      have g := vals_from (f := fun i => V.int ((i : Nat) : Int)) (us := acc.toList) 0 fun i v hv => by
        have hi : i < n := by
          rw [← hl]
          exact (List.getElem?_eq_some_iff.mp hv).1
        obtain ⟨t, e2⟩ := h2 i v (by simpa using hv)
        refine ⟨t, ?_⟩
        rw [e2]
        congr 1
        omega
      have e : (fun i => V.int (((0 + i : Nat)) : Int)) = fun i => V.int ((i : Nat) : Int) := by
        funext i
        rw [Nat.zero_add]
      rw [e] at g
      exact g
    exact ⟨.ref _, _, I.laid (o := .lst ((List.range n).map fun i => V.int ((i : Nat) : Int))) (t' := tk) hk (Nat.le_refl _) ⟨by rw [List.length_map, List.length_range]; exact sz_of (by omega), acc.toList, c, hv, by simpa using hS⟩, rfl, q _ (I.hok.fresh (Nat.le_refl _))⟩
/-! ### a method of a tuple whose object is known -/
/-- the place of a tuple whose object is known -/
def TupO (H : Hp) (x : V) : Prop := ∃ (p : Addr) (ob : Obj) (xs : List V), x = .ref p ∧ H p = some (.frz ob (.tup xs)) ∧ ob.cls = .type "tuple" ∧ ob.dict = none
def tBMT (r : V → List V → Hp → VK → Prop) (to : TE) (t : TA) : TE := fun σ H Q => to σ H fun x H1 => TupO H1 x ∧ t σ H1 fun xs H2 => r x xs H2 Q
theorem pe_tm {o e : Expr} {es : List Expr} {to : TE} {t : TA} {name : Str} {apos cpos : Pos} {id : String} {r : V → List V → Hp → VK → Prop} (slot : Slot "tuple" name id) (hty : typeOf (.builtin id) = pure (.type "method_descriptor")) (hm : MtR X id r) (ho : PE X o to) (ha : PA X (e :: es) t)
    (h1 : attributeBase o name X.env (eval o X.env) = eval o X.env := by rfl)
    (h2 : ((backTo cpos (starEach (e :: es) X.env)).all (fun x => !x.1) && (backToKw cpos (keywordEach [] X.env)).all (fun x => x.1.isSome)
      && decide ((e :: es).length + ([] : List Keyword).length + (if ([] : List Keyword).isEmpty then 0 else 1) < 30)) = true := by rfl)
    (h3 : (apos.endLine == cpos.line) = true := by rfl) (h4 : starEach (e :: es) X.env = (false, eval e X.env) :: starEach es X.env := by rfl) (h5 : (backTo cpos (starEach es X.env)).any (·.1) = false := by rfl) :
    PE X (.Call (.Attribute o name apos) (e :: es) [] cpos) (tBMT r to t) := ⟨fun pins s σ H Q I h => wpAny_Call_method_late h1 h2 h3 rfl (thn (ho.run pins s σ H _ I h) fun v s1 ⟨x, H1, I1, r1, ⟨p, ob, xs, ex, hp, hc, hd⟩, q1⟩ => by
  subst ex
  obtain rfl : v = Value.ref p := r1
  have hob : s1.heap.get? p = some ob := (I1.hok p _ hp).1
  refine ⟨"tuple", id, PySem.F.plainAttrs_tuple, slot, hty, ⟨ob, hob, hc⟩, fun a ea => ?_, ?_⟩
  · cases ea
    exact ⟨ob, hob, hd⟩
  · have g := ha.run cpos pins s1 σ H1 _ I1 q1
    rw [h4] at g ⊢
    have h6 : ((false, eval e X.env) :: backTo cpos (starEach es X.env)).any (·.1) = false := by
      rw [List.any_cons, h5]
      rfl
    exact Calls.callWith_builtin h6 (Calls.evalArgs_plain (thn g fun us s2 ⟨vs, H2, I2, r2, q2⟩ => hm pins s2 σ H2 (.ref p) vs _ us Q I2 rfl r2 q2)))⟩
/-- tuple(a list): a tuple whose object is known -/
def rTupF (K : PySem.W.Frag) : List V → Hp → VK → Prop := fun xs H Q => ∃ (p : Addr) (ys : List V), xs = [.ref p] ∧ SqL K H p ys ∧ ∀ (l : Addr) (ob : Obj), H l = none → ob.cls = .type "tuple" → ob.dict = none → Q (.ref l) (upd H l (.frz ob (.tup ys)))
theorem call_tupF : CallR X (.type "tuple") (rTupF X.K) := fun pins s σ H xs us Q I r h => by
  obtain ⟨p, ys, rfl, hq, q⟩ := h
  obtain ⟨u, rfl, rx⟩ := vals1 r
  cases rx
  obtain ⟨its, rv, pl, hz⟩ := I.list hq
  have hlen := rv.length
  refine call_tuple_list pl.isList (fun h' kp => ?_) (by rw [List.size_toArray]; omega)
  have I1 : Inv X pins σ H { s with heap := h' } := I.kept (t' := s.toks) kp
  have hget : (h'.push { cls := .type "tuple", data := .seq its.toArray }).get? h'.objs.size = some { cls := .type "tuple", data := .seq its.toArray } := Heap.get?_push_size _ rfl
  exact ⟨.ref h'.objs.size, _, I1.laid (o := .frz { cls := .type "tuple", data := .seq its.toArray } (.tup ys)) (t' := s.toks) (fun b o e => Heap.get?_push_of_some _ e) (Nat.le_refl _) ⟨hget, hz, its, rv, ⟨_, hget, rfl, _, rfl⟩⟩, rfl, q _ _ (I1.hok.fresh (Nat.le_refl _)) rfl rfl⟩
end
end Jl

set_option Elab.async false
set_option linter.all false
set_option maxRecDepth 100000
set_option maxHeartbeats 4000000
set_option pp.maxSteps 900
namespace Jl
open PySem PySem.Spec PyProof.Rows L2
open Evl (sz_of sz_lt)
local macro_rules | `(tactic| walk_at "at") => `(tactic| first | exact box0 | exact box1 | exact box2)
local macro_rules | `(tactic| walk_at "sq") => `(tactic| first | (show SqL _ _ _ _; assumption) | (show SqT _ _ _ _; assumption) | (show _ = some _; assumption))
local macro_rules | `(tactic| walk_at "side") => `(tactic| first
  | (show (0 : Int) < _; decide)
  | (show (0 : Int) < _; omega)
  | exact ⟨by decide, by decide, by decide⟩
  | exact sz_of (Nat.le_of_ble_eq_true rfl)
  | exact rfl
  | exact Or.inl (by decide)
  | exact Or.inr (by decide)
  | exact Or.inr ⟨by omega, by omega⟩
  | exact Or.inl ⟨by omega, by omega⟩
  | exact ⟨by decide, by decide +kernel⟩)
local macro_rules | `(tactic| walk_at "ev1") => `(tactic| first
  | refine ⟨_, rfl, ?_⟩
  | refine ⟨_, _, rfl, rfl, ?_⟩
  | refine ⟨_, _, _, _, rfl, rfl, (by walk_at "sq"), (by walk_at "at"), ?_⟩
  | refine ⟨_, _, rfl, (by walk_at "sq"), ?_⟩
  | refine ⟨_, _, rfl, Or.inl (by walk_at "sq"), ?_⟩
  | refine ⟨_, _, rfl, Or.inr (by walk_at "sq"), ?_⟩
  | refine Or.inl ⟨_, rfl, ?_⟩
  | refine Or.inr ⟨_, rfl, ?_⟩
  | refine ⟨(by walk_at "side"), ?_⟩
  | refine ⟨.inl ⟨rfl, _, (by walk_at "sq")⟩, ?_⟩
  | refine ⟨_, _, rfl, ?_⟩)
local macro_rules | `(tactic| walk_at "nrm") => `(tactic| dsimp only [tNil, tCons, tC, tCB])
local macro_rules | `(tactic| walk_at "ev") => `(tactic| repeat (walk_at "ev1"))

abbrev sc_w_web_N : List Str := ["_law_box_here", "_law_size_so", "_law_most", "_law_high", "_law_tags", "_law_marks", "_law_found", "_law_mark", "_law_one", "_law_two", "_law_space"]
abbrev s_w_web : Stmt := topS 25
theorem sc_w_web : FnScope ["_law_box_here", "_law_size_so", "_law_most", "_law_high", "_law_tags", "_law_marks", "_law_found", "_law_mark", "_law_one", "_law_two", "_law_space"] ["_law_box_here", "_law_size_so", "_law_most", "_law_high"] (defScope s_w_web) := ⟨rfl, rfl, rfl, by decide +kernel, rfl, by decide +kernel, by decide +kernel⟩
/-- the first row of a pair stands as a tuple whose object is known -/
def TupW (H : Hp) (v : V) (xs : List V) : Prop := ∃ (a0 a1 a2 : Addr) (ob : Obj), v = .ref a0 ∧ H a0 = some (.tup [.ref a1, .ref a2]) ∧ H a1 = some (.frz ob (.tup xs)) ∧ ob.cls = .type "tuple" ∧ ob.dict = none
/-! ### nets as data -/
structure QD where
  nm : Str
  st : Str
  en : Str
  room : Int
  gap : Int
def QD.d (f : Bool) (q : QD) : PyData := seqD f [.str q.nm, .str q.st, .str q.en, .int q.room, .int q.gap]
def netD (f : Bool) (ws : List Str) (qs : List QD) : PyData := seqD f [seqD f (ws.map PyData.str), seqD f (qs.map (QD.d f))]
def poolW : List Str := [Str.ofString "a", Str.ofString "b", Str.ofString "c.x", Str.ofString "d2", Str.ofString "k", Str.ofString "node", Str.ofString "s", Str.ofString "t", Str.ofString "w.1", Str.ofString "z"]
def poolQ : List Str := [Str.ofString "a", Str.ofString "d2", Str.ofString "e", Str.ofString "f1", Str.ofString "in.a", Str.ofString "k", Str.ofString "m", Str.ofString "out", Str.ofString "p", Str.ofString "q", Str.ofString "s", Str.ofString "v", Str.ofString "x", Str.ofString "z"]
structure GoodNet (s m : Nat) (h : Int) (ws : List Str) (qs : List QD) : Prop where
  wn : ws.Nodup
  wo : sortedS ws = true
  w2 : 2 ≤ ws.length
  wl : ws.length ≤ s
  wp : ∀ x ∈ ws, x ∈ poolW
  qn : ∃ l : List Str, l.Nodup ∧ sortedS l = true ∧ (∀ x ∈ l, x ∈ poolQ) ∧ ∃ k, qs.map QD.nm = l.take k
  q1 : 1 ≤ qs.length
  ql : qs.length ≤ m
  qq : ∀ q ∈ qs, q.st ∈ ws ∧ q.en ∈ ws ∧ q.st ≠ q.en ∧ 1 ≤ q.gap ∧ q.gap ≤ q.room ∧ q.room ≤ h
theorem cutS_at {S : List Addr} {H : Hp} {a : Addr} {o : HO} (h : H a = some o) (n : a ∉ S) : cutS S H a = some o := by
  rw [cutS_out n]
  exact h
theorem not1 {a b : Addr} (h : a ≠ b) : a ∉ [b] := fun z => h (List.mem_singleton.mp z)
theorem not2 {a b c : Addr} (h : a ≠ b) (h2 : a ≠ c) : a ∉ [b, c] := fun z => by
  rcases List.mem_cons.mp z with e | e
  · exact h e
  · exact h2 (List.mem_singleton.mp e)
theorem cutV_map {α : Type} {f : α → V} {xs : List α} {k : Nat} : cutV (xs.map f) none (some (k : Int)) = (xs.take k).map f := by
  unfold cutV
  rw [List.length_map, show HT.sIx xs.length 0 none = 0 from HT.sIx_none _ _, show HT.sIx xs.length xs.length (some (k : Int)) = min k xs.length from HT.sIx_nat _ _ _, Nat.sub_zero, List.drop_zero, ← List.map_take]
  congr 1
  by_cases h : k ≤ xs.length
  · rw [Nat.min_eq_left h]
  · rw [Nat.min_eq_right (by omega), List.take_of_length_le (by omega), List.take_of_length_le (by omega)]
/-- where the loop of _law_web stands -/
structure WSt (K : PySem.W.Frag) (b p7 p9 : Addr) (H3 : Hp) (ls fs : List V) (ds : List PyData) (Hc : Hp) (bx : List V) (n : Nat) : Prop where
  hb : Hc b = some (.lst bx)
  hB : BoxL bx n
  hf : Hc p7 = some (.lst fs)
  hd : DpAll K (cutS [p7, b] Hc) fs ds
  hS : Same (cutS [b] H3) (cutS [p7, b] Hc)
  h9 : cutS [p7, b] Hc p9 = some (.lst ls)
theorem WSt.take {K : PySem.W.Frag} {b p7 p9 : Addr} {H3 : Hp} {ls fs : List V} {ds : List PyData} {Hc : Hp} {bx bx' : List V} {n : Nat} (w : WSt K b p7 p9 H3 ls fs ds Hc bx n) (n7 : p7 ≠ b) (h : BoxL bx' (n + 1)) : WSt K b p7 p9 H3 ls fs ds (upd Hc b (.lst bx')) bx' (n + 1) := by
  have e : cutS [p7, b] (upd Hc b (.lst bx')) = cutS [p7, b] Hc := cutS_upd (List.mem_cons_of_mem _ List.mem_cons_self)
  exact ⟨upd_same, h, by rw [upd_ne n7]; exact w.hf, by rw [e]; exact w.hd, by rw [e]; exact w.hS, by rw [e]; exact w.h9⟩
theorem WSt.same {K : PySem.W.Frag} {b p7 p9 : Addr} {H3 : Hp} {ls fs : List V} {ds : List PyData} {Hc Hd : Hp} {bx : List V} {n : Nat} (w : WSt K b p7 p9 H3 ls fs ds Hc bx n) (e : Same Hc Hd) : WSt K b p7 p9 H3 ls fs ds Hd bx n :=
  ⟨e _ _ w.hb, w.hB, e _ _ w.hf, (cutS_mono e).dpa w.hd, w.hS.trans (cutS_mono e), cutS_mono e _ _ w.h9⟩
theorem WSt.push {K : PySem.W.Frag} {b p7 p9 : Addr} {H3 : Hp} {ls fs : List V} {ds : List PyData} {Hc : Hp} {bx : List V} {n : Nat} {v : V} {d : PyData} (w : WSt K b p7 p9 H3 ls fs ds Hc bx n) (n7 : p7 ≠ b) (h : Dp K (cutS [p7, b] Hc) v d) :
    WSt K b p7 p9 H3 ls (fs ++ [v]) (ds ++ [d]) (upd Hc p7 (.lst (fs ++ [v]))) bx n := by
  have e : cutS [p7, b] (upd Hc p7 (.lst (fs ++ [v]))) = cutS [p7, b] Hc := cutS_upd List.mem_cons_self
  exact ⟨by rw [upd_ne n7.symm]; exact w.hb, w.hB, upd_same, by rw [e]; exact dpa_app w.hd (dpa_one h), by rw [e]; exact w.hS, by rw [e]; exact w.h9⟩
theorem WSt.mono {K : PySem.W.Frag} {b p7 p9 : Addr} {H3 : Hp} {ls fs : List V} {ds : List PyData} {Hc : Hp} {bx : List V} {n n' : Nat} (w : WSt K b p7 p9 H3 ls fs ds Hc bx n) (h : n ≤ n') : WSt K b p7 p9 H3 ls fs ds Hc bx n' := ⟨w.hb, w.hB.mono h, w.hf, w.hd, w.hS, w.h9⟩
theorem apart (L r1 r2 : Int) (h1 : 0 ≤ r1) (h2 : r1 < L) (h3 : 0 ≤ r2) (h4 : r2 < L - 1) : 0 ≤ (r1 + 1 + r2) % L ∧ (r1 + 1 + r2) % L < L ∧ (r1 + 1 + r2) % L ≠ r1 := by
  refine ⟨Int.emod_nonneg _ (by omega), Int.emod_lt_of_pos _ (by omega), ?_⟩
  by_cases h : r1 + 1 + r2 < L
  · rw [Int.emod_eq_of_lt (by omega) h]
    omega
  · rw [← Int.sub_emod_right (r1 + 1 + r2) L, Int.emod_eq_of_lt (by omega) (by omega)]
    omega
section
variable {P : Program} {w : World} {K : PySem.W.Frag} {mg : Str → Option Value} {base : Heap}
/-- _law_web(box, size, most, high): a drawn net -/
def spWeb (K : PySem.W.Frag) : Sp := fun vs H Q _ => ∃ (b : Addr) (s m : Nat) (h : Int) (bx : List V) (N : Nat), vs = [.ref b, .int (s : Int), .int (m : Int), .int h] ∧ H b = some (.lst bx) ∧ BoxL bx N ∧ N < 2 ^ 50 ∧ 2 ≤ s ∧ s ≤ 10 ∧ 1 ≤ m ∧ m ≤ 14 ∧ 1 ≤ h ∧ h ≤ 10 ^ 50 ∧
  ∀ (H' : Hp) (v : V) (ws : List Str) (qs : List QD) (bx' : List V), GoodNet s m h ws qs → Dp K (cutS [b] H') v (netD true ws qs) → TupW (cutS [b] H') v (ws.map V.str) → H' b = some (.lst bx') → BoxL bx' (N + 200) → Same (cutS [b] H) (cutS [b] H') → Q v H'
theorem ok_web {f fT fP : Addr} {fd fdT fdP : FuncData} {k : Nat} (F : Fun K "_law_web" "_law_web" s_w_web f fd) (G_w_take : FnOk P w K mg base CX0 k fT fdT ["_law_box_here", "_law_below"] spTake2) (g_w_take : mg "_law_take" = some (.ref fT)) (F_w_take : Fun K "_law_take" "_law_take" s_w_take fT fdT) (b_w_take : Binds K fdT ["_law_box_here", "_law_below"] [])
    (G_w_pick : FnOk P w K mg base CX0 k fP fdP ["_law_box_here", "_law_pool", "_law_size_so"] (spPick K)) (g_w_pick : mg "_law_pick" = some (.ref fP)) (F_w_pick : Fun K "_law_pick" "_law_pick" s_w_pick fP fdP) (b_w_pick : Binds K fdP ["_law_box_here", "_law_pool", "_law_size_so"] [])
    (m_sorted : mg "sorted" = none) (m_len : mg "len" = none) (m_int : mg "int" = none) (m_tuple : mg "tuple" = none) : FnOk P w K mg base CX0 (k + 1) f fd ["_law_box_here", "_law_size_so", "_law_most", "_law_high"] (spWeb K) := by
  refine F.ok sc_w_web (fun vs H Q E h => ?_) (fun cdv A outer s0 H vs Q E hr h => ?_)
  · obtain ⟨b, s, m, h, bx, N, rfl, _⟩ := h
    rfl
  · obtain ⟨b, s, m, h, bx, N, rfl, hb, hB, hN, s1, s2, m1, m2, h1, h2, q⟩ := h
    refine ⟨_, (pss_cons (ps_set (i := 4) sc_w_web.nd rfl (Or.inl rfl) (pe_call G_w_pick hr (by rfl) g_w_pick F_w_pick.kp b_w_pick .nil pass0 (pa_cons (pv 0) (pa_cons (pe_lst (pa_cons pe_str (pa_cons pe_str (pa_cons pe_str (pa_cons pe_str (pa_cons pe_str (pa_cons pe_str (pa_cons pe_str (pa_cons pe_str (pa_cons pe_str (pa_cons pe_str pa_nil))))))))))) (pa_cons (pe_op op_add pe_int (pe_call G_w_take hr (by rfl) g_w_take F_w_take.kp b_w_take .nil pass0 (pa_cons (pv 0) (pa_cons (pe_op op_sub (pv 1) pe_int) pa_nil)))) pa_nil))))) 
    (pss_cons (ps_set (i := 5) sc_w_web.nd rfl (Or.inl rfl) (pe_callB cr_sortedS (by rfl) m_sorted (by decide +kernel) (pa_cons (pe_call G_w_pick hr (by rfl) g_w_pick F_w_pick.kp b_w_pick .nil pass0 (pa_cons (pv 0) (pa_cons (pe_lst (pa_cons pe_str (pa_cons pe_str (pa_cons pe_str (pa_cons pe_str (pa_cons pe_str (pa_cons pe_str (pa_cons pe_str (pa_cons pe_str (pa_cons pe_str (pa_cons pe_str (pa_cons pe_str (pa_cons pe_str (pa_cons pe_str (pa_cons pe_str pa_nil))))))))))))))) (pa_cons (pv 2) pa_nil)))) pa_nil))) 
    (pss_cons (ps_set (i := 6) sc_w_web.nd rfl (Or.inl rfl) (pe_lst pa_nil)) 
    (pss_cons (ps_forX (ps_for PassesOwn.never rfl (pi_list (pe_slice sl_list (pv 5) po_none (po_some (pe_op op_add pe_int (pe_call G_w_take hr (by rfl) g_w_take F_w_take.kp b_w_take .nil pass0 (pa_cons (pv 0) (pa_cons (pv 2) pa_nil))))))) (pg_name (i := 7) sc_w_web.nd rfl (Or.inl rfl)) 
      (pss_cons (ps_set (i := 8) sc_w_web.nd rfl (Or.inl rfl) (pe_call G_w_take hr (by rfl) g_w_take F_w_take.kp b_w_take .nil pass0 (pa_cons (pv 0) (pa_cons (pe_callB call_len_seq (by rfl) m_len PySem.boot_len (pa_cons (pv 4) pa_nil)) pa_nil)))) 
      (pss_cons (ps_set (i := 9) sc_w_web.nd rfl (Or.inl rfl) (pe_op op_mod (pe_callTy call_int1 (by rfl) m_int (by decide +kernel) (pa_cons (pe_op op_add (pe_op op_add (pv 8) pe_int) (pe_call G_w_take hr (by rfl) g_w_take F_w_take.kp b_w_take .nil pass0 (pa_cons (pv 0) (pa_cons (pe_op op_sub (pe_callB call_len_seq (by rfl) m_len PySem.boot_len (pa_cons (pv 4) pa_nil)) pe_int) pa_nil)))) pa_nil)) (pe_callB call_len_seq (by rfl) m_len PySem.boot_len (pa_cons (pv 4) pa_nil)))) 
      (Evl.pss_cut (ps_if (PW.pt (pw_and (pt_cmpR op_gt (pv 8) (pv 9) (nomark _)) (pw_and1 (pt_cmpR op_gt (pe_call G_w_take hr (by rfl) g_w_take F_w_take.kp b_w_take .nil pass0 (pa_cons (pv 0) (pa_cons pe_int pa_nil))) pe_int (nomark _))))) (pss_one (ps_par (i := 8) (j := 9) (by rfl) sc_w_web.nd rfl rfl (by decide) rfl rfl (pa_cons (pv 9) (pa_cons (pv 8) pa_nil)) (by rfl))) pss_nil) 
      (pss_cons (ps_set (i := 10) sc_w_web.nd rfl (Or.inl rfl) (pe_op op_add pe_int (pe_call G_w_take hr (by rfl) g_w_take F_w_take.kp b_w_take .nil pass0 (pa_cons (pv 0) (pa_cons (pv 3) pa_nil))))) 
      (pss_one (ps_expr (pe_bm PySem.F.plainAttrs_list PySem.F.slot_list_append PySem.F.type_list_append mt_append (pv 6) (pa_cons (pe_tup (pa_cons (pv 7) (pa_cons (pe_ix ix_list (pv 4) (pv 8) (fun _ _ => rfl)) (pa_cons (pe_ix ix_list (pv 4) (pv 9) (fun _ _ => rfl)) (pa_cons (pv 10) (pa_cons (pe_op op_add pe_int (pe_call G_w_take hr (by rfl) g_w_take F_w_take.kp b_w_take .nil pass0 (pa_cons (pv 0) (pa_cons (pv 10) pa_nil)))) pa_nil)))))) pa_nil)))))))))) 
    (pss_one (ps_ret (pe_tup (pa_cons (pe_callTy call_tupF (by rfl) m_tuple (by decide +kernel) (pa_cons (pe_callB cr_sortedS (by rfl) m_sorted (by decide +kernel) (pa_cons (pv 4) pa_nil)) pa_nil)) (pa_cons (pe_callTy call_tuple_of (by rfl) m_tuple (by decide +kernel) (pa_cons (pv 6) pa_nil)) pa_nil))))))))), ?_⟩
    have t0 : Trk [b] H := Trk.cons Trk.nil hb
    walk_at "ev"
    intro p1 hp1
    have n1 : p1 ≠ b := fun z => by
      rw [z, hb] at hp1
      cases hp1
    have hb1 : (upd H p1 (.lst (poolW.map V.str))) b = some (.lst bx) := (Same.upd hp1) _ _ hb
    have hS1 : Same (cutS [b] H) (cutS [b] (upd H p1 (.lst (poolW.map V.str)))) := cutS_mono (.upd hp1)
    have hq1 : (upd H p1 (.lst (poolW.map V.str))) p1 = some (.lst (poolW.map V.str)) := upd_same
    show tCons _ _ _ (upd H p1 (.lst (poolW.map V.str))) _
    generalize upd H p1 (.lst (poolW.map V.str)) = H1 at hb1 hS1 hq1 ⊢
    walk_at "ev"
    refine ⟨b, (s : Int) - 1, bx, N, rfl, hb1, hB, by omega, by omega, small8000 (by omega), fun r bx1 r0 r1 hB1 => ?_⟩
    walk_at "ev"
    have hb2 : (upd H1 b (.lst bx1)) b = some (.lst bx1) := upd_same
    have hq2 : (upd H1 b (.lst bx1)) p1 = some (.lst (poolW.map V.str)) := by
      rw [upd_ne n1]
      exact hq1
    have hS2 : Same (cutS [b] H) (cutS [b] (upd H1 b (.lst bx1))) := by
      rw [cutS_upd List.mem_cons_self]
      exact hS1
    refine ⟨b, p1, 2 + r, bx1, N + 1, poolW, rfl, hb2, hB1, by show N + 1 + 10 < 2 ^ 60; omega, sql_of hq2, by decide, by omega, by omega, fun H3 p3 ts rs bx3 hperm hlen hp3 hq3 hb3 hB3 hS3 => ?_⟩
    have tl : ts.length = (2 + r).toNat := by
      rw [hlen]
      show min _ 10 = _
      omega
    have hS3' := hS2.trans hS3
    have n3 : p3 ≠ b := fun z => by
      rw [z, hb2] at hp3
      cases hp3
    have htn : ts.Nodup ∧ ∀ x ∈ ts, x ∈ poolW := by
      have hn : (ts ++ rs).Nodup := hperm.nodup_iff.mpr (by decide +kernel)
      exact ⟨(List.nodup_append.mp hn).1, fun x hx => hperm.mem_iff.mp (List.mem_append_left _ hx)⟩
    have hB3' : BoxL bx3 (N + 20) := hB3.mono (by omega)
    clear hlen hperm hB3 hS3 hB1 hB hq2 hq1 hb1 hS1 hS2 hp3 hb2
    show gName 4 (.ref p3) _ H3 _
    clear hp1 n1
    have hT3 : cutS [b] H3 p3 = some (.lst (ts.map V.str)) := cutS_at hq3 (not1 n3)
    have t3 : Trk [b] H3 := Trk.cons Trk.nil hb3
    walk_at "ev"
    intro p4 hp4
    have n4 : p4 ≠ b := fun z => by
      rw [z, hb3] at hp4
      cases hp4
    have hb4 : (upd H3 p4 (.lst (poolQ.map V.str))) b = some (.lst bx3) := (Same.upd hp4) _ _ hb3
    have hS4 : Same (cutS [b] H3) (cutS [b] (upd H3 p4 (.lst (poolQ.map V.str)))) := cutS_mono (.upd hp4)
    have hq4 : (upd H3 p4 (.lst (poolQ.map V.str))) p4 = some (.lst (poolQ.map V.str)) := upd_same
    show tCons _ _ _ (upd H3 p4 (.lst (poolQ.map V.str))) _
    generalize upd H3 p4 (.lst (poolQ.map V.str)) = H4 at hb4 hS4 hq4 ⊢
    walk_at "ev"
    refine ⟨b, p4, (m : Int), bx3, N + 20, poolQ, rfl, hb4, hB3', by show N + 20 + 14 < 2 ^ 60; omega, sql_of hq4, by decide, by omega, by omega, fun H5 p5 ms rs2 bx5 hperm2 hlen2 hp5 hq5 hb5 hB5 hS5 => ?_⟩
    have ml : ms.length = m := by
      rw [hlen2]
      show min _ 14 = _
      omega
    have hS5' := hS4.trans hS5
    have hmn : ms.Nodup ∧ ∀ x ∈ ms, x ∈ poolQ := by
      have hn : (ms ++ rs2).Nodup := hperm2.nodup_iff.mpr (by decide +kernel)
      exact ⟨(List.nodup_append.mp hn).1, fun x hx => hperm2.mem_iff.mp (List.mem_append_left _ hx)⟩
    have hB5' : BoxL bx5 (N + 40) := hB5.mono (by omega)
    clear hlen2 hperm2 hB5 hS5 hq4 hb4 hS4 hp5
    walk_at "ev"
    refine ⟨p5, ms, rfl, sql_of hq5, by omega, fun zs p6 hz1 hz2 hp6 => ?_⟩
    have zl : zs.length = m := by rw [hz1.length_eq, ml]
    have hzn : zs.Nodup ∧ ∀ x ∈ zs, x ∈ poolQ := ⟨hz1.nodup_iff.mpr hmn.1, fun x hx => hmn.2 x (hz1.mem_iff.mp hx)⟩
    have hb6 : (upd H5 p6 (.lst (zs.map V.str))) b = some (.lst bx5) := (Same.upd hp6) _ _ hb5
    have hS6 : Same (cutS [b] H3) (cutS [b] (upd H5 p6 (.lst (zs.map V.str)))) := hS5'.trans (cutS_mono (.upd hp6))
    have hq6 : (upd H5 p6 (.lst (zs.map V.str))) p6 = some (.lst (zs.map V.str)) := upd_same
    have n6 : p6 ≠ b := fun z => by
      rw [z, hb5] at hp6
      cases hp6
    clear hmn hz1 hq5 hp6 hS5' ml
    show gName 5 (.ref p6) _ (upd H5 p6 (.lst (zs.map V.str))) _
    generalize upd H5 p6 (.lst (zs.map V.str)) = H6 at hb6 hS6 hq6 ⊢
    clear hb5 hp4 n4
    walk_at "ev"
    intro p7 hp7
    have n7 : p7 ≠ b := fun z => by
      rw [z, hb6] at hp7
      cases hp7
    have hb7 : (upd H6 p7 (.lst [])) b = some (.lst bx5) := (Same.upd hp7) _ _ hb6
    have hq7 : (upd H6 p7 (.lst [])) p7 = some (.lst []) := upd_same
    have hS7 : Same (cutS [b] H3) (cutS [p7, b] (upd H6 p7 (.lst []))) := hS6.trans (cutS_cons hp7)
    have hM7 : cutS [p7, b] (upd H6 p7 (.lst [])) p6 = some (.lst (zs.map V.str)) := (cutS_cons (S := [b]) (o := .lst []) hp7) _ _ (cutS_at hq6 (not1 n6))
    show gName 6 (.ref p7) _ (upd H6 p7 (.lst [])) _
    generalize upd H6 p7 (.lst []) = H7 at hb7 hS7 hq7 hM7 ⊢
    clear hb6 hS6 hq6 hp7
    refine for_of ?_
    walk_at "ev"
    refine ⟨b, (m : Int), bx5, N + 40, rfl, hb7, hB5', by omega, by omega, small8000 (by omega), fun r8 bx8 r80 r81 hB8 => ?_⟩
    have hq8 : (upd H7 b (.lst bx8)) p7 = some (.lst []) := by
      rw [upd_ne n7]
      exact hq7
    have hb8 : (upd H7 b (.lst bx8)) b = some (.lst bx8) := upd_same
    have eS8 : cutS [p7, b] (upd H7 b (.lst bx8)) = cutS [p7, b] H7 := cutS_upd (List.mem_cons_of_mem _ List.mem_cons_self)
    rw [← eS8] at hS7 hM7
    generalize upd H7 b (.lst bx8) = H8 at hb8 hS7 hq8 hM7 ⊢
    clear hb7 hq7 eS8 hB5'
    have hSl8 : SqL K H8 p6 (zs.map V.str) := sql_of (cutS_le _ _ hM7)
    walk_at "ev"
    intro p9 hp9
    obtain ⟨k, hk⟩ : ∃ k : Nat, 1 + r8 = (k : Int) := ⟨(1 + r8).toNat, by omega⟩
    rw [hk, cutV_map]
    have kl : k ≤ zs.length := by omega
    have w0 : WSt K b p7 p9 H3 ((zs.take k).map V.str) [] [] (upd H8 p9 (.lst ((zs.take k).map V.str))) bx8 (N + 41) :=
      ⟨(Same.upd hp9) _ _ hb8, hB8, (Same.upd hp9) _ _ hq8, .nil, hS7.trans (cutS_mono (.upd hp9)), cutS_new (Trk.cons (Trk.cons Trk.nil hb8) hq8) hp9⟩
    generalize upd H8 p9 (.lst ((zs.take k).map V.str)) = H9 at w0 ⊢
    clear hp9 hb8 hS7 hq8 hM7 hSl8 hB8
    refine ⟨p9, rfl, ⟨_, sql_of (cutS_le _ _ w0.h9)⟩, ?_⟩
    refine forR_it (walk_list (K := K) (a := p9) (xs := (zs.take k).map V.str)) (fun i σ Hc => ∃ (x7 x8 x9 x10 : Option V) (fs : List V) (qs : List QD) (bxc : List V), σ = [some (.ref b), some (.int (s : Int)), some (.int (m : Int)), some (.int h), some (.ref p3), some (.ref p6), some (.ref p7), x7, x8, x9, x10] ∧
        WSt K b p7 p9 H3 ((zs.take k).map V.str) fs (qs.map (QD.d true)) Hc bxc (N + 41 + 6 * i) ∧ qs.map QD.nm = zs.take i ∧ qs.length = i ∧ ∀ q ∈ qs, q.st ∈ ts ∧ q.en ∈ ts ∧ q.st ≠ q.en ∧ 1 ≤ q.gap ∧ q.gap ≤ q.room ∧ q.room ≤ h)
      ⟨_, _, _, _, [], [], bx8, rfl, w0, rfl, rfl, fun _ hx => absurd hx List.not_mem_nil⟩ (fun i σ Hc _ hh => ?_) (fun i v σ Hc Hc' hi hh y => ?_) (fun σ Hc hh => ?_)
    · obtain ⟨_, _, _, _, _, _, _, _, hw, _⟩ := hh
      exact sql_of (cutS_le _ _ hw.h9)
    · obtain ⟨x7, x8, x9, x10, fs, qs, bxc, rfl, hw, hqn, hql, hqq⟩ := hh
      obtain ⟨rfl, hv⟩ := y
      rw [List.length_map, List.length_take, Nat.min_eq_left kl] at hi
      have hzi : i < zs.length := by omega
      have ev : v = .str zs[i] := by
        rw [List.getElem?_map, List.getElem?_take_of_lt hi, List.getElem?_eq_getElem hzi] at hv
        exact (Option.some.inj hv).symm
      subst ev
      have hTc : SqL K Hc' p3 (ts.map V.str) := sql_of (cutS_le _ _ (hw.hS _ _ hT3))
      have hTl : (ts.map V.str).length = ts.length := List.length_map ..
      walk_at "ev"
      refine ⟨b, _, bxc, _, rfl, hw.hb, hw.hB, by omega, by omega, small8000 (by omega), fun r1 bx1 r10 r11 hB1 => ?_⟩
      have w1 := hw.take n7 hB1
      have hT1 : SqL K _ p3 (ts.map V.str) := sql_of (cutS_le _ _ (w1.hS _ _ hT3))
      generalize upd Hc' b (.lst bx1) = Ha at w1 hT1 ⊢
      walk_at "ev"
      refine ⟨b, _, bx1, _, rfl, w1.hb, w1.hB, by omega, by omega, small8000 (by omega), fun r2 bx2 r20 r21 hB2 => ?_⟩
      have w2 := w1.take n7 hB2
      have hT2 : SqL K _ p3 (ts.map V.str) := sql_of (cutS_le _ _ (w2.hS _ _ hT3))
      generalize upd Ha b (.lst bx2) = Hb at w2 hT2 ⊢
      clear hw w1 hTc hT1 hB1 hB2
      walk_at "ev"
      obtain ⟨ap1, ap2, ap3⟩ := apart (ts.map V.str).length r1 r2 r10 r11 r20 r21
      refine ⟨fun σ Hd => ∃ (o t : Nat) (x10' : Option V) (bxd : List V), σ = [some (.ref b), some (.int (s : Int)), some (.int (m : Int)), some (.int h), some (.ref p3), some (.ref p6), some (.ref p7), some (.str zs[i]), some (.int (o : Int)), some (.int (t : Int)), x10'] ∧
        o < ts.length ∧ t < ts.length ∧ o ≠ t ∧ WSt K b p7 p9 H3 ((zs.take k).map V.str) fs (qs.map (QD.d true)) Hd bxd (N + 41 + 6 * i + 1 + 1 + 1), ?_, ?_⟩
      · walk_at "ev"
        obtain ⟨o, rfl⟩ : ∃ o : Nat, r1 = (o : Int) := ⟨r1.toNat, by omega⟩
        obtain ⟨t, ht⟩ : ∃ t : Nat, ((o : Int) + 1 + r2) % ((ts.map V.str).length : Int) = (t : Int) := ⟨(((o : Int) + 1 + r2) % ((ts.map V.str).length : Int)).toNat, by omega⟩
        rw [ht] at ap1 ap2 ap3
        refine ite2 (fun e => ?_) (fun e => ?_)
        · walk_at "ev"
          refine ⟨b, _, bx2, _, rfl, w2.hb, w2.hB, by omega, by omega, small8000 (by omega), fun r3 bx3' r30 r31 hB3 => ?_⟩
          have w3 := w2.take n7 hB3
          walk_at "ev"
          refine ite2 (fun e2 => ?_) (fun e2 => ?_)
          · walk_at "ev"
            exact ⟨t, o, _, bx3', by rw [← ht]; rfl, by omega, by omega, by omega, w3⟩
          · exact ⟨o, t, _, bx3', by rw [← ht]; rfl, by omega, by omega, by omega, w3⟩
        · refine iteF ?_
          exact ⟨o, t, _, bx2, by rw [← ht]; rfl, by omega, by omega, by omega, ⟨w2.hb, w2.hB.mono (by omega), w2.hf, w2.hd, w2.hS, w2.h9⟩⟩
      · rintro σ Hd ⟨o, t, x10', bxd, rfl, ho, ht, hot, w3⟩
        walk_at "ev"
        refine ⟨b, h, bxd, _, rfl, w3.hb, w3.hB, by omega, by omega, small8000 (by omega), fun r5 bx5' r50 r51 hB5 => ?_⟩
        have w5 := w3.take n7 hB5
        have hT5 : SqL K _ p3 (ts.map V.str) := sql_of (cutS_le _ _ (w5.hS _ _ hT3))
        have hF5 : SqL K _ p7 fs := sql_of w5.hf
        generalize upd Hd b (.lst bx5') = He at w5 hT5 hF5 ⊢
        walk_at "ev"
        have a1 : atI (ts.map V.str) (o : Int) = some (.str ts[o]) := at_of rfl (by rw [List.getElem?_map, List.getElem?_eq_getElem ho]; rfl)
        have a2 : atI (ts.map V.str) (t : Int) = some (.str ts[t]) := at_of rfl (by rw [List.getElem?_map, List.getElem?_eq_getElem ht]; rfl)
        refine ⟨_, _, _, _, rfl, rfl, hT5, a1, ?_⟩
        walk_at "ev"
        refine ⟨_, _, _, _, rfl, rfl, hT5, a2, ?_⟩
        walk_at "ev"
        refine ⟨b, 1 + r5, bx5', _, rfl, w5.hb, w5.hB, by omega, by omega, small8000 (by omega), fun r6 bx6' r60 r61 hB6 => ?_⟩
        have w6 := w5.take n7 hB6
        generalize upd He b (.lst bx6') = Hf at w6 ⊢
        walk_at "ev"
        intro pt hpt
        have w7 := w6.same (.upd (o := .tup [V.str zs[i], V.str ts[o], V.str ts[t], V.int (1 + r5), V.int (1 + r6)]) hpt)
        have hpt2 : cutS [p7, b] (upd Hf pt (.tup [V.str zs[i], V.str ts[o], V.str ts[t], V.int (1 + r5), V.int (1 + r6)])) pt = some (.tup [V.str zs[i], V.str ts[o], V.str ts[t], V.int (1 + r5), V.int (1 + r6)]) :=
          cutS_new (Trk.cons (Trk.cons Trk.nil w6.hb) w6.hf) hpt
        have fl : fs.length = qs.length := by rw [dpa_len w7.hd, List.length_map]
        have w8 := w7.push n7 (v := .ref pt) (d := QD.d true ⟨zs[i], ts[o], ts[t], 1 + r5, 1 + r6⟩) (.tup (sqt_of hpt2) (.cons (.str _) (.cons (.str _) (.cons (.str _) (.cons (.int _) (.cons (.int _) .nil))))))
        refine ⟨p7, fs, .ref pt, rfl, rfl, w7.hf, sz_lt (by omega), ?_⟩
        refine ⟨_, _, _, _, fs ++ [.ref pt], qs ++ [⟨zs[i], ts[o], ts[t], 1 + r5, 1 + r6⟩], bx6', rfl, ?_, ?_, ?_, ?_⟩
        · rw [List.map_append]
          exact w8.mono (by omega)
        · rw [List.map_append, hqn, List.take_add_one, List.getElem?_eq_getElem hzi]
          rfl
        · rw [List.length_append, hql]
          rfl
        · intro x hx
          rcases List.mem_append.mp hx with hx | hx
          · exact hqq x hx
          · rw [List.mem_singleton.mp hx]
            refine ⟨List.getElem_mem ho, List.getElem_mem ht, fun e => hot (nd_ix htn.1 (List.getElem?_eq_getElem ho) (by rw [List.getElem?_eq_getElem ht]; exact congrArg some e.symm)), by show 1 ≤ 1 + r6; omega, by show 1 + r6 ≤ 1 + r5; omega, by show 1 + r5 ≤ h; omega⟩
    · obtain ⟨x7, x8, x9, x10, fs, qs, bxc, rfl, hw, hqn, hql, hqq⟩ := hh
      rw [List.length_map, List.length_take, Nat.min_eq_left kl] at hw hqn hql
      have hTc : SqL K Hc p3 (ts.map V.str) := sql_of (cutS_le _ _ (hw.hS _ _ hT3))
      walk_at "ev"
      refine ⟨by omega, fun us p10 hu1 hu2 hp10 => ?_⟩
      have w10 := hw.same (.upd (o := .lst (us.map V.str)) hp10)
      refine ⟨p10, _, rfl, sql_of upd_same, fun p11 ob hp11 hoc hod => ?_⟩
      have w11 := w10.same (.upd (o := .frz ob (.tup (us.map V.str))) hp11)
      have n11 : p11 ≠ b := fun z => by
        rw [z, w10.hb] at hp11
        cases hp11
      have g11 : cutS [b] _ p11 = some (.frz ob (.tup (us.map V.str))) := cutS_at (upd_same (H := upd Hc p10 (.lst (us.map V.str))) (a := p11) (o := .frz ob (.tup (us.map V.str)))) (not1 n11)
      generalize upd (upd Hc p10 (.lst (us.map V.str))) p11 (.frz ob (.tup (us.map V.str))) = H11 at w11 g11 ⊢
      walk_at "ev"
      refine ⟨p7, fs, rfl, .inl ⟨sql_of w11.hf, fun p12 hp12 => ?_⟩⟩
      have w12 := w11.same (.upd (o := .tup fs) hp12)
      have n12 : p12 ≠ b := fun z => by
        rw [z, w11.hb] at hp12
        cases hp12
      have g12 : cutS [b] _ p12 = some (.tup fs) := cutS_at (upd_same (H := H11) (a := p12) (o := .tup fs)) (not1 n12)
      have g11' := cutS_mono (S := [b]) (.upd (o := .tup fs) hp12) _ _ g11
      generalize upd H11 p12 (.tup fs) = H12 at w12 g12 g11' ⊢
      walk_at "ev"
      intro p13 hp13
      have w13 := w12.same (.upd (o := .tup [.ref p11, .ref p12]) hp13)
      have n13 : p13 ≠ b := fun z => by
        rw [z, w12.hb] at hp13
        cases hp13
      have e13 : Same (cutS [b] H12) (cutS [b] (upd H12 p13 (.tup [.ref p11, .ref p12]))) := cutS_mono (.upd hp13)
      have htl : ts.length = us.length := hu1.length_eq.symm
      have hus : us.Nodup ∧ ∀ x, x ∈ us ↔ x ∈ ts := ⟨hu1.nodup_iff.mpr htn.1, fun x => hu1.mem_iff⟩
      refine q _ (.ref p13) us qs bxc ⟨hus.1, hu2, by omega, by omega, fun x hx => htn.2 x ((hus.2 x).mp hx), ⟨zs, hzn.1, hz2, hzn.2, k, hqn⟩, by omega, by omega, fun x hx => ?_⟩ ?_ ⟨p13, p11, p12, ob, rfl, cutS_at upd_same (not1 n13), e13 _ _ g11', hoc, hod⟩ w13.hb (w13.hB.mono (by omega)) ?_
      · obtain ⟨q1, q2, q3⟩ := hqq x hx
        exact ⟨(hus.2 _).mpr q1, (hus.2 _).mpr q2, q3⟩
      · exact .tup (sqt_of (cutS_at upd_same (not1 n13))) (.cons (.tup (.inl (.inr ⟨ob, e13 _ _ g11'⟩)) dpa_strs) (.cons (.tup (sqt_of (e13 _ _ g12)) (cutS_tail.dpa w13.hd)) .nil))
      · exact hS3'.trans (w13.hS.trans cutS_tail)
end
end Jl

set_option Elab.async false
set_option linter.all false
set_option maxRecDepth 100000
set_option maxHeartbeats 4000000
set_option pp.maxSteps 900
namespace Jl
open PySem PySem.Spec PyProof.Rows L2
open Evl (sz_of sz_lt)
local macro_rules | `(tactic| walk_at "at") => `(tactic| first | exact box0 | exact box1 | exact box2)
local macro_rules | `(tactic| walk_at "sq") => `(tactic| first | (show SqL _ _ _ _; assumption) | (show SqT _ _ _ _; assumption) | (show _ = some _; assumption))
local macro_rules | `(tactic| walk_at "side") => `(tactic| first
  | (show (0 : Int) < _; decide)
  | (show (0 : Int) < _; omega)
  | exact ⟨by decide, by decide, by decide⟩
  | exact sz_of (Nat.le_of_ble_eq_true rfl)
  | exact rfl
  | exact Or.inl (by decide)
  | exact Or.inr (by decide)
  | exact Or.inr ⟨by omega, by omega⟩
  | exact Or.inl ⟨by omega, by omega⟩
  | exact ⟨by decide, by decide +kernel⟩)
local macro_rules | `(tactic| walk_at "ev1") => `(tactic| first
  | refine ⟨_, rfl, ?_⟩
  | refine ⟨_, _, rfl, rfl, ?_⟩
  | refine ⟨_, _, _, _, rfl, rfl, (by walk_at "sq"), (by walk_at "at"), ?_⟩
  | refine ⟨_, _, rfl, (by walk_at "sq"), ?_⟩
  | refine ⟨_, _, rfl, Or.inl (by walk_at "sq"), ?_⟩
  | refine ⟨_, _, rfl, Or.inr (by walk_at "sq"), ?_⟩
  | refine Or.inl ⟨_, rfl, ?_⟩
  | refine Or.inr ⟨_, rfl, ?_⟩
  | refine ⟨(by walk_at "side"), ?_⟩
  | refine ⟨.inl ⟨rfl, _, (by walk_at "sq")⟩, ?_⟩
  | refine ⟨_, _, rfl, ?_⟩)
local macro_rules | `(tactic| walk_at "nrm") => `(tactic| dsimp only [tNil, tCons, tC, tCB])
local macro_rules | `(tactic| walk_at "ev") => `(tactic| repeat (walk_at "ev1"))

/-! ### dict comprehensions by a walk -/
section
variable {X : Cx}
inductive DcP (wi : TI) (g : TG) (tt : TT) (tk tv : TE) (vs : List Nat) (σ : L2.St) (H : Hp) (Q : VK) : Prop
  | yes (h : tDc wi g tt tk tv vs σ H Q)
  | no (h : False)
def tDcX (wi : TI) (g : TG) (tt : TT) (tk tv : TE) (vs : List Nat) : TE := fun σ H Q => DcP wi g tt tk tv vs σ H Q
theorem pe_dcX {e : Expr} {wi : TI} {g : TG} {tt : TT} {tk tv : TE} {vs : List Nat} (h : PE X e (tDc wi g tt tk tv vs)) : PE X e (tDcX wi g tt tk tv vs) := ⟨fun pins s σ H Q I q => by
  cases q with
  | yes q => exact h.run pins s σ H Q I q
  | no q => exact q.elim⟩
theorem swd_true {kx vx : Expr} {gs : List Comprehension} {scope : Scope} {pos py : Pos} {y : Str} {l : Nat} {env : Env} (h1 : env.scope.kind = .function) (h2 : env.scope.names.lookup y = some .local) (h3 : (py.line == pos.line) = true)
    (h4 : (scope.names.any fun (n, k) => n == y && (k == .local || k == .cell)) = false) : swapsWith (.DictComp kx vx gs scope pos) (some (.Name y py)) l env = pure true := by
  have g1 : env.blockKind = .function := by
    unfold Env.blockKind
    rw [h1]
    rfl
  have g2 : env.kindOf y = some .local := h2
  unfold swapsWith
  simp only [g1, g2, h4, Expr.pos, h3]
  rfl
/-- y = {k: v for ..}: the name is stored within the comprehension's block -/
theorem ps_setDc {i : Nat} {y : Str} {py : Pos} {kx vx tg iter : Expr} {ifs : List Expr} {scope : Scope} {own : List (Str × Nat)} {pos spos : Pos} {wi : TI} {g : TG} {tt : TT} {tk tv : TE} (hc : X.calm = true) (hN : X.N.Nodup) (hy : X.N[i]? = some y) (hyl : X.env.scope.names.lookup y = some .local)
    (hsw : swapsWith (.DictComp kx vx [⟨tg, iter, ifs, 0⟩] scope pos) (some (.Name y py)) spos.line X.env = pure true) (hi : PI X tg iter wi) (ok : BlkOk X.N X.env.scope scope own)
    (hg : ∀ (s : Shared) (H : Hp) (C : Addr) (cl : List (Str × Addr)) (fp : List Addr), PG (X.blk s H scope (compEnvC scope cl C X.env) fp) tg g) (ht : ∀ (s : Shared) (H : Hp) (C : Addr) (cl : List (Str × Addr)) (fp : List Addr), PTs (X.blk s H scope (compEnvC scope cl C X.env) fp) ifs tt)
    (hk : ∀ (s : Shared) (H : Hp) (C : Addr) (cl : List (Str × Addr)) (fp : List Addr), PE (X.blk s H scope (compEnvC scope cl C X.env) fp) kx tk)
    (he : ∀ (s : Shared) (H : Hp) (C : Addr) (cl : List (Str × Addr)) (fp : List Addr), PE (X.blk s H scope (compEnvC scope cl C X.env) fp) vx tv) (hs : ∀ x, foldedSetIterable iter X.env x = pure x := by intro _; rfl) :
    PS X (.Assign [.Name y py] (.DictComp kx vx [⟨tg, iter, ifs, 0⟩] scope pos) spos) (tAsg (tDc wi g tt tk tv (own.map (·.2))) (gName i)) := ⟨fun pins s σ H D I h => by
  rw [exec_Assign_Name_used _ _ _ _ hsw]
  have h' : tDc wi g tt tk tv (own.map (·.2)) σ H (fun x H1 => gName i x σ H1 D.nx) := h
  have core := dc_core (pos := pos) (pos' := firstIterPos [⟨tg, iter, ifs, 0⟩] pos) (use := some (assign (.Name y py) X.env)) (Qf := fun _ s' => SP X pins D .next s') hc hN I hi ok hg ht hk he hs h' (fun L C s' m H' I' q hn f => by
    obtain ⟨f0, f1, f2, f3, f4, f5⟩ := f
    show wpAny _ _ (assign (.Name y py) X.env (.ref L)) _ _ _
    exact wpAny_assign_Name (store_ok2 (v := V.ref L) I' hN hy (.inl hyl) rfl (fun s2 I2 ⟨a, sb, ha⟩ => ⟨m, hn.sameBut sb (by
      rcases ha with z | z
      · rw [z]
        exact f1
      · exact fun e => f4 y a z e.symm), fun h3 sb3 => ⟨_, H', I2.turned (t' := s2.toks) (fun b o hb e => (sb3.2 b hb).trans e) f0 f1 f3 f4 f5, q⟩⟩) (.inr hyl)))
  exact wpAny_bind (wpAny_standAt (wpAny_bind (wpAny_bind (thn core fun _ s' hq => wpAny_pure (wpAny_pure hq)))))⟩
theorem ps_setDcX {st : Stmt} {i : Nat} {wi : TI} {g : TG} {tt : TT} {tk tv : TE} {vs : List Nat} (h : PS X st (tAsg (tDc wi g tt tk tv vs) (gName i))) : PS X st (tAsg (tDcX wi g tt tk tv vs) (gName i)) := ⟨fun pins s σ H D I q => by
  have q : DcP wi g tt tk tv vs σ H (fun x H1 => gName i x σ H1 D.nx) := q
  cases q with
  | yes q => exact h.run pins s σ H D I q
  | no q => exact q.elim⟩
theorem dc_of {wi : TI} {g : TG} {tt : TT} {tk tv : TE} {vs : List Nat} {σ : L2.St} {H : Hp} {Q : VK} (q : tDc wi g tt tk tv vs σ H Q) : tDcX wi g tt tk tv vs σ H Q := .yes q
end
/-- {x: f x for x in a row of texts} -/
theorem dc_strs {K : PySem.W.Frag} {tl tk tv : TE} {j : Nat} {vs : List Nat} {σ : L2.St} {H H0 : Hp} {Q : VK} {a : Addr} {fb : Bool} {xs : List Str} (f : Str → V) (hn : xs.Nodup)
    (ht : ∀ R' : VK, R' (.ref a) H0 → tl σ H R') (hs : SqF fb K H0 a (xs.map V.str)) (hl : xs.length ≤ 1000) (hw : ∀ x, wipe ((wipe σ vs).set j (some x)) vs = wipe σ vs)
    (hk : ∀ (x : Str) (H1 : Hp) (Q' : VK), Q' (.str x) H1 → tk ((wipe σ vs).set j (some (.str x))) H1 Q') (hv : ∀ (x : Str) (H1 : Hp) (Q' : VK), Q' (f x) H1 → tv ((wipe σ vs).set j (some (.str x))) H1 Q')
    (q : ∀ D, H0 D = none → Q (.ref D) (upd H0 D (.dK (xs.map fun x => (.inr x, f x))))) : tDcX (iSeq K tl) (gName j) tYes tk tv vs σ H Q := by
  refine dc_of ?_
  refine iSeq_at ht hs fun J w D hD => ?_
  refine ⟨fun i m H1 => m = xs.length - i ∧ i ≤ xs.length ∧ H1 = upd H0 D (.dK ((xs.take i).map fun x => (.inr x, f x))), ⟨_, rfl, Nat.zero_le _, rfl⟩, fun i m H1 hW => ?_⟩
  obtain ⟨rfl, hi, rfl⟩ := hW
  have hG : SqF fb K (upd H0 D (.dK ((xs.take i).map fun x => (.inr x, f x)))) a (xs.map V.str) := (Same.upd hD).sqF hs
  have hxl : (xs.map V.str).length = xs.length := List.length_map ..
  by_cases hlt : i < xs.length
  · refine .inr ⟨w.goes i _ (by omega) hG, fun H2 => H2 = upd H0 D (.dK ((xs.take (i + 1)).map fun x => (.inr x, f x))), fun H2 e => ⟨xs.length - (i + 1), by omega, rfl, hlt, e⟩, fun x H2 y => ?_⟩
    obtain ⟨rfl, hx⟩ := w.yields i _ x H2 (by omega) hG y
    rw [List.getElem?_map, List.getElem?_eq_getElem hlt] at hx
    cases hx
    refine ⟨hw _, ?_⟩
    dsimp only [tYes]
    rw [if_pos rfl]
    refine hk _ _ _ (hv _ _ _ ⟨_, .inr xs[i], rfl, upd_same, ?_, ?_⟩)
    · rw [List.length_map, List.length_take]
      exact sz_lt (by omega)
    · rw [upd_upd, List.take_add_one, List.getElem?_eq_getElem hlt, List.map_append, putK_new]
      · rfl
      · have hno : ∀ ys : List Str, xs[i] ∉ ys → valV (ys.map fun x => ((.inr x : Key), f x)) (.inr xs[i]) = none := by
          intro ys
          induction ys with
          | nil => exact fun _ => rfl
          | cons y ys ih =>
            intro hy
            rw [List.map_cons, valV_neg (fun e => hy (by rw [← Sum.inr.inj e]; exact List.mem_cons_self))]
            exact ih fun h => hy (List.mem_cons_of_mem _ h)
        refine hno _ fun hm => ?_
        obtain ⟨k, hk1, hk2⟩ := List.mem_take_iff_getElem.mp hm
        have := nd_ix hn (List.getElem?_eq_getElem hlt) (by rw [List.getElem?_eq_getElem (show k < xs.length by omega)]; exact congrArg some hk2)
        omega
  · have e : i = xs.length := by omega
    subst e
    refine .inl ⟨?_, ?_⟩
    · have := w.stops _ hG
      rw [hxl] at this
      exact this
    · rw [List.take_length]
      exact q D hD
/-- tuple(x) of a list or a tuple -/
def rTupOf (K : PySem.W.Frag) : List V → Hp → VK → Prop := fun xs H Q => ∃ p ys, xs = [.ref p] ∧ ((SqL K H p ys ∧ ∀ l, H l = none → Q (.ref l) (upd H l (.tup ys))) ∨ (SqT K H p ys ∧ Q (.ref p) H))
theorem call_tup_of {X : Cx} : CallR X (.type "tuple") (rTupOf X.K) := call_tuple_of
/-! ### sorted of data -/
def rSortD (K : PySem.W.Frag) : List V → Hp → VK → Prop := fun vs H Q => ∃ (a : Addr) (bs : List (V × PyData)), vs = [.ref a] ∧ SqL K H a (bs.map (·.1)) ∧ (∀ b ∈ bs, Dp K H b.1 b.2) ∧ PySem.W.AllAlike (bs.map (·.2)) ∧ PySem.W.Sortable (bs.map (·.2)) ∧ (∀ b ∈ bs, b.2.depth ≤ 30) ∧
  ∀ p, H p = none → Q (.ref p) (upd H p (.lst ((bs.mergeSort (PySem.W.dataLe false (·.2))).map (·.1))))
section
variable {X : Cx}
theorem each_vals : ∀ {us : List Value} {bs : List (V × PyData)}, Vals (bs.map (·.1)) us → PySem.W.EachIs (fun u b => RelV b.1 u) us bs
  | _, [], .nil => .nil
  | _, _ :: _, .cons r t => .cons r (each_vals t)
theorem vals_each : ∀ {us : List Value} {bs : List (V × PyData)}, PySem.W.EachIs (fun u b => RelV b.1 u) us bs → Vals (bs.map (·.1)) us
  | _, _, .nil => .nil
  | _, _, .cons r t => .cons r (vals_each t)
theorem cr_sortedD (hc : X.calm = true) (hu : X.A.units + 64 < cLine) : CallR X (.builtin "sorted") (rSortD X.K) := by
  intro pins s σ H vs us Q I r h
  obtain ⟨a, bs, rfl, hs, hd, hal, hso, hdp, q⟩ := h
  obtain ⟨its, rv, hl, hz⟩ := I.list hs
  rw [Vals.ref1 r]
  have he := each_vals rv
  have hr : ∀ (us : List Value) (bs : List (V × PyData)), (∀ b ∈ bs, Dp X.K H b.1 b.2) → PySem.W.EachIs (fun u b => RelV b.1 u) us bs → PySem.W.EachIs (fun u b => ∃ as, Reads s.heap u b.2 as) us bs := by
    intro us bs hd he
    induction he with
    | nil => exact .nil
    | @cons u b us bs h1 h2 ih => exact .cons (Dp.reads I b.2 b.1 u (hd b List.mem_cons_self) h1) (ih fun b hb => hd b (List.mem_cons_of_mem _ hb))
  have hlen : bs.length = its.length := by have := rv.length; rw [List.length_map] at this; exact this
  refine PySem.W.sorted_data (enc := (·.2)) hl.isList he (hr _ _ hd he) hal hso (by rw [List.length_map] at hz; exact hz) (fun b hb => by have := hdp b hb; omega) fun out hol ho => ?_
  obtain ⟨ep, he'⟩ := PyProof.Rows.sortedAll_at s.heap its out.toArray
  have hlen2 : ((bs.mergeSort (PySem.W.dataLe false (·.2))).map (·.1)).length ≤ sizeLine := by
    rw [List.length_map, List.length_mergeSort]
    rw [List.length_map] at hz
    exact hz
  exact ⟨.ref _, upd H (s.heap.objs.size + 1) (.lst _), I.laid (t' := s.toks) (fun _ _ => PyProof.Rows.sortedAll_old) (Nat.le_succ _) ⟨hlen2, out, ep, vals_each ho, he'⟩, rfl, q _ (I.hok.fresh (Nat.le_succ _))⟩
end
end Jl

set_option Elab.async false
set_option linter.all false
set_option maxRecDepth 100000
set_option maxHeartbeats 4000000
set_option pp.maxSteps 900
namespace Jl
open PySem PySem.Spec PyProof.Rows L2
open Evl (sz_of sz_lt)
local macro_rules | `(tactic| walk_at "at") => `(tactic| first | exact box0 | exact box1 | exact box2)
local macro_rules | `(tactic| walk_at "sq") => `(tactic| first | (show SqL _ _ _ _; assumption) | (show SqT _ _ _ _; assumption) | (show _ = some _; assumption))
local macro_rules | `(tactic| walk_at "side") => `(tactic| first
  | (show (0 : Int) < _; decide)
  | (show (0 : Int) < _; omega)
  | exact ⟨by decide, by decide, by decide⟩
  | exact sz_of (Nat.le_of_ble_eq_true rfl)
  | exact rfl
  | exact Or.inl (by decide)
  | exact Or.inr (by decide)
  | exact Or.inr ⟨by omega, by omega⟩
  | exact Or.inl ⟨by omega, by omega⟩
  | exact ⟨by decide, by decide +kernel⟩)
local macro_rules | `(tactic| walk_at "ev1") => `(tactic| first
  | refine ⟨_, rfl, ?_⟩
  | refine ⟨_, _, rfl, rfl, ?_⟩
  | refine ⟨_, _, _, _, rfl, rfl, (by walk_at "sq"), (by walk_at "at"), ?_⟩
  | refine ⟨_, _, rfl, (by walk_at "sq"), ?_⟩
  | refine ⟨_, _, rfl, Or.inl (by walk_at "sq"), ?_⟩
  | refine ⟨_, _, rfl, Or.inr (by walk_at "sq"), ?_⟩
  | refine Or.inl ⟨_, rfl, ?_⟩
  | refine Or.inr ⟨_, rfl, ?_⟩
  | refine ⟨(by walk_at "side"), ?_⟩
  | refine ⟨.inl ⟨rfl, _, (by walk_at "sq")⟩, ?_⟩
  | refine ⟨_, _, rfl, ?_⟩)
local macro_rules | `(tactic| walk_at "nrm") => `(tactic| dsimp only [tNil, tCons, tC, tCB])
local macro_rules | `(tactic| walk_at "ev") => `(tactic| repeat (walk_at "ev1"))

theorem vals_app : ∀ {vs : List V} {us : List Value} {zs : List V} {ws : List Value}, Vals vs us → Vals zs ws → Vals (vs ++ zs) (us ++ ws)
  | _, _, _, _, .nil, h => h
  | _, _, _, _, .cons r t, h => .cons r (vals_app t h)
section
variable {X : Cx} {CX : CXT} {k : Nat} {f : Addr} {fd : FuncData} {ps ks : List Str} {sp : Sp} {E : XK} {x : Str} {p pos : Pos} {kws : List Keyword} {tk : TA} {g : List Value → List Value → List Value} {gV : List V → List V → List V}
def tCallK0 (sp : Sp) (gV : List V → List V → List V) (E : XK) (tk : TA) : TE := fun σ H Q => tk σ H fun zs H2 => sp (gV [] zs) H2 Q E
/-- f(k = e, ..), nothing by position -/
theorem pe_callK0 (F : FnOk X.prog X.w X.K X.mg X.base CX k f fd ps sp) (hr : Room k X.A) (hg : Gl X x) (hm : X.mg x = some (.ref f)) (hk : PySem.W.keepIn X.K (.ref f) = true) (hb : KBinds X.K fd ps ks g gV) (hx : Passes CX X E)
    (hkw : PK X kws tk) (hall : (backToKw pos (keywordEach kws X.env)).all (·.1.isSome) = true := by rfl) (hks : (backToKw pos (keywordEach kws X.env)).filterMap (·.1) = ks := by rfl)
    (hdb : (x == ("__debug__" : Str)) = false := by decide) (hpl : ((backTo pos (starEach [] X.env)).any (·.1) || (backToKw pos (keywordEach kws X.env)).any (·.1.isNone)) = false := by rfl) :
    PE X (.Call (.Name x p) [] kws pos) (tCallK0 sp gV E tk) := by
  refine ⟨fun pins s σ H Q I h => ?_⟩
  refine wpAny_Call_Name_kw (ld_glob I hg hm ?_ hdb)
  refine PySem.W.callWith_KW0 (h₀ := X.base) I.ok.mod.kin hk hall (thn (hkw.run pos pins s σ H _ I h) fun ws s2 ⟨zs, H2, I2, rz, q2⟩ => ⟨I2.kIn, ?_⟩) hpl
  rw [hks]
  exact run_fnk (us := []) (vs := []) F hr hb hx I2 .nil rz q2
end
/-! ### data of nets: shape, depth -/
theorem canAll : ∀ {ds : List PyData}, (∀ d ∈ ds, d.canLay0 = true) → PyData.canLayAll0 ds = true
  | [], _ => by simp [PyData.canLayAll0]
  | d :: ds, h => by
    rw [PyData.canLayAll0, h d List.mem_cons_self, canAll fun e he => h e (List.mem_cons_of_mem _ he)]
    rfl
theorem depAll {n : Nat} : ∀ {ds : List PyData}, (∀ d ∈ ds, d.depth ≤ n) → PyData.depthAll ds ≤ n
  | [], _ => by simp [PyData.depthAll]
  | d :: ds, h => by
    rw [PyData.depthAll]
    exact Nat.max_le.mpr ⟨h d List.mem_cons_self, depAll fun e he => h e (List.mem_cons_of_mem _ he)⟩
theorem poolW_ok : ∀ x ∈ poolW, PyData.strOk x = true := by decide +kernel
theorem poolQ_ok : ∀ x ∈ poolQ, PyData.strOk x = true := by decide +kernel
theorem GoodNet.nm_ok {s m : Nat} {h : Int} {ws : List Str} {qs : List QD} (g : GoodNet s m h ws qs) : ∀ q ∈ qs, PyData.strOk q.nm = true := fun q hq => by
  obtain ⟨l, _, _, hl, k, e⟩ := g.qn
  have : q.nm ∈ l.take k := by
    rw [← e]
    exact List.mem_map.mpr ⟨q, hq, rfl⟩
  exact poolQ_ok _ (hl _ (List.mem_of_mem_take this))
theorem can_seq {f : Bool} {ds : List PyData} (h : ∀ d ∈ ds, d.canLay0 = true) : (seqD f ds).canLay0 = true := by
  cases f with
  | true =>
    show (PyData.tuple ds).canLay0 = true
    rw [PyData.canLay0]
    exact canAll h
  | false =>
    show (PyData.list ds).canLay0 = true
    rw [PyData.canLay0]
    exact canAll h
theorem dep_seq {f : Bool} {n : Nat} {ds : List PyData} (h : ∀ d ∈ ds, d.depth ≤ n) : (seqD f ds).depth ≤ n + 1 := by
  cases f with
  | true =>
    show (PyData.tuple ds).depth ≤ n + 1
    rw [PyData.depth]
    have := depAll h
    omega
  | false =>
    show (PyData.list ds).depth ≤ n + 1
    rw [PyData.depth]
    have := depAll h
    omega
theorem mem2 {α : Type} {a b x : α} (h : x ∈ [a, b]) : x = a ∨ x = b := by simpa using h
theorem mem5 {α : Type} {a b c d e x : α} (h : x ∈ [a, b, c, d, e]) : x = a ∨ x = b ∨ x = c ∨ x = d ∨ x = e := by simpa using h
theorem net_shaped {f : Bool} {s m : Nat} {h : Int} {ws : List Str} {qs : List QD} (g : GoodNet s m h ws qs) : SeqAt.shaped (netD f ws qs) = true := by
  have c1 : ∀ x ∈ ws, (PyData.str x).canLay0 = true := fun x hx => by
    rw [PyData.canLay0]
    exact poolW_ok x (g.wp x hx)
  have h1 : (netD f ws qs).canLay0 = true := can_seq fun d hd => by
    rcases mem2 hd with rfl | rfl
    · refine can_seq fun d hd => ?_
      obtain ⟨x, hx, rfl⟩ := List.mem_map.mp hd
      exact c1 x hx
    · refine can_seq fun d hd => ?_
      obtain ⟨q, hq, rfl⟩ := List.mem_map.mp hd
      refine can_seq fun d hd => ?_
      have hw := g.qq q hq
      rcases mem5 hd with rfl | rfl | rfl | rfl | rfl
      · rw [PyData.canLay0]
        exact g.nm_ok q hq
      · exact c1 _ hw.1
      · exact c1 _ hw.2.1
      · simp [PyData.canLay0]
      · simp [PyData.canLay0]
  have h2 : (netD f ws qs).depth ≤ 3 := dep_seq (n := 2) fun d hd => by
    rcases mem2 hd with rfl | rfl
    · refine dep_seq (n := 1) fun d hd => ?_
      obtain ⟨x, hx, rfl⟩ := List.mem_map.mp hd
      simp [PyData.depth]
    · refine dep_seq (n := 1) fun d hd => ?_
      obtain ⟨q, hq, rfl⟩ := List.mem_map.mp hd
      refine dep_seq (n := 0) fun d hd => ?_
      rcases mem5 hd with rfl | rfl | rfl | rfl | rfl <;> simp [PyData.depth]
  unfold SeqAt.shaped
  rw [h1, decide_eq_true (show (netD f ws qs).depth ≤ 64 by omega)]
  rfl
theorem okD_str {n : Nat} {x : Str} : okD (n + 1) (.str x) := trivial
theorem okD_int {n : Nat} {i : Int} : okD (n + 1) (.int i) := trivial
theorem net_okD {f : Bool} {ws : List Str} {qs : List QD} (h1 : ws.length ≤ 60) (h2 : qs.length ≤ 60) : okD 4 (netD f ws qs) :=
  okD_seq.mpr ⟨by show 2 ≤ 4000000; decide, fun d hd => by
    rcases mem2 hd with rfl | rfl
    · refine okD_seq.mpr ⟨by rw [List.length_map]; omega, fun d hd => ?_⟩
      obtain ⟨x, hx, rfl⟩ := List.mem_map.mp hd
      exact okD_str
    · refine okD_seq.mpr ⟨by rw [List.length_map]; omega, fun d hd => ?_⟩
      obtain ⟨q, hq, rfl⟩ := List.mem_map.mp hd
      refine okD_seq.mpr ⟨by show 5 ≤ 4000000; decide, fun d hd => ?_⟩
      rcases mem5 hd with rfl | rfl | rfl | rfl | rfl
      · exact okD_str
      · exact okD_str
      · exact okD_str
      · exact okD_int
      · exact okD_int⟩
theorem net_lists {f : Bool} {ws : List Str} {qs : List QD} : listsD (netD f ws qs) = netD false ws qs := by
  unfold netD
  rw [listsD_seq]
  show PyData.list [listsD _, listsD _] = PyData.list [_, _]
  rw [listsD_seq, listsD_seq, List.map_map, List.map_map]
  have e1 : ws.map (listsD ∘ PyData.str) = ws.map PyData.str := List.map_congr_left fun _ _ => rfl
  have e2 : qs.map (listsD ∘ QD.d f) = qs.map (QD.d false) := List.map_congr_left fun q _ => by
    show listsD (seqD f _) = _
    rw [listsD_seq]
    rfl
  rw [e1, e2]
  rfl
/-- a new tuple of data -/
theorem dp_tup {K : PySem.W.Frag} {S : List Addr} {H : Hp} {p : Addr} {xs : List V} {ds : List PyData} (t : Trk S H) (hp : H p = none) (h : DpAll K (cutS S H) xs ds) : Dp K (cutS S (upd H p (.tup xs))) (.ref p) (.tuple ds) :=
  .tup (sqt_of (cutS_new t hp)) ((cutS_mono (.upd hp)).dpa h)
theorem dp_lst {K : PySem.W.Frag} {S : List Addr} {H : Hp} {p : Addr} {xs : List V} {ds : List PyData} (t : Trk S H) (hp : H p = none) (h : DpAll K (cutS S H) xs ds) : Dp K (cutS S (upd H p (.lst xs))) (.ref p) (.list ds) :=
  .lst (sql_of (cutS_new t hp)) ((cutS_mono (.upd hp)).dpa h)
theorem TupW.mono {H H' : Hp} {v : V} {xs : List V} (h : TupW H v xs) (e : Same H H') : TupW H' v xs := by
  obtain ⟨a0, a1, a2, ob, rfl, h0, h1, h2, h3⟩ := h
  exact ⟨a0, a1, a2, ob, rfl, e _ _ h0, e _ _ h1, h2, h3⟩
theorem mem3 {α : Type} {a b c x : α} (h : x ∈ [a, b, c]) : x = a ∨ x = b ∨ x = c := by simpa using h
theorem dpn_tup {K : PySem.W.Frag} {H : Hp} {p : Addr} {xs : List V} {ds : List PyData} (hp : H p = none) (h : DpAll K H xs ds) : Dp K (upd H p (.tup xs)) (.ref p) (.tuple ds) := .tup (sqt_of upd_same) ((Same.upd hp).dpa h)
theorem dpn_lst {K : PySem.W.Frag} {H : Hp} {p : Addr} {xs : List V} {ds : List PyData} (hp : H p = none) (h : DpAll K H xs ds) : Dp K (upd H p (.lst xs)) (.ref p) (.list ds) := .lst (sql_of upd_same) ((Same.upd hp).dpa h)
theorem dpn_row {K : PySem.W.Frag} {H : Hp} {p : Addr} {a b c : Str} {r g : Int} (hp : H p = none) : Dp K (upd H p (.tup [.str a, .str b, .str c, .int r, .int g])) (.ref p) (QD.d true ⟨a, b, c, r, g⟩) :=
  dpn_tup hp (.cons (.str _) (.cons (.str _) (.cons (.str _) (.cons (.int _) (.cons (.int _) .nil)))))
section
variable {K : PySem.W.Frag}
/-- a net as it is read: a list or a tuple, its rows -/
structure NetAt (K : PySem.W.Frag) (H : Hp) (fb : Bool) (a0 a1 a2 : Addr) (ws : List Str) (qs : List QD) (xq : List V) : Prop where
  h0 : SqF fb K H a0 [.ref a1, .ref a2]
  h1 : SqF fb K H a1 (ws.map V.str)
  h2 : SqF fb K H a2 xq
  hq : ∀ (i : Nat) (v : V), xq[i]? = some v → ∃ (q : QD) (a : Addr), qs[i]? = some q ∧ v = .ref a ∧ SqF fb K H a [.str q.nm, .str q.st, .str q.en, .int q.room, .int q.gap]
  ll : xq.length = qs.length
theorem NetAt.same {H H' : Hp} {fb : Bool} {a0 a1 a2 : Addr} {ws : List Str} {qs : List QD} {xq : List V} (n : NetAt K H fb a0 a1 a2 ws qs xq) (e : Same H H') : NetAt K H' fb a0 a1 a2 ws qs xq :=
  ⟨e.sqF n.h0, e.sqF n.h1, e.sqF n.h2, fun i v h => by
    obtain ⟨q, a, g1, g2, g3⟩ := n.hq i v h
    exact ⟨q, a, g1, g2, e.sqF g3⟩, n.ll⟩
theorem netAt {H : Hp} {fb : Bool} {v : V} {ws : List Str} {qs : List QD} (h : Dp K H v (netD fb ws qs)) : ∃ a0 a1 a2 xq, v = .ref a0 ∧ NetAt K H fb a0 a1 a2 ws qs xq := by
  obtain ⟨a0, x0, rfl, h0, hx⟩ := Dp.seq_of h
  cases hx with
  | cons d1 hx =>
    cases hx with
    | cons d2 hx =>
      cases hx
      obtain ⟨a1, x1, rfl, h1, hx1⟩ := Dp.seq_of d1
      obtain ⟨a2, x2, rfl, h2, hx2⟩ := Dp.seq_of d2
      rw [dpa_strs_of hx1] at h1
      refine ⟨a0, a1, a2, x2, rfl, h0, h1, h2, fun i v hv => ?_, by rw [dpa_len hx2, List.length_map]⟩
      obtain ⟨d, hd, hvd⟩ := dpa_get hx2 hv
      rw [List.getElem?_map] at hd
      cases e : qs[i]? with
      | none =>
        rw [e] at hd
        cases hd
      | some q =>
        rw [e] at hd
        cases hd
        obtain ⟨a, x, rfl, g1, g2⟩ := Dp.seq_of hvd
        cases g2 with
        | cons c1 g2 =>
          cases g2 with
          | cons c2 g2 =>
            cases g2 with
            | cons c3 g2 =>
              cases g2 with
              | cons c4 g2 =>
                cases g2 with
                | cons c5 g2 =>
                  cases g2
                  cases c1
                  cases c2
                  cases c3
                  cases c4
                  cases c5
                  exact ⟨q, a, rfl, rfl, g1⟩
end
end Jl

set_option Elab.async false
set_option linter.all false
set_option maxRecDepth 100000
set_option maxHeartbeats 1000000
namespace Jl
open PySem PySem.Spec PyProof.Rows L2
open Evl (sz_of sz_lt)
/-! ### rows that are grown, queue by queue -/
abbrev Mk := Nat × Bool
structure Gs where
  row : List Mk
  met : List Str
def tch (qs : List QD) (w : Str) (i : Nat) : Option Mk := match qs[i]? with
  | none => none
  | some q => if q.st = w then some (i, true) else if q.en = w then some (i, false) else none
def touchN (qs : List QD) (w : Str) (k : Nat) : List Mk := (List.range k).filterMap (tch qs w)
def far (qs : List QD) (m : Mk) : Str := match qs[m.1]? with
  | none => default
  | some q => if m.2 = true then q.en else q.st
def gtS (a b : Str) : Bool := decide (b.cps.toList < a.cps.toList)
def hdG (a : Gs) : Str := a.met.headD default
def lsG (a : Gs) : Str := a.met.getLastD default
abbrev Ps := List (List Mk) × List Gs
def one (qs : List QD) (a : Gs) (p : Ps) (m : Mk) : Ps :=
  if far qs m = hdG a then (if a.row ≠ [] ∧ m.1 ∉ a.row.map (·.1) then (p.1 ++ [a.row ++ [m]], p.2) else p)
  else if gtS (far qs m) (hdG a) = true ∧ far qs m ∉ a.met then (p.1, p.2 ++ [⟨a.row ++ [m], a.met ++ [far qs m]⟩]) else p
def stp (qs : List QD) (f : List (List Mk)) (o : List Gs) (a : Gs) : Ps := (touchN qs (lsG a) qs.length).foldl (one qs a) (f, o)
inductive Rn (qs : List QD) : Ps → List (List Mk) → Prop
  | done (f : List (List Mk)) : Rn qs (f, []) f
  | next (f : List (List Mk)) (o : List Gs) (a : Gs) (g : List (List Mk)) (h : Rn qs (stp qs f o a) g) : Rn qs (f, o ++ [a]) g
theorem Rn.inv0 {qs : List QD} {p : Ps} {g : List (List Mk)} (h : Rn qs p g) (e : p.2 = []) : g = p.1 := by
  cases h with
  | done f => rfl
  | next f o a g h =>
    have e : o ++ [a] = [] := e
    simp at e
theorem Rn.inv1 {qs : List QD} {p : Ps} {g : List (List Mk)} (h : Rn qs p g) {f : List (List Mk)} {o : List Gs} {a : Gs} (e : p = (f, o ++ [a])) : Rn qs (stp qs f o a) g := by
  cases h with
  | done f' =>
    have e2 : ([] : List Gs) = o ++ [a] := congrArg (·.2) e
    simp at e2
  | next f' o' a' g h =>
    have e1 : f' = f := congrArg (·.1) e
    have e2 : o' ++ [a'] = o ++ [a] := congrArg (·.2) e
    obtain ⟨e3, e4⟩ := List.append_inj' e2 rfl
    cases e4
    subst e1 e3
    exact h
theorem Rn.det {qs : List QD} {p : Ps} {g : List (List Mk)} (h : Rn qs p g) : ∀ {g' : List (List Mk)}, Rn qs p g' → g = g' := by
  induction h with
  | done f => exact fun h' => (h'.inv0 rfl).symm
  | next f o a g _ ih => exact fun h' => ih (h'.inv1 rfl)
/-- how a step lies -/
def link (qs : List QD) (m : Mk) (x y : Str) : Prop := ∃ q, qs[m.1]? = some q ∧ ((m.2 = true ∧ q.st = x ∧ q.en = y) ∨ (m.2 = false ∧ q.en = x ∧ q.st = y))
structure NetG (ws : List Str) (qs : List QD) : Prop where
  q1 : ∀ q ∈ qs, q.st ∈ ws ∧ q.en ∈ ws ∧ q.st ≠ q.en
  nn : (qs.map QD.nm).Nodup
theorem touch_link {qs : List QD} {w : Str} {k : Nat} {m : Mk} (h : m ∈ touchN qs w k) : link qs m w (far qs m) := by
  obtain ⟨i, _, hi⟩ := List.mem_filterMap.mp h
  unfold tch at hi
  cases hq : qs[i]? with
  | none =>
    rw [hq] at hi
    cases hi
  | some q =>
    rw [hq] at hi
    dsimp only at hi
    by_cases h1 : q.st = w
    · rw [if_pos h1] at hi
      cases hi
      refine ⟨q, hq, .inl ⟨rfl, h1, ?_⟩⟩
      unfold far
      rw [hq]
      rfl
    · rw [if_neg h1] at hi
      by_cases h2 : q.en = w
      · rw [if_pos h2] at hi
        cases hi
        refine ⟨q, hq, .inr ⟨rfl, h2, ?_⟩⟩
        unfold far
        rw [hq]
        rfl
      · rw [if_neg h2] at hi
        cases hi
theorem touch_len {qs : List QD} {w : Str} {k : Nat} : (touchN qs w k).length ≤ k := Nat.le_trans (List.length_filterMap_le _ _) (by rw [List.length_range]; exact Nat.le_refl _)
structure Inv (ws : List Str) (qs : List QD) (a : Gs) : Prop where
  ll : a.met.length = a.row.length + 1
  nd : a.met.Nodup
  sub : ∀ x ∈ a.met, x ∈ ws
  lk : ∀ (k : Nat) (m : Mk) (x y : Str), a.row[k]? = some m → a.met[k]? = some x → a.met[k + 1]? = some y → link qs m x y
theorem link_lt {qs : List QD} {m : Mk} {x y : Str} (h : link qs m x y) : m.1 < qs.length := by
  obtain ⟨q, hq, _⟩ := h
  exact (List.getElem?_eq_some_iff.mp hq).1
theorem far_mem {ws : List Str} {qs : List QD} {m : Mk} {x y : Str} (g : NetG ws qs) (h : link qs m x y) : y ∈ ws ∧ x ≠ y := by
  obtain ⟨q, hq, h⟩ := h
  obtain ⟨g1, g2, g3⟩ := g.q1 q (List.mem_of_getElem? hq)
  rcases h with ⟨_, h1, h2⟩ | ⟨_, h1, h2⟩
  · exact ⟨by rw [← h2]; exact g2, by rw [← h1, ← h2]; exact g3⟩
  · exact ⟨by rw [← h2]; exact g1, by rw [← h1, ← h2]; exact g3.symm⟩
theorem met_hd {a : Gs} (h : a.met.length = a.row.length + 1) : a.met[0]? = some (hdG a) := by
  unfold hdG
  cases hm : a.met with
  | nil =>
    rw [hm] at h
    cases h
  | cons x l => rfl
theorem met_ls {a : Gs} (h : a.met.length = a.row.length + 1) : a.met[a.row.length]? = some (lsG a) := by
  unfold lsG
  have hne : a.met ≠ [] := fun z => by
    rw [z] at h
    cases h
  rw [List.getLastD_eq_getLast?, List.getLast?_eq_getElem?]
  have : a.met.length - 1 = a.row.length := by omega
  rw [this]
  have h2 : a.row.length < a.met.length := by omega
  rw [List.getElem?_eq_getElem h2]
  rfl
theorem nodup_ix {l : List Str} (h : l.Nodup) {i j : Nat} {x : Str} (h1 : l[i]? = some x) (h2 : l[j]? = some x) : i = j := nd_ix h h1 h2
theorem row_ne {ws : List Str} {qs : List QD} {a : Gs} {m : Mk} {k : Nat} (g : NetG ws qs) (I : Inv ws qs a) (hm : m ∈ touchN qs (lsG a) k) (e : far qs m = hdG a) : a.row ≠ [] := fun z => by
  have hl := touch_link hm
  have h0 := met_hd I.ll
  have h1 := met_ls I.ll
  rw [z] at h1
  have : hdG a = lsG a := Option.some.inj (h0.symm.trans h1)
  rw [e, this] at hl
  exact (far_mem g hl).2 rfl
/-- back over a queue of the row: only the first one can be -/
theorem row_first {ws : List Str} {qs : List QD} {a : Gs} {m m0 : Mk} {k : Nat} (g : NetG ws qs) (I : Inv ws qs a) (hm : m ∈ touchN qs (lsG a) k) (e : far qs m = hdG a) (h0 : a.row[0]? = some m0) : m.1 ∉ a.row.map (·.1) ↔ m.1 ≠ m0.1 := by
  constructor
  · intro h z
    exact h (List.mem_map.mpr ⟨m0, List.mem_of_getElem? h0, z.symm⟩)
  · intro h z
    obtain ⟨mk, hk, ek⟩ := List.mem_map.mp z
    obtain ⟨j, hj, rfl⟩ := List.getElem_of_mem hk
    have hj1 : j + 1 < a.met.length := by have := I.ll; omega
    have hl := touch_link hm
    rw [e] at hl
    have hlk := I.lk j a.row[j] a.met[j] a.met[j + 1] (List.getElem?_eq_getElem hj) (List.getElem?_eq_getElem (by omega)) (List.getElem?_eq_getElem hj1)
    have m0' := met_hd I.ll
    have m1' := met_ls I.ll
    obtain ⟨q, hq, hq2⟩ := hl
    obtain ⟨q', hq', hq2'⟩ := hlk
    have ek : a.row[j].1 = m.1 := ek
    rw [ek, hq] at hq'
    cases hq'
    have both : (a.met[j] = lsG a ∧ a.met[j + 1] = hdG a) ∨ (a.met[j] = hdG a ∧ a.met[j + 1] = lsG a) := by
      rcases hq2 with ⟨_, h1, h2⟩ | ⟨_, h1, h2⟩ <;> rcases hq2' with ⟨_, h3, h4⟩ | ⟨_, h3, h4⟩
      · exact .inl ⟨h3.symm.trans h1, h4.symm.trans h2⟩
      · exact .inr ⟨h3.symm.trans h2, h4.symm.trans h1⟩
      · exact .inr ⟨h3.symm.trans h2, h4.symm.trans h1⟩
      · exact .inl ⟨h3.symm.trans h1, h4.symm.trans h2⟩
    rcases both with ⟨_, h2⟩ | ⟨h1, _⟩
    · have := nodup_ix I.nd (i := j + 1) (j := 0) (by rw [List.getElem?_eq_getElem hj1, h2]) m0'
      omega
    · have hj0 := nodup_ix I.nd (i := j) (j := 0) (by rw [List.getElem?_eq_getElem (by omega), h1]) m0'
      subst hj0
      rw [List.getElem?_eq_getElem hj] at h0
      cases h0
      exact h ek.symm
theorem inv_push {ws : List Str} {qs : List QD} {a : Gs} {m : Mk} {k : Nat} (g : NetG ws qs) (I : Inv ws qs a) (hm : m ∈ touchN qs (lsG a) k) (hn : far qs m ∉ a.met) : Inv ws qs ⟨a.row ++ [m], a.met ++ [far qs m]⟩ := by
  have hl := touch_link hm
  refine ⟨?_, ?_, ?_, ?_⟩
  · have := I.ll
    simp only [List.length_append, List.length_cons, List.length_nil]
    omega
  · refine List.nodup_append.mpr ⟨I.nd, by simp, fun x hx y hy => ?_⟩
    rw [List.mem_singleton.mp hy]
    exact fun z => hn (by rw [← z]; exact hx)
  · intro x hx
    rcases List.mem_append.mp hx with hx | hx
    · exact I.sub x hx
    · rw [List.mem_singleton.mp hx]
      exact (far_mem g hl).1
  · intro j m' x y h1 h2 h3
    have ll := I.ll
    dsimp only at h1 h2 h3
    by_cases hj : j < a.row.length
    · rw [List.getElem?_append_left hj] at h1
      rw [List.getElem?_append_left (by omega)] at h2 h3
      exact I.lk j m' x y h1 h2 h3
    · have hj1 := (List.getElem?_eq_some_iff.mp h1).1
      rw [List.length_append, List.length_singleton] at hj1
      have e : j = a.row.length := by omega
      subst e
      rw [List.getElem?_append_right (Nat.le_refl _), Nat.sub_self] at h1
      cases h1
      rw [List.getElem?_append_left (by omega), met_ls ll] at h2
      cases h2
      rw [List.getElem?_append_right (by omega)] at h3
      have e2 : a.row.length + 1 - a.met.length = 0 := by omega
      rw [e2] at h3
      cases h3
      exact hl
theorem inv_len {ws : List Str} {qs : List QD} {a : Gs} (I : Inv ws qs a) : a.met.length ≤ ws.length := List.Nodup.length_le_of_subset I.nd (fun x hx => I.sub x hx)
/-! ### what all that is open can come to -/
/-- one more than the most queues at an end of a queue -/
def dgr (qs : List QD) : Nat := qs.foldl (fun m q => max m (max (touchN qs q.st qs.length).length (touchN qs q.en qs.length).length)) 0 + 1
theorem fold_max {α : Type} {f : α → Nat} : ∀ {l : List α} {m : Nat}, m ≤ l.foldl (fun m q => max m (f q)) m ∧ ∀ q ∈ l, f q ≤ l.foldl (fun m q => max m (f q)) m
  | [], m => ⟨Nat.le_refl _, fun _ h => absurd h List.not_mem_nil⟩
  | x :: l, m => by
    obtain ⟨h1, h2⟩ := fold_max (f := f) (l := l) (m := max m (f x))
    rw [List.foldl_cons]
    refine ⟨by omega, fun q hq => ?_⟩
    rcases List.mem_cons.mp hq with rfl | hq
    · omega
    · exact h2 q hq
theorem fold_le {α : Type} {f : α → Nat} {k : Nat} : ∀ {l : List α} {m : Nat}, m ≤ k → (∀ q ∈ l, f q ≤ k) → l.foldl (fun m q => max m (f q)) m ≤ k
  | [], _, h, _ => h
  | x :: l, m, h, g => by
    rw [List.foldl_cons]
    exact fold_le (Nat.max_le.mpr ⟨h, g x List.mem_cons_self⟩) fun q hq => g q (List.mem_cons_of_mem _ hq)
theorem touch_dgr {qs : List QD} {w : Str} : (touchN qs w qs.length).length + 1 ≤ dgr qs := by
  unfold dgr
  obtain ⟨_, h⟩ := fold_max (f := fun q : QD => max (touchN qs q.st qs.length).length (touchN qs q.en qs.length).length) (l := qs) (m := 0)
  cases ht : touchN qs w qs.length with
  | nil => simp
  | cons m ms =>
    have hm : m ∈ touchN qs w qs.length := by rw [ht]; exact List.mem_cons_self
    obtain ⟨q, hq, hl⟩ := touch_link hm
    have hq2 := h q (List.mem_of_getElem? hq)
    try dsimp only at hq2
    have : (touchN qs w qs.length).length ≤ max (touchN qs q.st qs.length).length (touchN qs q.en qs.length).length := by
      rcases hl with ⟨_, e, _⟩ | ⟨_, e, _⟩ <;> rw [e] <;> omega
    rw [ht] at this
    omega
theorem dgr_le {qs : List QD} : dgr qs ≤ qs.length + 1 := by
  unfold dgr
  exact Nat.succ_le_succ (fold_le (Nat.zero_le _) fun q _ => Nat.max_le.mpr ⟨touch_len, touch_len⟩)
theorem dgr_pos {qs : List QD} : 1 ≤ dgr qs := Nat.succ_le_succ (Nat.zero_le _)
def wtG (c n : Nat) (a : Gs) : Nat := c ^ (n + 1 - a.met.length)
def Phi (c n : Nat) (p : Ps) : Nat := p.1.length + (p.2.map (wtG c n)).sum
structure InvP (ws : List Str) (qs : List QD) (p : Ps) : Prop where
  op : ∀ a ∈ p.2, Inv ws qs a
  fd : ∀ r ∈ p.1, r ≠ [] ∧ r.length ≤ ws.length ∧ ∀ m ∈ r, m.1 < qs.length
theorem row_lt {ws : List Str} {qs : List QD} {a : Gs} (I : Inv ws qs a) : ∀ m ∈ a.row, m.1 < qs.length := fun m hm => by
  obtain ⟨j, hj, rfl⟩ := List.getElem_of_mem hm
  have := I.ll
  exact link_lt (I.lk j a.row[j] _ _ (List.getElem?_eq_getElem hj) (List.getElem?_eq_getElem (by omega)) (List.getElem?_eq_getElem (by omega)))
theorem one_ok {ws : List Str} {qs : List QD} {a : Gs} {m : Mk} {k : Nat} {p : Ps} (g : NetG ws qs) (I : Inv ws qs a) (hm : m ∈ touchN qs (lsG a) k) (hp : InvP ws qs p) : InvP ws qs (one qs a p m) ∧ Phi (dgr qs) ws.length (one qs a p m) ≤ Phi (dgr qs) ws.length p + dgr qs ^ (ws.length - a.met.length) := by
  have pos : 1 ≤ dgr qs ^ (ws.length - a.met.length) := Nat.one_le_pow _ _ dgr_pos
  unfold one
  by_cases h1 : far qs m = hdG a
  · rw [if_pos h1]
    by_cases h2 : a.row ≠ [] ∧ m.1 ∉ a.row.map (·.1)
    · rw [if_pos h2]
      refine ⟨⟨hp.op, fun r hr => ?_⟩, ?_⟩
      · rcases List.mem_append.mp hr with hr | hr
        · exact hp.fd r hr
        · rw [List.mem_singleton.mp hr]
          have := inv_len I
          have := I.ll
          refine ⟨by simp, by rw [List.length_append, List.length_singleton]; omega, fun x hx => ?_⟩
          rcases List.mem_append.mp hx with hx | hx
          · exact row_lt I x hx
          · rw [List.mem_singleton.mp hx]
            exact link_lt (touch_link hm)
      · unfold Phi
        simp only [List.length_append, List.length_singleton]
        omega
    · rw [if_neg h2]
      exact ⟨hp, Nat.le_add_right _ _⟩
  · rw [if_neg h1]
    by_cases h2 : gtS (far qs m) (hdG a) = true ∧ far qs m ∉ a.met
    · rw [if_pos h2]
      have I2 := inv_push g I hm h2.2
      refine ⟨⟨fun b hb => ?_, hp.fd⟩, ?_⟩
      · rcases List.mem_append.mp hb with hb | hb
        · exact hp.op b hb
        · rw [List.mem_singleton.mp hb]
          exact I2
      · unfold Phi
        have hl2 := inv_len I2
        rw [List.length_append, List.length_singleton] at hl2
        have e : wtG (dgr qs) ws.length ⟨a.row ++ [m], a.met ++ [far qs m]⟩ = dgr qs ^ (ws.length - a.met.length) := by
          unfold wtG
          rw [List.length_append, List.length_singleton]
          congr 1
          omega
        simp only [List.map_append, List.sum_append, List.map_cons, List.map_nil, List.sum_cons, List.sum_nil, e]
        omega
    · rw [if_neg h2]
      exact ⟨hp, Nat.le_add_right _ _⟩
theorem fold_ok {ws : List Str} {qs : List QD} {a : Gs} {k : Nat} (g : NetG ws qs) (I : Inv ws qs a) : ∀ (ms : List Mk) (p : Ps), (∀ m ∈ ms, m ∈ touchN qs (lsG a) k) → InvP ws qs p → InvP ws qs (ms.foldl (one qs a) p) ∧ Phi (dgr qs) ws.length (ms.foldl (one qs a) p) ≤ Phi (dgr qs) ws.length p + ms.length * dgr qs ^ (ws.length - a.met.length)
  | [], p, _, hp => ⟨hp, Nat.le_add_right _ _⟩
  | m :: ms, p, hm, hp => by
    obtain ⟨h1, h2⟩ := one_ok g I (hm m List.mem_cons_self) hp
    obtain ⟨h3, h4⟩ := fold_ok g I ms (one qs a p m) (fun x hx => hm x (List.mem_cons_of_mem _ hx)) h1
    refine ⟨h3, ?_⟩
    rw [List.foldl_cons, List.length_cons, Nat.add_mul, Nat.one_mul]
    omega
theorem stp_ok {ws : List Str} {qs : List QD} {f : List (List Mk)} {o : List Gs} {a : Gs} (g : NetG ws qs) (hp : InvP ws qs (f, o ++ [a])) : InvP ws qs (stp qs f o a) ∧ Phi (dgr qs) ws.length (stp qs f o a) < Phi (dgr qs) ws.length (f, o ++ [a]) := by
  have I := hp.op a (List.mem_append_right _ List.mem_cons_self)
  have hp2 : InvP ws qs (f, o) := ⟨fun b hb => hp.op b (List.mem_append_left _ hb), hp.fd⟩
  obtain ⟨h1, h2⟩ := fold_ok (k := qs.length) g I (touchN qs (lsG a) qs.length) (f, o) (fun m hm => hm) hp2
  refine ⟨h1, ?_⟩
  have hl := inv_len I
  have e : wtG (dgr qs) ws.length a = dgr qs * dgr qs ^ (ws.length - a.met.length) := by
    unfold wtG
    have : ws.length + 1 - a.met.length = (ws.length - a.met.length) + 1 := by omega
    rw [this, Nat.pow_succ, Nat.mul_comm]
  have e2 : Phi (dgr qs) ws.length (f, o ++ [a]) = Phi (dgr qs) ws.length (f, o) + dgr qs * dgr qs ^ (ws.length - a.met.length) := by
    unfold Phi
    simp only [List.map_append, List.sum_append, List.map_cons, List.map_nil, List.sum_cons, List.sum_nil, e]
    omega
  have pos : 1 ≤ dgr qs ^ (ws.length - a.met.length) := Nat.one_le_pow _ _ dgr_pos
  have l9 : (touchN qs (lsG a) qs.length).length * dgr qs ^ (ws.length - a.met.length) + dgr qs ^ (ws.length - a.met.length) ≤ dgr qs * dgr qs ^ (ws.length - a.met.length) := by
    rw [← Nat.succ_mul]
    exact Nat.mul_le_mul_right _ touch_dgr
  rw [e2]
  have h2 : Phi (dgr qs) ws.length (stp qs f o a) ≤ Phi (dgr qs) ws.length (f, o) + (touchN qs (lsG a) qs.length).length * dgr qs ^ (ws.length - a.met.length) := h2
  omega
theorem take_phi {ws : List Str} {qs : List QD} {f : List (List Mk)} {o : List Gs} {a : Gs} (k : Nat) (g : NetG ws qs) (hp : InvP ws qs (f, o ++ [a])) : Phi (dgr qs) ws.length (((touchN qs (lsG a) qs.length).take k).foldl (one qs a) (f, o)) ≤ Phi (dgr qs) ws.length (f, o ++ [a]) := by
  have I := hp.op a (List.mem_append_right _ List.mem_cons_self)
  have hp2 : InvP ws qs (f, o) := ⟨fun b hb => hp.op b (List.mem_append_left _ hb), hp.fd⟩
  obtain ⟨h1, h2⟩ := fold_ok (k := qs.length) g I ((touchN qs (lsG a) qs.length).take k) (f, o) (fun m hm => List.mem_of_mem_take hm) hp2
  have hl := inv_len I
  have e : wtG (dgr qs) ws.length a = dgr qs * dgr qs ^ (ws.length - a.met.length) := by
    unfold wtG
    have : ws.length + 1 - a.met.length = (ws.length - a.met.length) + 1 := by omega
    rw [this, Nat.pow_succ, Nat.mul_comm]
  have e2 : Phi (dgr qs) ws.length (f, o ++ [a]) = Phi (dgr qs) ws.length (f, o) + dgr qs * dgr qs ^ (ws.length - a.met.length) := by
    unfold Phi
    simp only [List.map_append, List.sum_append, List.map_cons, List.map_nil, List.sum_cons, List.sum_nil, e]
    omega
  have l9 : ((touchN qs (lsG a) qs.length).take k).length * dgr qs ^ (ws.length - a.met.length) ≤ dgr qs * dgr qs ^ (ws.length - a.met.length) := Nat.mul_le_mul_right _ (by
    have := touch_dgr (qs := qs) (w := lsG a)
    rw [List.length_take]
    omega)
  rw [e2]
  omega
theorem len_phi {c : Nat} (hc : 1 ≤ c) (n : Nat) (p : Ps) : p.1.length ≤ Phi c n p ∧ p.2.length ≤ Phi c n p := by
  have h : ∀ l : List Gs, l.length ≤ (l.map (wtG c n)).sum := fun l => by
    induction l with
    | nil => exact Nat.zero_le _
    | cons a l ih =>
      rw [List.length_cons, List.map_cons, List.sum_cons]
      have : 1 ≤ wtG c n a := Nat.one_le_pow _ _ hc
      omega
  have := h p.2
  unfold Phi
  omega
def startP (ws : List Str) : Ps := ([], ws.map fun w => ⟨[], [w]⟩)
theorem start_ok {ws : List Str} {qs : List QD} : InvP ws qs (startP ws) := by
  refine ⟨fun a ha => ?_, fun r hr => absurd hr List.not_mem_nil⟩
  obtain ⟨w, hw, rfl⟩ := List.mem_map.mp ha
  refine ⟨rfl, by simp, fun x hx => ?_, fun k m x y h => ?_⟩
  · rw [List.mem_singleton.mp hx]
    exact hw
  · cases h
/-- few enough workers and queues at a worker -/
def Small (ws : List Str) (qs : List QD) : Prop := ws.length * dgr qs ^ ws.length ≤ 3200000
theorem start_phi {ws : List Str} {qs : List QD} (h : Small ws qs) : Phi (dgr qs) ws.length (startP ws) ≤ 3200000 := by
  have e : Phi (dgr qs) ws.length (startP ws) = ws.length * dgr qs ^ ws.length := by
    unfold Phi startP
    rw [List.length_nil, Nat.zero_add, List.map_map]
    have : ((wtG (dgr qs) ws.length) ∘ fun w : Str => (⟨[], [w]⟩ : Gs)) = fun _ => dgr qs ^ ws.length := by
      funext w
      show dgr qs ^ (ws.length + 1 - 1) = _
      rw [Nat.add_sub_cancel]
    rw [this]
    generalize dgr qs ^ ws.length = c
    clear h this
    induction ws with
    | nil => simp
    | cons w ws ih =>
      rw [List.map_cons, List.sum_cons, List.length_cons, Nat.add_mul, Nat.one_mul, ih]
      omega
  rw [e]
  exact h
theorem small_68 {ws : List Str} {qs : List QD} (h6 : ws.length ≤ 6) (h8 : qs.length ≤ 8) : Small ws qs := by
  have h1 : dgr qs ≤ 9 := Nat.le_trans dgr_le (by omega)
  have h2 : dgr qs ^ ws.length ≤ 9 ^ ws.length := Nat.pow_le_pow_left h1 _
  have h3 : 9 ^ ws.length ≤ 9 ^ 6 := Nat.pow_le_pow_right (by decide) h6
  unfold Small
  calc ws.length * dgr qs ^ ws.length ≤ 6 * 9 ^ 6 := Nat.mul_le_mul h6 (Nat.le_trans h2 h3)
    _ ≤ 3200000 := by decide
theorem Rn.total {ws : List Str} {qs : List QD} (g : NetG ws qs) : ∀ (N : Nat) (p : Ps), Phi (dgr qs) ws.length p < N → InvP ws qs p → ∃ r, Rn qs p r
  | 0, _, h, _ => absurd h (Nat.not_lt_zero _)
  | N + 1, (f, o), h, hp => by
    rcases List.eq_nil_or_concat o with e | ⟨o', a, e⟩
    · rw [e]
      exact ⟨f, .done f⟩
    · rw [List.concat_eq_append] at e
      rw [e] at h hp ⊢
      obtain ⟨h1, h2⟩ := stp_ok g hp
      obtain ⟨r, hr⟩ := Rn.total g N (stp qs f o' a) (by omega) h1
      exact ⟨r, .next f o' a r hr⟩
theorem Rn.rows {ws : List Str} {qs : List QD} (g : NetG ws qs) {p : Ps} {r : List (List Mk)} (h : Rn qs p r) : InvP ws qs p → InvP ws qs (r, []) ∧ r.length ≤ Phi (dgr qs) ws.length p := by
  induction h with
  | done f => exact fun hp => ⟨hp, by unfold Phi; simp⟩
  | next f o a r _ ih =>
    intro hp
    obtain ⟨h1, h2⟩ := stp_ok g hp
    obtain ⟨h3, h4⟩ := ih h1
    exact ⟨h3, by omega⟩
end Jl

set_option Elab.async false
set_option linter.all false
set_option maxRecDepth 100000
set_option maxHeartbeats 1000000
namespace Jl
open PySem PySem.Spec PyProof.Rows L2
open Evl (sz_of sz_lt)
section
variable {X : Cx}
/-! ### a, b = a list or a tuple -/
theorem pg_or {tg : Expr} {w1 w2 : TG} (h1 : PG X tg w1) (h2 : PG X tg w2) : PG X tg (fun v σ H Q => w1 v σ H Q ∨ w2 v σ H Q) := ⟨fun pins s σ H v u Q I r h => by
  rcases h with h | h
  · exact h1.run pins s σ H v u Q I r h
  · exact h2.run pins s σ H v u Q I r h⟩
def gSeq (K : PySem.W.Frag) (n : Nat) (t : TGs) : TG := fun v σ H Q => gTup K n t v σ H Q ∨ gLst K n t v σ H Q
theorem gSeq_at {K : PySem.W.Frag} {n : Nat} {t : TGs} {σ : L2.St} {H : Hp} {Q : L2.St → Hp → Prop} {a : Addr} {f : Bool} {xs : List V} (h : SqF f K H a xs) (hl : xs.length = n) (q : t xs σ H Q) : gSeq K n t (.ref a) σ H Q := by
  cases f with
  | true => exact .inl ⟨a, xs, rfl, h, hl, q⟩
  | false => exact .inr ⟨a, xs, rfl, h, hl, q⟩
theorem pg_seq {es : List Expr} {k n : Nat} {t : TGs} {pos : Pos} (h1 : PG X (.Tuple es k pos) (gTup X.K n t)) (h2 : PG X (.Tuple es k pos) (gLst X.K n t)) : PG X (.Tuple es k pos) (gSeq X.K n t) := pg_or h1 h2
/-! ### min(xs, default=None) of whole numbers -/
def rMinN (K : PySem.W.Frag) : List V → List V → Hp → VK → Prop := fun vs zs H Q => ∃ (a : Addr) (ns : List Int), vs = [V.ref a] ∧ zs = [V.non] ∧ SqL K H a (ns.map V.int) ∧ (ns = [] → Q .non H) ∧ ∀ n ms, ns = n :: ms → Q (.int (ms.foldl min n)) H
theorem reads_ints {h : Heap} : ∀ {ns : List Int} {us : List Value}, Vals (ns.map V.int) us → ∃ as, ReadsAll h us (ns.map PyData.int) as
  | [], _, .nil => ⟨[], .nil⟩
  | n :: ns, _, .cons r t => by
    obtain ⟨k, rfl⟩ := r
    obtain ⟨as, ha⟩ := reads_ints (ns := ns) t
    exact ⟨_, .cons (.int n k) ha⟩
theorem ck_minN (hc : X.calm = true) (hu : X.A.units + 64 < cLine) : CallRK X (.builtin "min") [Str.ofString "default"] (rMinN X.K) := by
  intro pins s σ H vs zs us ws Q I r rz h
  obtain ⟨a, ns, rfl, rfl, hs, q0, q⟩ := h
  obtain rfl := Vals.ref1 r
  obtain ⟨w1, rfl, e1⟩ := vals1 rz
  obtain rfl : w1 = Value.none := e1
  obtain ⟨its, rv, hl, hz⟩ := I.list hs
  obtain ⟨as, hr⟩ := reads_ints (h := s.heap) rv
  have hd0 : ∀ l : List Int, PyData.depthAll (l.map PyData.int) = 0 := fun l => by
    induction l with
    | nil => simp [PyData.depthAll]
    | cons x l ih => simp [PyData.depthAll, PyData.depth, ih]
  show wpAny _ _ (call (.builtin "min") [.ref a] [(Str.ofString "default", Value.none)]) _ _ _
  refine PySem.W.min_list_default (vs := its.toArray) (I.ok.hd hc) hl.isList (by simpa using hr) ⟨fun x hx y hy => ?_, fun x hx => ?_⟩ (by rw [hd0]; omega) (fun e h' tk hk => ?_) (fun y ys i v h' tk bs e hv hrd hk => ?_)
  · obtain ⟨i, _, rfl⟩ := List.mem_map.mp hx
    obtain ⟨j, _, rfl⟩ := List.mem_map.mp hy
    simp [PySem.W.alike]
  · obtain ⟨i, _, rfl⟩ := List.mem_map.mp hx
    simp
  · have e0 : ns = [] := List.map_eq_nil_iff.mp e
    exact ⟨.non, H, I.kept (t' := tk) hk, rfl, q0 e0⟩
  · cases ns with
    | nil => cases e
    | cons n ms =>
      cases e
      rw [PySem.W.minD_ints] at hrd
      cases hrd with
      | int i t => exact ⟨.int _, H, I.kept (t' := tk) hk, ⟨t, rfl⟩, q n ms rfl⟩
end
end Jl

set_option Elab.async false
set_option linter.all false
set_option maxRecDepth 100000
set_option maxHeartbeats 1000000
set_option pp.maxSteps 300
namespace Jl
open PySem PySem.Spec PyProof.Rows L2
open Evl (sz_of sz_lt)
local macro_rules | `(tactic| walk_at "at") => `(tactic| first | exact box0 | exact box1 | exact box2)
local macro_rules | `(tactic| walk_at "sq") => `(tactic| first | (show SqL _ _ _ _; assumption) | (show SqT _ _ _ _; assumption) | (show _ = some _; assumption))
local macro_rules | `(tactic| walk_at "side") => `(tactic| first
  | (show (0 : Int) < _; decide)
  | (show (0 : Int) < _; omega)
  | exact ⟨by decide, by decide, by decide⟩
  | exact sz_of (Nat.le_of_ble_eq_true rfl)
  | exact rfl
  | exact Or.inl (by decide)
  | exact Or.inr (by decide)
  | exact Or.inr ⟨by omega, by omega⟩
  | exact Or.inl ⟨by omega, by omega⟩
  | exact ⟨by decide, by decide +kernel⟩)
local macro_rules | `(tactic| walk_at "ev1") => `(tactic| first
  | refine ⟨_, rfl, ?_⟩
  | refine ⟨_, _, rfl, rfl, ?_⟩
  | refine ⟨_, _, _, _, rfl, rfl, (by walk_at "sq"), (by walk_at "at"), ?_⟩
  | refine ⟨_, _, rfl, (by walk_at "sq"), ?_⟩
  | refine ⟨_, _, rfl, Or.inl (by walk_at "sq"), ?_⟩
  | refine ⟨_, _, rfl, Or.inr (by walk_at "sq"), ?_⟩
  | refine Or.inl ⟨_, rfl, ?_⟩
  | refine Or.inr ⟨_, rfl, ?_⟩
  | refine ⟨(by walk_at "side"), ?_⟩
  | refine ⟨.inl ⟨rfl, _, (by walk_at "sq")⟩, ?_⟩
  | refine ⟨_, _, rfl, ?_⟩)
local macro_rules | `(tactic| walk_at "nrm") => `(tactic| dsimp only [tNil, tCons, tC, tCB])
local macro_rules | `(tactic| walk_at "ev") => `(tactic| repeat (walk_at "ev1"))

abbrev sc_step_over_N : List Str := ["queue", "place", "name", "start", "end", "room", "notice"]
abbrev s_step_over : Stmt := topS 3
theorem sc_step_over : FnScope ["queue", "place", "name", "start", "end", "room", "notice"] ["queue", "place"] (defScope s_step_over) := ⟨rfl, rfl, rfl, by decide +kernel, rfl, by decide +kernel, by decide +kernel⟩
/-! ### steps as data -/
def alS : Str := Str.ofString "along"
def agS : Str := Str.ofString "against"
def mvd (nm : Str) (al : Bool) (to : Str) (pr : Int) : PyData := .tuple [.tuple [.str nm, .str (if al = true then alS else agS)], .str to, .int pr]
section
variable {P : Program} {w : World} {K : PySem.W.Frag} {mg : Str → Option Value} {base : Heap}
def spStep (K : PySem.W.Frag) : Sp := fun vs H Q _ => ∃ (a : Addr) (fb : Bool) (nm st en : Str) (room gap : Int) (w : Str) (S : List Addr), vs = [.ref a, .str w] ∧ SqF fb K H a [.str nm, .str st, .str en, .int room, .int gap] ∧ Trk S H ∧ st ≠ en ∧ (w = st ∨ w = en) ∧
  ∀ H' v, Same H H' → Dp K (cutS S H') v (if w = st then mvd nm true en room else mvd nm false st (1 - gap)) → Q v H'
theorem ok_step_over {f : Addr} {fd : FuncData} {k : Nat} (F : Fun K "step_over" "step_over" s_step_over f fd) : FnOk P w K mg base CX0 (k + 1) f fd ["queue", "place"] (spStep K) := by
  refine F.ok sc_step_over (fun vs H Q E h => ?_) (fun cdv A outer s0 H vs Q E hr h => ?_)
  · obtain ⟨a, fb, nm, st, en, room, gap, w, S, rfl, _⟩ := h
    rfl
  · obtain ⟨a, fb, nm, st, en, room, gap, w, S, rfl, hs, hT, hne, hw, q⟩ := h
    refine ⟨_, (pss_cons (ps_asg (pv 0) (pg_seq (pg_tup rfl (pgs_cons (pg_name (i := 2) sc_step_over.nd rfl (Or.inl rfl)) (pgs_cons (pg_name (i := 3) sc_step_over.nd rfl (Or.inl rfl)) (pgs_cons (pg_name (i := 4) sc_step_over.nd rfl (Or.inl rfl)) (pgs_cons (pg_name (i := 5) sc_step_over.nd rfl (Or.inl rfl)) (pgs_cons (pg_name (i := 6) sc_step_over.nd rfl (Or.inl rfl)) pgs_nil)))))) (pg_lst rfl (pgs_cons (pg_name (i := 2) sc_step_over.nd rfl (Or.inl rfl)) (pgs_cons (pg_name (i := 3) sc_step_over.nd rfl (Or.inl rfl)) (pgs_cons (pg_name (i := 4) sc_step_over.nd rfl (Or.inl rfl)) (pgs_cons (pg_name (i := 5) sc_step_over.nd rfl (Or.inl rfl)) (pgs_cons (pg_name (i := 6) sc_step_over.nd rfl (Or.inl rfl)) pgs_nil)))))))) 
    (pss_cons (ps_if (pt_cmpR op_eq (pv 1) (pv 3) (nomark _)) (pss_one (ps_ret (pe_tup (pa_cons (pe_tup (pa_cons (pv 2) (pa_cons pe_str pa_nil))) (pa_cons (pv 4) (pa_cons (pv 5) pa_nil)))))) pss_nil) 
    (pss_cons (ps_if (pt_cmpR op_eq (pv 1) (pv 4) (nomark _)) (pss_one (ps_ret (pe_tup (pa_cons (pe_tup (pa_cons (pv 2) (pa_cons pe_str pa_nil))) (pa_cons (pv 3) (pa_cons (pe_op op_sub pe_int (pv 6)) pa_nil)))))) pss_nil) 
    (pss_one (ps_ret pe_non))))), ?_⟩
    refine ⟨_, rfl, ?_⟩
    refine gSeq_at hs rfl ?_
    refine ⟨_, _, rfl, ?_⟩
    refine ⟨_, _, rfl, ?_⟩
    refine ⟨_, _, rfl, ?_⟩
    refine ⟨_, _, rfl, ?_⟩
    refine ⟨_, _, rfl, rfl, ?_⟩
    walk_at "ev"
    have ed : ∀ x y : Str, decide (V.str x = V.str y) = decide (x = y) := fun x y => decide_eq_decide.mpr ⟨V.str.inj, congrArg _⟩
    rw [ed]
    have tup : ∀ (H0 : Hp) (al : Bool) (to : Str) (pr : Int) (p1 p2 : Addr), Trk S H0 → H0 p1 = none → (upd H0 p1 (.tup [.str nm, .str (if al = true then alS else agS)])) p2 = none →
        Dp K (cutS S (upd (upd H0 p1 (.tup [.str nm, .str (if al = true then alS else agS)])) p2 (.tup [.ref p1, .str to, .int pr]))) (.ref p2) (mvd nm al to pr) := fun H0 al to pr p1 p2 t h1 h2 =>
      dp_tup (t.mono (.upd h1)) h2 (.cons (dp_tup t h1 (.cons (.str _) (.cons (.str _) .nil))) (.cons (.str _) (.cons (.int _) .nil)))
    by_cases e1 : w = st
    · rw [decide_eq_true e1]
      rw [if_pos e1] at q
      refine iteT ?_
      walk_at "ev"
      intro p1 h1
      walk_at "ev"
      intro p2 h2
      exact q _ _ ((Same.upd h1).trans (.upd h2)) (tup H true en room p1 p2 hT h1 h2)
    · rw [decide_eq_false e1]
      rw [if_neg e1] at q
      refine iteF ?_
      have e2 : w = en := hw.resolve_left e1
      walk_at "ev"
      rw [ed, decide_eq_true e2]
      refine iteT ?_
      walk_at "ev"
      intro p1 h1
      walk_at "ev"
      intro p2 h2
      exact q _ _ ((Same.upd h1).trans (.upd h2)) (tup H false st (1 - gap) p1 p2 hT h1 h2)
end
end Jl

set_option Elab.async false
set_option linter.all false
set_option maxRecDepth 100000
set_option maxHeartbeats 1000000
set_option pp.maxSteps 300
namespace Jl
open PySem PySem.Spec PyProof.Rows L2
open Evl (sz_of sz_lt)
local macro_rules | `(tactic| walk_at "at") => `(tactic| first | exact box0 | exact box1 | exact box2)
local macro_rules | `(tactic| walk_at "sq") => `(tactic| first | (show SqL _ _ _ _; assumption) | (show SqT _ _ _ _; assumption) | (show _ = some _; assumption))
local macro_rules | `(tactic| walk_at "side") => `(tactic| first
  | (show (0 : Int) < _; decide)
  | (show (0 : Int) < _; omega)
  | exact ⟨by decide, by decide, by decide⟩
  | exact sz_of (Nat.le_of_ble_eq_true rfl)
  | exact rfl
  | exact Or.inl (by decide)
  | exact Or.inr (by decide)
  | exact Or.inr ⟨by omega, by omega⟩
  | exact Or.inl ⟨by omega, by omega⟩
  | exact ⟨by decide, by decide +kernel⟩)
local macro_rules | `(tactic| walk_at "ev1") => `(tactic| first
  | refine ⟨_, rfl, ?_⟩
  | refine ⟨_, _, rfl, rfl, ?_⟩
  | refine ⟨_, _, _, _, rfl, rfl, (by walk_at "sq"), (by walk_at "at"), ?_⟩
  | refine ⟨_, _, rfl, (by walk_at "sq"), ?_⟩
  | refine ⟨_, _, rfl, Or.inl (by walk_at "sq"), ?_⟩
  | refine ⟨_, _, rfl, Or.inr (by walk_at "sq"), ?_⟩
  | refine Or.inl ⟨_, rfl, ?_⟩
  | refine Or.inr ⟨_, rfl, ?_⟩
  | refine ⟨(by walk_at "side"), ?_⟩
  | refine ⟨.inl ⟨rfl, _, (by walk_at "sq")⟩, ?_⟩
  | refine ⟨_, _, rfl, ?_⟩)
local macro_rules | `(tactic| walk_at "nrm") => `(tactic| dsimp only [tNil, tCons, tC, tCB])
local macro_rules | `(tactic| walk_at "ev") => `(tactic| repeat (walk_at "ev1"))

/-! ### a dict of new lists -/
def kvl (ks : List Str) (ls : List Addr) : List (Key × V) := (ks.zip ls).map fun p => ((.inr p.1 : Key), V.ref p.2)
theorem valV_kvl : ∀ {ks : List Str} {ls : List Addr} {i : Nat} {k : Str} {l : Addr}, ks.Nodup → ks[i]? = some k → ls[i]? = some l → valV (kvl ks ls) (.inr k) = some (.ref l)
  | [], _, i, _, _, _, h, _ => by simp at h
  | _ :: _, [], i, _, _, _, _, h => by simp at h
  | x :: ks, y :: ls, 0, k, l, _, h1, h2 => by
    simp at h1 h2
    subst h1 h2
    exact valV_pos rfl
  | x :: ks, y :: ls, i + 1, k, l, hn, h1, h2 => by
    have h1' : ks[i]? = some k := by simpa using h1
    have h2' : ls[i]? = some l := by simpa using h2
    have hn' := List.nodup_cons.mp hn
    have ne : x ≠ k := fun e => hn'.1 (by rw [e]; exact List.mem_of_getElem? h1')
    show valV ((.inr x, .ref y) :: kvl ks ls) (.inr k) = _
    rw [valV_neg (fun e => ne (Sum.inr.inj e))]
    exact valV_kvl hn'.2 h1' h2'
theorem valV_kvl_no : ∀ {ks : List Str} {ls : List Addr} {k : Str}, k ∉ ks → valV (kvl ks ls) (.inr k) = none
  | [], _, _, _ => rfl
  | _ :: _, [], _, _ => rfl
  | x :: ks, y :: ls, k, h => by
    show valV ((.inr x, .ref y) :: kvl ks ls) (.inr k) = _
    rw [valV_neg (fun e => h (by rw [← Sum.inr.inj e]; exact List.mem_cons_self))]
    exact valV_kvl_no fun z => h (List.mem_cons_of_mem _ z)
theorem dget_kvl {H : Hp} {M : Addr} {ks : List Str} {ls : List Addr} {i : Nat} {k : Str} {l : Addr} (hn : ks.Nodup) (h1 : ks[i]? = some k) (h2 : ls[i]? = some l) (hM : H M = some (.dK (kvl ks ls))) : DGet H M (V.str k) (some (.ref l)) := by
  have := DGet.k (k := .inr k) hM
  rw [valV_kvl hn h1 h2] at this
  exact this
theorem kvl_push {ks : List Str} {ls : List Addr} {k : Str} {l : Addr} (h : ks.length = ls.length) : kvl (ks ++ [k]) (ls ++ [l]) = kvl ks ls ++ [(.inr k, .ref l)] := by
  unfold kvl
  rw [List.zip_append h, List.map_append]
  rfl
theorem dc_new {K : PySem.W.Frag} {tl tk tv : TE} {j : Nat} {vs : List Nat} {σ : L2.St} {H H0 : Hp} {Q : VK} {a : Addr} {fb : Bool} {xs : List V} {ks : List Str} (hn : ks.Nodup) (hlen : xs.length = ks.length)
    (ht : ∀ R' : VK, R' (.ref a) H0 → tl σ H R') (hs : SqF fb K H0 a xs) (hl : xs.length ≤ 1000) (hw : ∀ x, wipe ((wipe σ vs).set j (some x)) vs = wipe σ vs)
    (hk : ∀ (i : Nat) (x : V) (z : Str) (H1 : Hp) (Q' : VK), xs[i]? = some x → ks[i]? = some z → Same H0 H1 → Q' (.str z) H1 → tk ((wipe σ vs).set j (some x)) H1 Q') (hv : ∀ (x : V) (H1 : Hp) (Q' : VK), (∀ l, H1 l = none → Q' (.ref l) (upd H1 l (.lst []))) → tv ((wipe σ vs).set j (some x)) H1 Q')
    (q : ∀ (D : Addr) (ls : List Addr) (H1 : Hp), Same H0 H1 → H0 D = none → ls.length = ks.length → ls.Nodup → D ∉ ls → (∀ l ∈ ls, H0 l = none ∧ H1 l = some (.lst [])) → H1 D = some (.dK (kvl ks ls)) → Q (.ref D) H1) : tDcX (iSeq K tl) (gName j) tYes tk tv vs σ H Q := by
  refine dc_of ?_
  refine iSeq_at ht hs fun J w D hD => ?_
  refine ⟨fun i m H1 => m = xs.length - i ∧ i ≤ xs.length ∧ ∃ ls : List Addr, ls.length = i ∧ Same H0 H1 ∧ ls.Nodup ∧ D ∉ ls ∧ (∀ l ∈ ls, H0 l = none ∧ H1 l = some (.lst [])) ∧ H1 D = some (.dK (kvl (ks.take i) ls)), ⟨_, rfl, Nat.zero_le _, [], rfl, .upd hD, List.nodup_nil, List.not_mem_nil, fun l h => absurd h List.not_mem_nil, upd_same⟩, fun i m H1 hW => ?_⟩
  obtain ⟨rfl, hi, ls, w1, w2, w3, w4, w5, w6⟩ := hW
  have hG : SqF fb K H1 a xs := w2.sqF hs
  by_cases hlt : i < xs.length
  · refine .inr ⟨w.goes i _ (by omega) hG, fun H2 => i + 1 ≤ xs.length ∧ ∃ ls : List Addr, ls.length = i + 1 ∧ Same H0 H2 ∧ ls.Nodup ∧ D ∉ ls ∧ (∀ l ∈ ls, H0 l = none ∧ H2 l = some (.lst [])) ∧ H2 D = some (.dK (kvl (ks.take (i + 1)) ls)), fun H2 e => ⟨xs.length - (i + 1), by omega, rfl, e.1, e.2⟩, fun x H2 y => ?_⟩
    obtain ⟨rfl, hx⟩ := w.yields i _ x H2 (by omega) hG y
    have hlt2 : i < ks.length := by omega
    refine ⟨hw _, ?_⟩
    dsimp only [tYes]
    rw [if_pos rfl]
    refine hk i x ks[i] _ _ hx (List.getElem?_eq_getElem hlt2) w2 (hv _ _ _ fun l hl0 => ?_)
    have nD : D ≠ l := ne_of_none w6 hl0
    have ek : ks.take (i + 1) = ks.take i ++ [ks[i]] := by rw [List.take_add_one, List.getElem?_eq_getElem hlt2]; rfl
    refine ⟨_, .inr ks[i], rfl, by rw [upd_ne nD]; exact w6, ?_, ?_⟩
    · unfold kvl
      rw [List.length_map, List.length_zip, List.length_take]
      exact sz_lt (by omega)
    · have hno : valV (kvl (ks.take i) ls) (.inr ks[i]) = none := valV_kvl_no fun hm => by
        obtain ⟨k, hk1, hk2⟩ := List.mem_take_iff_getElem.mp hm
        have := nd_ix hn (List.getElem?_eq_getElem hlt2) (by rw [List.getElem?_eq_getElem (show k < ks.length by omega)]; exact congrArg some hk2)
        omega
      have hl0' : H0 l = none := w2.free hl0
      have hnl : l ∉ ls := fun z => by
        have := (w5 l z).2
        rw [hl0] at this
        cases this
      refine ⟨by omega, ls ++ [l], by rw [List.length_append, w1]; rfl, ?_, ?_, ?_, fun z hz => ?_, ?_⟩
      · exact (w2.trans (.upd hl0)).mut hD
      · refine List.nodup_append.mpr ⟨w3, by simp, fun x hx y hy => ?_⟩
        rw [List.mem_singleton.mp hy]
        exact fun e => hnl (by rw [← e]; exact hx)
      · intro z
        rcases List.mem_append.mp z with z | z
        · exact w4 z
        · exact nD (List.mem_singleton.mp z)
      · rcases List.mem_append.mp hz with hz | hz
        · have hzD : z ≠ D := fun e => w4 (by rw [← e]; exact hz)
          have hzl : z ≠ l := fun e => hnl (by rw [← e]; exact hz)
          refine ⟨(w5 z hz).1, ?_⟩
          rw [upd_ne hzD, upd_ne hzl]
          exact (w5 z hz).2
        · rw [List.mem_singleton.mp hz]
          refine ⟨hl0', ?_⟩
          rw [upd_ne nD.symm, upd_same]
      · rw [upd_same, putK_new _ hno, ek, kvl_push (by rw [List.length_take, w1]; omega)]
  · have e : i = xs.length := by omega
    subst e
    refine .inl ⟨w.stops _ hG, ?_⟩
    rw [hlen, List.take_length] at w6
    exact q D ls H1 w2 hD (by rw [w1, hlen]) w3 w4 w5 w6
/-! ### the lists of a dict, as they grow -/
structure MvS (K : PySem.W.Frag) (H0 : Hp) (M : Addr) (ws : List Str) (ls : List Addr) (ms : Str → List PyData) (H : Hp) : Prop where
  s0 : Same H0 H
  hM : H M = some (.dK (kvl ws ls))
  hl : ∀ (i : Nat) (w : Str) (l : Addr), ws[i]? = some w → ls[i]? = some l → ∃ vs, H l = some (.lst vs) ∧ DpAll K (cutS ls H) vs (ms w)
theorem MvS.same {K : PySem.W.Frag} {H0 : Hp} {M : Addr} {ws : List Str} {ls : List Addr} {ms : Str → List PyData} {H H' : Hp} (m : MvS K H0 M ws ls ms H) (e : Same H H') : MvS K H0 M ws ls ms H' :=
  ⟨m.s0.trans e, e _ _ m.hM, fun i w l h1 h2 => by
    obtain ⟨vs, g1, g2⟩ := m.hl i w l h1 h2
    exact ⟨vs, e _ _ g1, (cutS_mono e).dpa g2⟩⟩
theorem MvS.push {K : PySem.W.Frag} {H0 : Hp} {M : Addr} {ws : List Str} {ls : List Addr} {ms : Str → List PyData} {H : Hp} {i : Nat} {w : Str} {l : Addr} {vs : List V} {v : V} {d : PyData} (m : MvS K H0 M ws ls ms H) (hn : ws.Nodup) (hnl : ls.Nodup) (hM : M ∉ ls) (hf : ∀ l ∈ ls, H0 l = none)
    (hi : ws[i]? = some w) (hl : ls[i]? = some l) (hv : H l = some (.lst vs)) (hva : DpAll K (cutS ls H) vs (ms w)) (hd : Dp K (cutS ls H) v d) : MvS K H0 M ws ls (fun x => if x = w then ms x ++ [d] else ms x) (upd H l (.lst (vs ++ [v]))) := by
  have hml := List.mem_of_getElem? hl
  have eC : cutS ls (upd H l (.lst (vs ++ [v]))) = cutS ls H := cutS_upd hml
  refine ⟨m.s0.mut (hf l hml), ?_, fun i' w' l' h1 h2 => ?_⟩
  · rw [upd_ne (fun e => hM (by rw [e]; exact hml))]
    exact m.hM
  · rw [eC]
    by_cases e : i' = i
    · subst e
      rw [hi] at h1
      rw [hl] at h2
      cases h1
      cases h2
      refine ⟨_, upd_same, ?_⟩
      try dsimp only
      rw [if_pos rfl]
      exact dpa_app hva (dpa_one hd)
    · have nl : l' ≠ l := fun z => e (nd_ix hnl h2 (by rw [z]; exact hl))
      have nw : w' ≠ w := fun z => e (nd_ix hn h1 (by rw [z]; exact hi))
      obtain ⟨us, g1, g2⟩ := m.hl i' w' l' h1 h2
      refine ⟨us, by rw [upd_ne nl]; exact g1, ?_⟩
      try dsimp only
      rw [if_neg nw]
      exact g2
/-- a comprehension over data, its element told by a function of data -/
theorem lc_dataD {K : PySem.W.Frag} {tl te : TE} {j : Nat} {vs : List Nat} {σ : L2.St} {H H0 : Hp} {Q : VK} {a : Addr} {fb : Bool} {xs : List V} {ds : List PyData} {S : List Addr} (g : PyData → PyData)
    (ht : ∀ R' : VK, R' (.ref a) H0 → tl σ H R') (hs : SqF fb K H0 a xs) (ha : DpAll K (cutS S H0) xs ds) (hT : Trk S H0) (hl : ds.length ≤ 4000000)
    (hw : ∀ x, wipe ((wipe σ vs).set j (some x)) vs = wipe σ vs)
    (he : ∀ (x : V) (d : PyData) (H1 : Hp) (T : List Addr), d ∈ ds → Trk T H1 → Dp K (cutS T H1) x d → ∀ Q' : VK, (∀ H2 y, Same H1 H2 → Dp K (cutS T H2) y (g d) → Q' y H2) → te ((wipe σ vs).set j (some x)) H1 Q')
    (q : ∀ D ys H', Same H0 H' → H0 D = none → H' D = some (.lst ys) → DpAll K (cutS (D :: S) H') ys (ds.map g) → Q (.ref D) H') : tLcX (iSeq K tl) (gName j) tYes te vs σ H Q := by
  have ll := dpa_len ha
  refine lc_of ?_
  refine iSeq_at ht hs fun J w D hD => ?_
  refine lc_it w (fun i H1 => ∃ ys, Same H0 H1 ∧ H1 D = some (.lst ys) ∧ DpAll K (cutS (D :: S) H1) ys ((ds.take i).map g)) ⟨[], .upd hD, upd_same, .nil⟩ (fun i H1 _ p => ?_) (fun i x H1 H1' hi p y => ?_) (fun H1 p => ?_)
  · obtain ⟨ys, e1, _⟩ := p
    exact e1.sqF hs
  · obtain ⟨ys, e1, e2, e3⟩ := p
    obtain ⟨rfl, hx⟩ := y
    obtain ⟨d, hd, hxd⟩ := dpa_get ha hx
    refine ⟨hw x, ?_⟩
    dsimp only [tYes]
    rw [if_pos rfl]
    have s3 : Same (cutS S H0) (cutS (D :: S) H1') := cutS_into e1 hD
    have hxd1 : Dp K (cutS (D :: S) H1') x d := s3.dp hxd
    refine he x d H1' (D :: S) (List.mem_of_getElem? hd) ((hT.mono e1).cons e2) hxd1 _ fun H2 y s2 hy => ?_
    refine ⟨ys, s2 _ _ e2, ?_, ys ++ [y], ?_, upd_same, ?_⟩
    · have := dpa_len e3
      rw [this, List.length_map, List.length_take]
      exact szL (by omega)
    · exact (e1.trans s2).mut hD
    · rw [cutS_upd List.mem_cons_self, List.take_add_one, hd, List.map_append]
      exact dpa_app ((cutS_mono s2).dpa e3) (dpa_one hy)
  · obtain ⟨ys, e1, e2, e3⟩ := p
    refine q D ys H1 e1 hD e2 ?_
    have e4 : (ds.take xs.length).map g = ds.map g := by rw [List.take_of_length_le (by omega)]
    rw [e4] at e3
    exact e3
/-! ### two lists that grow -/
structure W2 (K : PySem.W.Frag) (Hs : Hp) (F O : Addr) (H : Hp) (fv ov : List V) (fd od : List PyData) : Prop where
  hF : H F = some (.lst fv)
  hO : H O = some (.lst ov)
  dF : DpAll K (cutS [F, O] H) fv fd
  dO : DpAll K (cutS [F, O] H) ov od
  hS : Same Hs (cutS [F, O] H)
theorem W2.same {K : PySem.W.Frag} {Hs : Hp} {F O : Addr} {H H' : Hp} {fv ov : List V} {fd od : List PyData} (w : W2 K Hs F O H fv ov fd od) (e : Same H H') : W2 K Hs F O H' fv ov fd od := ⟨e _ _ w.hF, e _ _ w.hO, (cutS_mono e).dpa w.dF, (cutS_mono e).dpa w.dO, w.hS.trans (cutS_mono e)⟩
theorem W2.trk {K : PySem.W.Frag} {Hs : Hp} {F O : Addr} {H : Hp} {fv ov : List V} {fd od : List PyData} (w : W2 K Hs F O H fv ov fd od) : Trk [F, O] H := Trk.cons (Trk.cons Trk.nil w.hO) w.hF
theorem W2.pushF {K : PySem.W.Frag} {Hs : Hp} {F O : Addr} {H : Hp} {fv ov : List V} {fd od : List PyData} {v : V} {d : PyData} (w : W2 K Hs F O H fv ov fd od) (ne : F ≠ O) (h : Dp K (cutS [F, O] H) v d) : W2 K Hs F O (upd H F (.lst (fv ++ [v]))) (fv ++ [v]) ov (fd ++ [d]) od := by
  have e : cutS [F, O] (upd H F (.lst (fv ++ [v]))) = cutS [F, O] H := cutS_upd List.mem_cons_self
  exact ⟨upd_same, by rw [upd_ne ne.symm]; exact w.hO, by rw [e]; exact dpa_app w.dF (dpa_one h), by rw [e]; exact w.dO, by rw [e]; exact w.hS⟩
theorem W2.setO {K : PySem.W.Frag} {Hs : Hp} {F O : Addr} {H : Hp} {fv ov ov' : List V} {fd od od' : List PyData} (w : W2 K Hs F O H fv ov fd od) (ne : F ≠ O) (h : DpAll K (cutS [F, O] H) ov' od') : W2 K Hs F O (upd H O (.lst ov')) fv ov' fd od' := by
  have e : cutS [F, O] (upd H O (.lst ov')) = cutS [F, O] H := cutS_upd (List.mem_cons_of_mem _ List.mem_cons_self)
  exact ⟨by rw [upd_ne ne]; exact w.hF, upd_same, by rw [e]; exact w.dF, by rw [e]; exact h, by rw [e]; exact w.hS⟩
theorem cut_upd2 {F O : Addr} {H : Hp} {o : HO} : cutS [F, O] (upd H F o) = cutS [F, O] H ∧ cutS [F, O] (upd H O o) = cutS [F, O] H := ⟨cutS_upd List.mem_cons_self, cutS_upd (List.mem_cons_of_mem _ List.mem_cons_self)⟩
/-! ### data written out, beside a cut -/
def IsC (K : PySem.W.Frag) (S : List Addr) (H0 : Hp) (te : TE) (d : PyData) (σ : L2.St) : Prop := ∀ (H : Hp) (Q : VK), Same H0 H → Trk S H → (∀ H' v, Same H H' → Dp K (cutS S H') v d → Q v H') → te σ H Q
def AreC (K : PySem.W.Frag) (S : List Addr) (H0 : Hp) (t : TA) (ds : List PyData) (σ : L2.St) : Prop := ∀ (H : Hp) (Q : List V → Hp → Prop), Same H0 H → Trk S H → (∀ H' vs, Same H H' → DpAll K (cutS S H') vs ds → Q vs H') → t σ H Q
def RdL (K : PySem.W.Frag) (S : List Addr) (H0 : Hp) (te : TE) (ds : List PyData) (σ : L2.St) : Prop := ∀ (H : Hp) (Q : VK), Same H0 H → Trk S H → (∀ H' p vs, Same H H' → H' p = some (.lst vs) → DpAll K (cutS S H') vs ds → Q (.ref p) H') → te σ H Q
def NwL (K : PySem.W.Frag) (S : List Addr) (H0 : Hp) (te : TE) (ds : List PyData) (σ : L2.St) : Prop := ∀ (H : Hp) (Q : VK), Same H0 H → Trk S H → (∀ H' p vs, Same H H' → H p = none → H' p = some (.lst vs) → DpAll K (cutS (p :: S) H') vs ds → Q (.ref p) H') → te σ H Q
section
variable {K : PySem.W.Frag} {S : List Addr} {H0 : Hp} {σ : L2.St}
theorem ic_int {i : Int} : IsC K S H0 (tC (.int i)) (.int i) σ := fun H Q _ _ q => q H _ (fun _ _ e => e) (.int i)
theorem ic_str {x : Str} : IsC K S H0 (tC (.str x)) (.str x) σ := fun H Q _ _ q => q H _ (fun _ _ e => e) (.str x)
theorem ic_bl {b : Bool} : IsC K S H0 (tC (.bl b)) (.bool b) σ := fun H Q _ _ q => q H _ (fun _ _ e => e) (.bl b)
theorem ic_non : IsC K S H0 (tC .non) .none σ := fun H Q _ _ q => q H _ (fun _ _ e => e) .non
theorem ic_neg {i : Int} : IsC K S H0 (tUn (rU fun i => .int (-i)) (tC (.int i))) (.int (-i)) σ := fun H Q _ _ q => ⟨i, rfl, q H _ (fun _ _ e => e) (.int (-i))⟩
theorem ic_pow {i j : Int} (h : CPow i j) : IsC K S H0 (tOp (rI CPow fun i j => .int (i ^ j.toNat)) (tC (.int i)) (tC (.int j))) (.int (i ^ j.toNat)) σ := fun H Q _ _ q => ⟨i, j, rfl, rfl, h, q H _ (fun _ _ e => e) (.int _)⟩
theorem ac_nil : AreC K S H0 tNil [] σ := fun H Q _ _ q => q H _ (fun _ _ e => e) .nil
theorem ac_cons {te : TE} {t : TA} {d : PyData} {ds : List PyData} (h1 : IsC K S H0 te d σ) (h2 : AreC K S H0 t ds σ) : AreC K S H0 (tCons te t) (d :: ds) σ := fun H Q e tr q =>
  h1 H _ e tr fun H1 v s1 d1 => h2 H1 _ (e.trans s1) (tr.mono s1) fun H2 vs s2 d2 => q H2 (v :: vs) (s1.trans s2) (.cons ((cutS_mono s2).dp d1) d2)
theorem ic_tup {t : TA} {ds : List PyData} (h : AreC K S H0 t ds σ) (hl : ds.length ≤ 1000) : IsC K S H0 (tTup t) (.tuple ds) σ := fun H Q e tr q =>
  h H _ e tr fun H1 vs s1 d1 => ⟨Nat.le_of_lt (sz_lt (by rw [dpa_len d1]; omega)), fun p hp => q _ _ (s1.trans (.upd hp)) (dp_tup (tr.mono s1) hp d1)⟩
theorem ic_lst {t : TA} {ds : List PyData} (h : AreC K S H0 t ds σ) (hl : ds.length ≤ 1000) : IsC K S H0 (tLst t) (.list ds) σ := fun H Q e tr q =>
  h H _ e tr fun H1 vs s1 d1 => ⟨Nat.le_of_lt (sz_lt (by rw [dpa_len d1]; omega)), fun p hp => q _ _ (s1.trans (.upd hp)) (dp_lst (tr.mono s1) hp d1)⟩
theorem nw_lst {t : TA} {ds : List PyData} (h : AreC K S H0 t ds σ) (hl : ds.length ≤ 1000) : NwL K S H0 (tLst t) ds σ := fun H Q e tr q =>
  h H _ e tr fun H1 vs s1 d1 => ⟨Nat.le_of_lt (sz_lt (by rw [dpa_len d1]; omega)), fun p hp => q _ p vs (s1.trans (.upd hp)) (s1.free hp) upd_same ((cutS_into (.upd hp) hp).dpa d1)⟩
theorem rd_nw {te : TE} {ds : List PyData} (h : NwL K S H0 te ds σ) : RdL K S H0 te ds σ := fun H Q e tr q => h H Q e tr fun H' p vs s1 _ h1 d1 => q H' p vs s1 h1 (cutS_tail.dpa d1)
theorem rd_var {i : Nat} {p : Addr} {vs : List V} {ds : List PyData} (hi : σ[i]? = some (some (.ref p))) (hp : H0 p = some (.lst vs)) (hd : DpAll K (cutS S H0) vs ds) : RdL K S H0 (tVar i) ds σ := fun H Q e _ q =>
  ⟨_, hi, q H p vs (fun _ _ e => e) (e _ _ hp) ((cutS_mono e).dpa hd)⟩
theorem nw_cat {ta tb : TE} {ds es : List PyData} (h1 : RdL K S H0 ta ds σ) (h2 : RdL K S H0 tb es σ) (hl : ds.length + es.length ≤ 1000) : NwL K S H0 (tOp rCat ta tb) (ds ++ es) σ := fun H Q e tr q =>
  h1 H _ e tr fun H1 p1 v1 s1 g1 d1 => h2 H1 _ (e.trans s1) (tr.mono s1) fun H2 p2 v2 s2 g2 d2 => ⟨p1, p2, v1, v2, rfl, rfl, s2 _ _ g1, g2, Nat.le_of_lt (sz_lt (by rw [dpa_len d1, dpa_len d2]; omega)), fun p hp =>
    q _ p _ ((s1.trans s2).trans (.upd hp)) ((s1.trans s2).free hp) upd_same ((cutS_into (.upd hp) hp).dpa (dpa_app ((cutS_mono s2).dpa d1) d2))⟩
theorem ic_var {i : Nat} {v : V} {d : PyData} (hi : σ[i]? = some (some v)) (hd : Dp K (cutS S H0) v d) : IsC K S H0 (tVar i) d σ := fun H Q e _ q => ⟨v, hi, q H v (fun _ _ e => e) ((cutS_mono e).dp hd)⟩
theorem ic_add {ta tb : TE} {i j : Int} (h1 : IsC K S H0 ta (.int i) σ) (h2 : IsC K S H0 tb (.int j) σ) : IsC K S H0 (tOp (rI0 fun i j => .int (i + j)) ta tb) (.int (i + j)) σ := fun H Q e tr k =>
  h1 H _ e tr fun H1 v s1 d1 => h2 H1 _ (e.trans s1) (tr.mono s1) fun H2 u s2 d2 => by
    cases d1
    cases d2
    exact ⟨_, _, rfl, rfl, k H2 _ (s1.trans s2) (.int _)⟩
/-- tuples, one behind another -/
theorem ic_catT {ta tb : TE} {ds es : List PyData} (h1 : IsC K S H0 ta (.tuple ds) σ) (h2 : IsC K S H0 tb (.tuple es) σ) (hl : ds.length + es.length ≤ 1000) : IsC K S H0 (tOp (rCatA K) ta tb) (.tuple (ds ++ es)) σ := fun H Q e tr k =>
  h1 H _ e tr fun H1 v s1 d1 => h2 H1 _ (e.trans s1) (tr.mono s1) fun H2 u s2 d2 => by
    obtain ⟨c, xs, rfl, hc, hx⟩ := Dp.seq_of (f := true) ((cutS_mono s2).dp d1)
    obtain ⟨d, ys, rfl, hd, hy⟩ := Dp.seq_of (f := true) d2
    have lx := dpa_len hx
    have ly := dpa_len hy
    have s12 := s1.trans s2
    refine ⟨c, d, xs, ys, rfl, rfl, cutS_le.sqT hc, cutS_le.sqT hd, Nat.le_of_lt (sz_lt (by omega)), fun e0 => k H2 _ s12 ?_, fun _ e0 => k H2 _ s12 ?_, fun _ _ p hp => k _ _ (s12.trans (.upd hp)) ?_⟩
    · have : ds = [] := by rw [e0] at lx; exact List.eq_nil_of_length_eq_zero lx.symm
      rw [this]
      exact Dp.seq (f := true) hd hy
    · have : es = [] := by rw [e0] at ly; exact List.eq_nil_of_length_eq_zero ly.symm
      rw [this, List.append_nil]
      exact Dp.seq (f := true) hc hx
    · exact dp_tup (tr.mono s12) hp (dpa_app hx hy)
end
theorem dpa_snoc {K : PySem.W.Frag} {H : Hp} : ∀ {vs : List V} {v : V} {ds : List PyData} {d : PyData}, DpAll K H (vs ++ [v]) (ds ++ [d]) → DpAll K H vs ds ∧ Dp K H v d
  | [], v, [], d, h => by
    cases h with
    | cons h1 h2 => exact ⟨.nil, h1⟩
  | [], v, e :: ds, d, h => by
    cases h with
    | cons h1 h2 =>
      have := dpa_len h2
      simp at this
  | u :: vs, v, [], d, h => by
    cases h with
    | cons h1 h2 =>
      have := dpa_len h2
      simp at this
  | u :: vs, v, e :: ds, d, h => by
    cases h with
    | cons h1 h2 =>
      obtain ⟨g1, g2⟩ := dpa_snoc h2
      exact ⟨.cons h1 g1, g2⟩
theorem atI_end {xs : List V} (h : 1 ≤ xs.length) {v : V} (hv : xs[xs.length - 1]? = some v) : atI xs (-1) = some v := by
  have hne : xs ≠ [] := fun z => by rw [z] at h; exact absurd h (by decide)
  have := atI_last xs.dropLast (xs.getLast hne)
  rw [List.dropLast_concat_getLast] at this
  rw [this, ← hv, List.getLast_eq_getElem, List.getElem?_eq_getElem (by omega)]
theorem in_strs {x : Str} {ks : List Str} : inV (.str x) (ks.map V.str) = decide (x ∈ ks) := by
  unfold inV
  rw [List.any_map, Bool.eq_iff_iff, List.any_eq_true, decide_eq_true_eq]
  refine ⟨fun ⟨r, hr, e⟩ => ?_, fun h => ⟨x, h, ?_⟩⟩
  · have e : (r == x) = true := e
    rw [← eq_of_beq e]
    exact hr
  · show (x == x) = true
    exact beq_self_eq_true _
/-! ### grown rows as data -/
def nmQ (qs : List QD) (m : Mk) : Str := match qs[m.1]? with
  | none => default
  | some q => q.nm
def prQ (qs : List QD) (m : Mk) : Int := match qs[m.1]? with
  | none => 0
  | some q => if m.2 = true then q.room else 1 - q.gap
def stD (qs : List QD) (m : Mk) : PyData := .tuple [.str (nmQ qs m), .str (if m.2 = true then alS else agS)]
def stepsD (qs : List QD) (r : List Mk) : PyData := .tuple (r.map (stD qs))
def costQ (qs : List QD) (r : List Mk) : Int := (r.map (prQ qs)).sum
def gsD (qs : List QD) (a : Gs) : PyData := .tuple [stepsD qs a.row, .tuple (a.met.map PyData.str), .int (costQ qs a.row)]
def fndD (qs : List QD) (r : List Mk) : PyData := .tuple [stepsD qs r, .int (costQ qs r)]
def mvD (qs : List QD) (m : Mk) : PyData := .tuple [stD qs m, .str (far qs m), .int (prQ qs m)]
theorem costQ_push {qs : List QD} {r : List Mk} {m : Mk} : costQ qs (r ++ [m]) = costQ qs r + prQ qs m := by
  unfold costQ
  rw [List.map_append, List.sum_append]
  simp
theorem stepsD_push {qs : List QD} {r : List Mk} {m : Mk} : stepsD qs (r ++ [m]) = .tuple (r.map (stD qs) ++ [stD qs m]) := by
  unfold stepsD
  rw [List.map_append]
  rfl
theorem mvd_at {qs : List QD} {i : Nat} {q : QD} (h : qs[i]? = some q) : mvd q.nm true q.en q.room = mvD qs (i, true) ∧ mvd q.nm false q.st (1 - q.gap) = mvD qs (i, false) := by
  unfold mvD stD nmQ far prQ
  rw [h]
  exact ⟨rfl, rfl⟩
theorem touch_next {qs : List QD} {w : Str} {k : Nat} {q : QD} (h : qs[k]? = some q) : touchN qs w (k + 1) = touchN qs w k ++ (if q.st = w then [(k, true)] else if q.en = w then [(k, false)] else []) := by
  unfold touchN
  rw [List.range_succ, List.filterMap_append]
  congr 1
  have : tch qs w k = if q.st = w then some (k, true) else if q.en = w then some (k, false) else none := by
    unfold tch
    rw [h]
  rw [List.filterMap_cons, this]
  by_cases h1 : q.st = w
  · rw [if_pos h1, if_pos h1]
    rfl
  · rw [if_neg h1, if_neg h1]
    by_cases h2 : q.en = w
    · rw [if_pos h2, if_pos h2]
      rfl
    · rw [if_neg h2, if_neg h2]
      rfl
theorem nm_inj {ws : List Str} {qs : List QD} {m m0 : Mk} (g : NetG ws qs) (h1 : m.1 < qs.length) (h2 : m0.1 < qs.length) : nmQ qs m = nmQ qs m0 ↔ m.1 = m0.1 := by
  unfold nmQ
  rw [List.getElem?_eq_getElem h1, List.getElem?_eq_getElem h2]
  constructor
  · intro e
    have e : qs[m.1].nm = qs[m0.1].nm := e
    exact nd_ix g.nn (by rw [List.getElem?_map, List.getElem?_eq_getElem h1]; rfl) (by rw [List.getElem?_map, List.getElem?_eq_getElem h2]; exact congrArg some e.symm)
  · intro e
    simp only [e]
end Jl

set_option Elab.async false
set_option linter.all false
set_option maxRecDepth 100000
set_option maxHeartbeats 1000000
set_option pp.maxSteps 300
namespace Jl
open PySem PySem.Spec PyProof.Rows L2
open Evl (sz_of sz_lt)
local macro_rules | `(tactic| walk_at "at") => `(tactic| first | exact box0 | exact box1 | exact box2)
local macro_rules | `(tactic| walk_at "sq") => `(tactic| first | (show SqL _ _ _ _; assumption) | (show SqT _ _ _ _; assumption) | (show _ = some _; assumption))
local macro_rules | `(tactic| walk_at "side") => `(tactic| first
  | (show (0 : Int) < _; decide)
  | (show (0 : Int) < _; omega)
  | exact ⟨by decide, by decide, by decide⟩
  | exact sz_of (Nat.le_of_ble_eq_true rfl)
  | exact rfl
  | exact Or.inl (by decide)
  | exact Or.inr (by decide)
  | exact Or.inr ⟨by omega, by omega⟩
  | exact Or.inl ⟨by omega, by omega⟩
  | exact ⟨by decide, by decide +kernel⟩)
local macro_rules | `(tactic| walk_at "ev1") => `(tactic| first
  | refine ⟨_, rfl, ?_⟩
  | refine ⟨_, _, rfl, rfl, ?_⟩
  | refine ⟨_, _, _, _, rfl, rfl, (by walk_at "sq"), (by walk_at "at"), ?_⟩
  | refine ⟨_, _, rfl, (by walk_at "sq"), ?_⟩
  | refine ⟨_, _, rfl, Or.inl (by walk_at "sq"), ?_⟩
  | refine ⟨_, _, rfl, Or.inr (by walk_at "sq"), ?_⟩
  | refine Or.inl ⟨_, rfl, ?_⟩
  | refine Or.inr ⟨_, rfl, ?_⟩
  | refine ⟨(by walk_at "side"), ?_⟩
  | refine ⟨.inl ⟨rfl, _, (by walk_at "sq")⟩, ?_⟩
  | refine ⟨_, _, rfl, ?_⟩)
local macro_rules | `(tactic| walk_at "nrm") => `(tactic| dsimp only [tNil, tCons, tC, tCB])
local macro_rules | `(tactic| walk_at "ev") => `(tactic| repeat (walk_at "ev1"))

/-- a comprehension over pairs -/
theorem lc_pair {K : PySem.W.Frag} {wi : TI} {te : TE} {j1 j2 : Nat} {vs : List Nat} {σ : L2.St} {H : Hp} {Q : VK} {S : Addr → List Addr} {α : Type} (Pa : Addr → List V → Hp → Prop) (zs : List α) (f g h : α → PyData)
    (hgo : ∀ R : It → Hp → Prop, (∀ a xs H0, Pa a xs H0 → ∀ J, Walk J xs.length (fun H => SqF false K H a xs) (YAt xs) → R J H0) → wi σ H R)
    (hs : ∀ a xs H0, Pa a xs H0 → SqF false K H0 a xs ∧ DpAll K (cutS (S a) H0) xs (zs.map fun z => .tuple [f z, g z]) ∧ Trk (S a) H0) (hl : zs.length ≤ 4000000)
    (hw : ∀ x y, wipe (((wipe σ vs).set j1 (some x)).set j2 (some y)) vs = wipe σ vs)
    (he : ∀ (x y : V) (z : α) (H1 : Hp) (T : List Addr), z ∈ zs → Trk T H1 → Dp K (cutS T H1) x (f z) → Dp K (cutS T H1) y (g z) → ∀ Q' : VK, (∀ H2 u, Same H1 H2 → Dp K (cutS T H2) u (h z) → Q' u H2) → te (((wipe σ vs).set j1 (some x)).set j2 (some y)) H1 Q')
    (q : ∀ a xs H0, Pa a xs H0 → ∀ D ys H', Same H0 H' → H0 D = none → H' D = some (.lst ys) → DpAll K (cutS (D :: S a) H') ys (zs.map h) → Q (.ref D) H') : tLcX wi (gTup K 2 (gCons (gName j1) (gCons (gName j2) gNil))) tYes te vs σ H Q := by
  refine lc_of (hgo _ fun a xs H0 hP J w => ?_)
  obtain ⟨hs, ha, hT⟩ := hs a xs H0 hP
  replace q := q a xs H0 hP
  generalize S a = S at ha hT q
  have ll := dpa_len ha
  rw [List.length_map] at ll
  refine fun D hD => ?_
  refine lc_it w (fun i H1 => ∃ ys, Same H0 H1 ∧ H1 D = some (.lst ys) ∧ DpAll K (cutS (D :: S) H1) ys ((zs.take i).map h)) ⟨[], .upd hD, upd_same, .nil⟩ (fun i H1 _ p => ?_) (fun i x H1 H1' hi p y => ?_) (fun H1 p => ?_)
  · obtain ⟨ys, e1, _⟩ := p
    exact e1.sqF hs
  · obtain ⟨ys, e1, e2, e3⟩ := p
    obtain ⟨rfl, hx⟩ := y
    obtain ⟨d, hd, hxd⟩ := dpa_get ha hx
    rw [List.getElem?_map] at hd
    cases hz : zs[i]? with
    | none =>
      rw [hz] at hd
      cases hd
    | some z =>
      rw [hz] at hd
      cases hd
      have s3 : Same (cutS S H0) (cutS (D :: S) H1') := cutS_into e1 hD
      have hxd1 := s3.dp hxd
      obtain ⟨t, xt, rfl, hts, hta⟩ := Dp.seq_of (f := true) hxd1
      cases hta with
      | cons k1 hta =>
        cases hta with
        | cons k2 hta =>
          cases hta
          refine ⟨t, _, rfl, cutS_le.sqT hts, rfl, _, _, rfl, _, _, rfl, rfl, hw _ _, ?_⟩
          dsimp only [tYes]
          rw [if_pos rfl]
          refine he _ _ z H1' (D :: S) (List.mem_of_getElem? hz) ((hT.mono e1).cons e2) k1 k2 _ fun H2 u s2 hy => ?_
          refine ⟨ys, s2 _ _ e2, ?_, ys ++ [u], ?_, upd_same, ?_⟩
          · have := dpa_len e3
            rw [this, List.length_map, List.length_take]
            exact szL (by omega)
          · exact (e1.trans s2).mut hD
          · rw [cutS_upd List.mem_cons_self, List.take_add_one, hz, List.map_append]
            exact dpa_app ((cutS_mono s2).dpa e3) (dpa_one hy)
  · obtain ⟨ys, e1, e2, e3⟩ := p
    refine q D ys H1 e1 hD e2 ?_
    have e4 : (zs.take xs.length).map h = zs.map h := by rw [List.take_of_length_le (by omega)]
    rw [e4] at e3
    exact e3
def sortD (ds : List PyData) : List PyData := ds.mergeSort (PySem.W.dataLe false fun d => d)
def ringsD (qs : List QD) (g : List (List Mk)) : List PyData := sortD (g.map (stepsD qs))
theorem sort_data {bs : List (V × PyData)} : ((bs.mergeSort (PySem.W.dataLe false (·.2))).map (·.2)) = sortD (bs.map (·.2)) := by
  unfold sortD
  exact List.map_mergeSort (r := PySem.W.dataLe false (·.2)) (s := PySem.W.dataLe false fun d => d) (f := fun b : V × PyData => b.2) (l := bs) (fun a _ b _ => by
    rw [PySem.W.dataLe_eq, PySem.W.dataLe_eq])
theorem dpa_of_all {K : PySem.W.Frag} {H : Hp} : ∀ {bs : List (V × PyData)}, (∀ b ∈ bs, Dp K H b.1 b.2) → DpAll K H (bs.map (·.1)) (bs.map (·.2))
  | [], _ => .nil
  | b :: bs, h => .cons (h b List.mem_cons_self) (dpa_of_all fun x hx => h x (List.mem_cons_of_mem _ hx))
theorem all_of_dpa {K : PySem.W.Frag} {H : Hp} : ∀ {vs : List V} {ds : List PyData}, DpAll K H vs ds → ∀ b ∈ vs.zip ds, Dp K H b.1 b.2
  | _, _, .nil, b, hb => absurd hb List.not_mem_nil
  | _, _, .cons h1 h2, b, hb => by
    rcases List.mem_cons.mp hb with e | hb
    · rw [e]
      exact h1
    · exact all_of_dpa h2 b hb
theorem zip_fst {vs : List V} {ds : List PyData} (h : vs.length = ds.length) : (vs.zip ds).map (·.1) = vs := List.map_fst_zip (Nat.le_of_eq h)
theorem zip_snd {vs : List V} {ds : List PyData} (h : vs.length = ds.length) : (vs.zip ds).map (·.2) = ds := List.map_snd_zip (Nat.le_of_eq h.symm)
theorem alike_st {qs : List QD} : ∀ r r' : List Mk, PySem.W.alikeAll (r.map (stD qs)) (r'.map (stD qs)) = true
  | [], _ => by simp [PySem.W.alikeAll]
  | _ :: _, [] => by simp [PySem.W.alikeAll]
  | m :: r, m' :: r' => by
    rw [List.map_cons, List.map_cons]
    simp only [PySem.W.alikeAll, Bool.and_eq_true]
    exact ⟨by simp [stD, PySem.W.alike, PySem.W.alikeAll], alike_st r r'⟩
theorem steps_alike {qs : List QD} {g : List (List Mk)} : PySem.W.AllAlike (g.map (stepsD qs)) := fun d hd d' hd' => by
  obtain ⟨r, _, rfl⟩ := List.mem_map.mp hd
  obtain ⟨r', _, rfl⟩ := List.mem_map.mp hd'
  simp only [stepsD, PySem.W.alike]
  exact alike_st r r'
theorem steps_sortable {qs : List QD} {g : List (List Mk)} (h : ∀ r ∈ g, r ≠ []) : PySem.W.Sortable (g.map (stepsD qs)) := .inl fun d hd => by
  obtain ⟨r, hr, rfl⟩ := List.mem_map.mp hd
  cases r with
  | nil => exact absurd rfl (h _ hr)
  | cons m r => exact ⟨_, _, rfl⟩
theorem steps_depth {qs : List QD} {r : List Mk} : (stepsD qs r).depth ≤ 2 := dep_seq (f := true) (n := 1) fun d hd => by
  obtain ⟨m, _, rfl⟩ := List.mem_map.mp hd
  exact dep_seq (f := true) (n := 0) fun d hd => by
    rcases mem2 hd with rfl | rfl <;> simp [PyData.depth]
theorem dpa_ints_of {K : PySem.W.Frag} {H : Hp} : ∀ {is : List Int} {vs : List V}, DpAll K H vs (is.map PyData.int) → vs = is.map V.int
  | [], _, h => by
    cases h
    rfl
  | i :: is, _, h => by
    cases h with
    | cons h1 h2 =>
      cases h1
      rw [dpa_ints_of h2]
      rfl
def minV : List Int → V
  | [] => .non
  | n :: ms => .int (ms.foldl min n)
/-- what the law's rings are asked of -/
structure NetR (ws : List Str) (qs : List QD) (g : List (List Mk)) : Prop where
  nd : ws.Nodup
  ng : NetG ws qs
  w6 : ws.length ≤ 40
  sm : Small ws qs
  rn : Rn qs (startP ws) g
theorem NetR.rows {ws : List Str} {qs : List QD} {g : List (List Mk)} (n : NetR ws qs g) : (∀ r ∈ g, r ≠ [] ∧ r.length ≤ 40 ∧ ∀ m ∈ r, m.1 < qs.length) ∧ g.length ≤ 3200000 := by
  obtain ⟨h1, h2⟩ := n.rn.rows n.ng start_ok
  have := start_phi n.sm
  exact ⟨fun r hr => ⟨(h1.fd r hr).1, Nat.le_trans (h1.fd r hr).2.1 n.w6, (h1.fd r hr).2.2⟩, by omega⟩
end Jl

set_option Elab.async false
set_option linter.all false
set_option maxRecDepth 100000
set_option maxHeartbeats 1000000
namespace Jl
open PySem PySem.Spec PyProof.Rows L2
open Evl (sz_of sz_lt)
/-! ### enumerate(a tuple) -/
theorem enumT_meets (a : Addr) (cells : Array Value) : Meets (Builtin.«enumerate.__new__» ⟨[.type "enumerate", .ref a], []⟩) (fun _ R st => st.heap.IsTuple a cells ∧
    R (.ok (.ret (.ref (st.heap.push { cls := .type "tuple_iterator", data := .fields #[.ref a, .int 0 0] }).objs.size))) { st with heap := (st.heap.push { cls := .type "tuple_iterator", data := .fields #[.ref a, .int 0 0] }).push { cls := .type "enumerate", data := .fields #[.none, .bool false, .ref st.heap.objs.size, rawInt 0, .none, .none] } }) :=
  .of_wp fun prog w Ar R st hyp => by
    obtain ⟨hh, g0, d0, t0, o0⟩ := st
    obtain ⟨ht, hyp⟩ := hyp
    have hsub := sub_enumerate
    have q1 : ∀ {A' : Around} {E' : Value → Shared → Prop} {Q' : Value → Shared → Prop}, Q' (.ref hh.objs.size) ⟨hh.push { cls := .type "tuple_iterator", data := .fields #[.ref a, .int 0 0] }, g0, d0, t0, o0⟩ → wpAny (model prog w) A' (pyIter (.ref a)) Q' E' ⟨hh, g0, d0, t0, o0⟩ :=
      fun q => wpAny_pyIter_tuple ht q
    obtain ⟨ob, hob, hcl, n0, hda⟩ := id ht
    have hlp : ∀ {A' : Around} {E' : Value → Shared → Prop} {Q' : Value → Shared → Prop}, Q' (.ref hh.objs.size) ⟨hh.push { cls := .type "tuple_iterator", data := .fields #[.ref a, .int 0 0] }, g0, d0, t0, o0⟩ → wpAny (model prog w) A' (pyIter (.ref a)) Q' E' ⟨hh, g0, d0, t0, o0⟩ := q1
    wp_walk using q1, wpAny_loadPart' hob
    refine wpAny_stack_any fun _ => wpAny_pure ?_
    split
    · rename_i c _ _ _ _ _
      by_cases hc : (c == Value.type "enumerate") = true
      · simp only [hc]
        wp_walk using q1, wpAny_loadPart' hob
        exact ⟨_, rfl, hyp⟩
      · simp only [hc]
        wp_walk using q1, wpAny_loadPart' hob
        exact ⟨_, rfl, hyp⟩
    · wp_walk using q1, wpAny_loadPart' hob
      exact ⟨_, rfl, hyp⟩

section
variable {prog : Program} {w : World} {Ar : Around} {E' : Value → Shared → Prop} {st : Shared}
/-- its two new cells -/
theorem enumT_made {a : Addr} {cells : Array Value} {Q' : Value → Shared → Prop} (ht : st.heap.IsTuple a cells)
    (q : ∀ hh, IsEnum hh (st.heap.objs.size + 1) st.heap.objs.size 0 .none → hh.IsTupleIter st.heap.objs.size a 0 → hh.objs.size = st.heap.objs.size + 2 → (∀ b o, st.heap.get? b = some o → hh.get? b = some o) → Q' (.ref (st.heap.objs.size + 1)) { st with heap := hh }) :
    wpAny (model prog w) Ar (call (.type "enumerate") [.ref a]) Q' E' st := by
  refine callType_new F.called_enumerate (by decide) (F.typeCall_enumerate_1 (.ref a)) (F.newCall_enumerate_1 (.ref a)) (fun ob => F.args_object_init_2 ob (.ref a)) F.entry_enumerate_new (enumT_meets a cells) ⟨ht, ?_⟩
  have hz : (st.heap.push { cls := .type "tuple_iterator", data := .fields #[.ref a, .int 0 0] }).objs.size = st.heap.objs.size + 1 := Heap.size_push ..
  have g1 := Heap.get?_push_size (st.heap.push { cls := .type "tuple_iterator", data := .fields #[.ref a, .int 0 0] }) (o := { cls := .type "enumerate", data := .fields #[.none, .bool false, .ref st.heap.objs.size, rawInt 0, .none, .none] }) rfl
  rw [hz] at g1
  show _ ∧ _
  rw [hz]
  exact ⟨⟨_, g1, rfl⟩, q _ g1 ⟨_, Heap.get?_push_of_some _ (Heap.get?_push_size _ rfl), rfl, rfl⟩ (by rw [Heap.size_push, hz]) fun b o e => Heap.get?_push_of_some _ (Heap.get?_push_of_some _ e)⟩
end
/-- the tuple at a, each item in a new pair -/
def IteT (K : PySem.W.Frag) (a : Addr) : It :=
  ⟨fun i H => ∃ (xs : List V) (x : V), SqT K H a xs ∧ xs[i]? = some x, fun i H v H' => ∃ T x, v = .ref T ∧ H T = none ∧ H' = upd H T (.tup [.int (i : Nat), x]) ∧ ∀ xs, SqT K H a xs → xs[i]? = some x, fun i H => ∃ xs : List V, SqT K H a xs ∧ xs.length = i⟩
theorem enum_ne_tup {h : Heap} {e it a : Addr} {k : Int} {old : Value} {cells : Array Value} (he : IsEnum h e it k old) (ht : h.IsTuple a cells) : e ≠ a := fun z => by
  obtain ⟨o, ho, hc, _⟩ := ht
  have he2 : h.get? e = some _ := he
  rw [z, ho] at he2
  cases he2
  simp at hc
theorem iter_ne_tup {h : Heap} {it a b : Addr} {i : Nat} {cells : Array Value} (hi : h.IsTupleIter it b i) (ht : h.IsTuple a cells) : a ≠ it := fun z => by
  obtain ⟨o, ho, hc, _⟩ := ht
  obtain ⟨o', ho', hc', _⟩ := hi
  rw [z, ho'] at ho
  cases ho
  rw [hc'] at hc
  simp at hc
theorem turn_enumT {P : Program} {w : World} {K : PySem.W.Frag} {elts : List Expr} {kk : Nat} {tpos : Pos} (a e it : Addr) :
    Turn P w K (.Tuple elts kk tpos) (IteT K a) [e, it] e (fun i h => (∃ old, IsEnum h e it ((i : Nat) : Int) old) ∧ h.IsTupleIter it a i ∧ e ≠ it) where
  mem := List.mem_cons_self
  obj := fun i h st b hb => by
    obtain ⟨⟨old, he⟩, hit, _⟩ := st
    rcases mem2 hb with z | z
    · subst z
      exact ⟨_, he, fun _ hv => by cases hv⟩
    · obtain ⟨o, ho, hc, hd⟩ := hit
      exact ⟨o, by rw [z]; exact ho, fun v q => by rw [hd] at q; cases q⟩
  keep := fun i h h' st kp => ⟨st.1.elim fun old he => ⟨old, kp e List.mem_cons_self _ he⟩, st.2.1.at fun o q => kp it (List.mem_cons_of_mem _ List.mem_cons_self) o q, st.2.2⟩
  item := by
    intro X hP hw hK hc i pins s σ H E I hf st hg
    cases hP
    cases hw
    cases hK
    obtain ⟨⟨old, he⟩, hit, hne⟩ := st
    obtain ⟨xs, x, hq, hx⟩ := hg
    obtain ⟨its, rv, pt, _⟩ := I.tuple hq
    obtain ⟨u, hu, ru⟩ := rv.get hx
    have pt' : s.heap.IsTuple a its.toArray := pt
    have hel : e < s.heap.objs.size := Heap.lt_size he
    have hil : it < s.heap.objs.size := hit.elim fun o q => Heap.lt_size q.1
    have hea := enum_ne_tup he pt'
    have hai := iter_ne_tup hit pt'
    have hD := Draws.tuple (prog := X.prog) (w := X.w) (A := X.A.in1) (I.ok.hd hc) it a hai its.toArray
    have hsz : its.toArray.size = its.length := List.size_toArray
    have hlt : i < its.toArray.size := by
      rw [hsz]
      exact (List.getElem?_eq_some_iff.mp hu).1
    refine wpAny_pyNext_enum_itemD hD he ⟨hit, pt'⟩ hlt hne (fun z => by rcases mem2 z with z | z; exact hne z; exact hea z) fun y h1 tk hy ho hst hT hz2 hk => ?_
    have eu : y = u := by
      have hy2 : its[i]? = some y := by simpa using hy
      rw [hu] at hy2
      exact (Option.some.inj hy2).symm
    subst eu
    refine ⟨_, rfl, wpAny_letOwnedTupleGo_enum (s := { s with heap := h1, toks := tk + 1 }) ho fun h2 he2 sb => ?_⟩
    have hT2 : h2.get? s.heap.objs.size = some { cls := .type "tuple", data := .seq #[.int i tk, y] } := (sb.2 _ (Nat.ne_of_gt hel)).trans hT
    have hnew : ObjOk X.prog X.w (upd H s.heap.objs.size (.tup [.int (i : Nat), x])) h2 s.heap.objs.size (.tup [.int (i : Nat), x]) := ⟨by show 2 ≤ sizeLine; decide, [.int i tk, y], .cons ⟨_, rfl⟩ (.cons ru .nil), ⟨_, hT2, rfl, _, rfl⟩⟩
    have I2 : L2.Inv X pins σ (upd H s.heap.objs.size (.tup [.int (i : Nat), x])) { s with heap := h2, toks := tk + 1 } :=
      I.turnedNew (ch := [e, it]) (fun b ob hb q => (sb.2 b (fun z => hb (by rw [z]; exact List.mem_cons_self))).trans (hk b ob (fun z => hb (by rw [z]; exact List.mem_cons_self)) (fun z => hb (by rw [z]; exact List.mem_cons_of_mem _ List.mem_cons_self)) q)) hf (Nat.le_refl _) hnew
    refine ⟨.ref s.heap.objs.size, _, I2, rfl, ⟨_, x, rfl, I.hok.fresh (Nat.le_refl _), rfl, fun ys hy => by rw [I.tuple_inj hy hq]; exact hx⟩, ⟨⟨y, ?_⟩, hst.1.at fun o q => (sb.2 it (Ne.symm hne)).trans q, hne⟩, fun b hb => ?_⟩
    · rw [show ((i + 1 : Nat) : Int) = (i : Int) + 1 by omega]
      exact he2
    · have hbs : b < s.heap.objs.size := by
        rcases mem2 hb with z | z <;> rw [z]
        · exact hel
        · exact hil
      rw [upd_ne (Nat.ne_of_lt hbs)]
      exact (hf b hb).1
  done := by
    intro X hP hw hK hc i pins s σ H E I hf st hg
    cases hP
    cases hw
    cases hK
    obtain ⟨⟨old, he⟩, hit, hne⟩ := st
    obtain ⟨xs, hq, hx⟩ := hg
    obtain ⟨its, rv, pt, _⟩ := I.tuple hq
    have pt' : s.heap.IsTuple a its.toArray := pt
    obtain ⟨f0, f1, f2, f3, f4, f5⟩ := hf it (List.mem_cons_of_mem _ List.mem_cons_self)
    have hD := Draws.tuple (prog := X.prog) (w := X.w) (A := X.A.in1) (I.ok.hd hc) it a (iter_ne_tup hit pt') its.toArray
    have hn : its.toArray.size = i := by
      rw [List.size_toArray, ← rv.length, hx]
    rw [← hn] at hit
    exact wpAny_pyNext_enum_endD hD he ⟨hit, pt'⟩ fun hh eb => ⟨rfl, I.turned (t' := s.toks) (fun b o hb q => eb b o hb q) f0 f1 f3 f4 f5⟩
  self := fun A i s Q E st h => st.1.elim fun _ he => wpAny_pyIter_enum he h
theorem walk_enumT {K : PySem.W.Frag} {a : Addr} {xs : List V} : Walk (IteT K a) xs.length (fun H => SqT K H a xs) (YPair (fun i => some (.int (i : Nat))) (fun i => xs[i]?)) := by
  refine ⟨fun i _ hi q => ⟨xs, xs[i], q, List.getElem?_eq_getElem hi⟩, fun _ q => ⟨xs, q, rfl⟩, fun i H v H' _ q y => ?_⟩
  obtain ⟨T, x, h1, h2, h3, h4⟩ := y
  exact ⟨T, .int (i : Nat), x, h1, h2, h3, rfl, h4 xs q⟩
def iEnumT (K : PySem.W.Frag) (ta : TA) : TI := fun σ H R => ta σ H fun vs H1 => ∃ a xs, vs = [.ref a] ∧ SqT K H1 a xs ∧ R (IteT K a) H1
theorem pi_enumT {X : Cx} {e : Expr} {ta : TA} {p pos tpos : Pos} {elts : List Expr} {kk : Nat} (hg : Gl X "enumerate") (hm : X.mg "enumerate" = none) (ha : PA X [e] ta) (hs : starEach [e] X.env = [(false, eval e X.env)] := by rfl) :
    PI X (.Tuple elts kk tpos) (.Call (.Name "enumerate" p) [e] [] pos) (iEnumT X.K ta) := ⟨fun pins s σ H R I h => by
  refine Call_ (ld_blt I hg hm boot_enumerate (PyProof.Rows.callWith_type1 (thn (ha.run pos pins s σ H _ I h) fun us s1 g => ?_) hs rfl))
  obtain ⟨vs, H1, I1, r1, a, xs, ev, hq, q⟩ := g
  subst ev
  cases r1 with
  | cons r rr =>
    cases rr
    cases r
    obtain ⟨its, rv, pt, _⟩ := I1.tuple hq
    refine enumT_made (show s1.heap.IsTuple a its.toArray from pt) fun hh he hit hsz hk => wpAny_pyIter_enum he ?_
    have I2 : L2.Inv X pins σ H1 { s1 with heap := hh } := I1.kept (t' := s1.toks) hk
    exact ⟨s1.heap.objs.size + 1, [s1.heap.objs.size + 1, s1.heap.objs.size], _, _, H1, rfl, I2, turn_enumT a (s1.heap.objs.size + 1) s1.heap.objs.size, ⟨⟨.none, he⟩, hit, Nat.succ_ne_self _⟩, fun b hb => by
      have hle : s1.heap.objs.size ≤ b := by
        rcases mem2 hb with z | z <;> rw [z]
        · exact Nat.le_add_right _ _
        · exact Nat.le_refl _
      exact I1.fpOk hle (I1.hok.fresh hle), q⟩⟩

def iEnumA (K : PySem.W.Frag) (ta : TA) : TI := fun σ H R => iEnum K ta σ H R ∨ iEnumT K ta σ H R
theorem pi_enumA {X : Cx} {e : Expr} {ta : TA} {p pos tpos : Pos} {elts : List Expr} {kk : Nat} (hg : Gl X "enumerate") (hm : X.mg "enumerate" = none) (ha : PA X [e] ta) (hs : starEach [e] X.env = [(false, eval e X.env)] := by rfl) :
    PI X (.Tuple elts kk tpos) (.Call (.Name "enumerate" p) [e] [] pos) (iEnumA X.K ta) := pi_or (pi_enum hg hm ha hs) (pi_enumT hg hm ha hs)
theorem iEnumA_at {K : PySem.W.Frag} {ta : TA} {σ : L2.St} {H H1 : Hp} {R : It → Hp → Prop} {a : Addr} {f : Bool} {xs : List V} (ht : ∀ R' : List V → Hp → Prop, R' [.ref a] H1 → ta σ H R') (hs : SqF f K H1 a xs)
    (q : ∀ J, Walk J xs.length (fun H => SqF f K H a xs) (YPair (fun i => some (.int (i : Nat))) (fun i => xs[i]?)) → R J H1) : iEnumA K ta σ H R := by
  cases f with
  | false => exact .inl (ht _ ⟨a, xs, rfl, hs, q _ walk_enum⟩)
  | true => exact .inr (ht _ ⟨a, xs, rfl, hs, q _ walk_enumT⟩)
end Jl

set_option Elab.async false
set_option linter.all false
set_option maxRecDepth 100000
set_option maxHeartbeats 1000000
namespace Jl
open PySem PySem.Spec PyProof.Rows L2
open Evl (sz_of sz_lt)
/-! ### lists, one behind another, however they stand -/
def rCatL (K : PySem.W.Frag) : R2 := fun x y H Q => ∃ (l b : Addr) (xs zs : List V), x = .ref l ∧ y = .ref b ∧ SqL K H l xs ∧ SqL K H b zs ∧ xs.length + zs.length ≤ sizeLine ∧ ∀ p, H p = none → Q (.ref p) (upd H p (.lst (xs ++ zs)))
theorem op_catL {X : Cx} : OpR X (binaryOp .Add) (rCatL X.K) := by
  intro pins s σ H x y v u Q I rx ry hyp
  obtain ⟨l, b, xs, zs, ex, ey, h1, h2, hz, q⟩ := hyp
  subst ex ey
  cases rx
  cases ry
  obtain ⟨i1, r1, p1, _⟩ := I.list h1
  obtain ⟨i2, r2, p2, _⟩ := I.list h2
  obtain ⟨⟨c1, d1, t1, s1⟩, g1, k1, n1, e1⟩ := p1.isList
  obtain ⟨⟨c2, d2, t2, s2⟩, g2, k2, n2, e2⟩ := p2.isList
  have k1 : c1 = .type "list" := k1
  have e1 : t1 = .seq i1.toArray n1 := e1
  have k2 : c2 = .type "list" := k2
  have e2 : t2 = .seq i2.toArray n2 := e2
  subst k1 e1 k2 e2
  have l1 := r1.length
  have l2 := r2.length
  refine concat_meets ⟨_, g1, rfl⟩ ⟨_, g2, rfl⟩ noFill_list_add seq_list_add PySem.F.slot_list_add PySem.F.entry_list_add (PySem.F.args_list_add_2 (.ref l) (.ref b)) (list_addW l b i1.toArray i2.toArray n1 n2 d1 d2 s1 s2 (by rw [List.size_toArray, List.size_toArray]; omega)) ⟨g1, g2, ?_⟩
  have ea : i1.toArray ++ i2.toArray = (i1 ++ i2).toArray := by simp only [List.append_toArray]
  rw [ea]
  have I2 := I.lnew (t' := s.toks) (r1.append r2) (by rw [List.length_append]; omega)
  exact ⟨.ref _, _, I2, rfl, q _ I.fresh⟩
theorem ic_catL {K : PySem.W.Frag} {S : List Addr} {H0 : Hp} {σ : L2.St} {ta tb : TE} {ds es : List PyData} (h1 : IsC K S H0 ta (.list ds) σ) (h2 : IsC K S H0 tb (.list es) σ) (hl : ds.length + es.length ≤ 1000) : IsC K S H0 (tOp (rCatL K) ta tb) (.list (ds ++ es)) σ := fun H Q e tr k =>
  h1 H _ e tr fun H1 v s1 d1 => h2 H1 _ (e.trans s1) (tr.mono s1) fun H2 u s2 d2 => by
    obtain ⟨c, xs, rfl, hc, hx⟩ := Dp.seq_of (f := false) ((cutS_mono s2).dp d1)
    obtain ⟨d, ys, rfl, hd, hy⟩ := Dp.seq_of (f := false) d2
    have lx := dpa_len hx
    have ly := dpa_len hy
    have s12 := s1.trans s2
    exact ⟨c, d, xs, ys, rfl, rfl, cutS_le.sqL hc, cutS_le.sqL hd, Nat.le_of_lt (sz_lt (by omega)), fun p hp => k _ _ (s12.trans (.upd hp)) (dp_lst (tr.mono s12) hp (dpa_app hx hy))⟩
end Jl

set_option Elab.async false
set_option linter.all false
set_option maxRecDepth 100000
set_option maxHeartbeats 1000000
set_option pp.maxSteps 300
namespace Jl
open PySem PySem.Spec PyProof.Rows L2
open Evl (sz_of sz_lt)
local macro_rules | `(tactic| walk_at "at") => `(tactic| first | exact box0 | exact box1 | exact box2)
local macro_rules | `(tactic| walk_at "sq") => `(tactic| first | (show SqL _ _ _ _; assumption) | (show SqT _ _ _ _; assumption) | (show _ = some _; assumption))
local macro_rules | `(tactic| walk_at "side") => `(tactic| first
  | (show (0 : Int) < _; decide)
  | (show (0 : Int) < _; omega)
  | exact ⟨by decide, by decide, by decide⟩
  | exact sz_of (Nat.le_of_ble_eq_true rfl)
  | exact rfl
  | exact Or.inl (by decide)
  | exact Or.inr (by decide)
  | exact Or.inr ⟨by omega, by omega⟩
  | exact Or.inl ⟨by omega, by omega⟩
  | exact ⟨by decide, by decide +kernel⟩)
local macro_rules | `(tactic| walk_at "ev1") => `(tactic| first
  | refine ⟨_, rfl, ?_⟩
  | refine ⟨_, _, rfl, rfl, ?_⟩
  | refine ⟨_, _, _, _, rfl, rfl, (by walk_at "sq"), (by walk_at "at"), ?_⟩
  | refine ⟨_, _, rfl, (by walk_at "sq"), ?_⟩
  | refine ⟨_, _, rfl, Or.inl (by walk_at "sq"), ?_⟩
  | refine ⟨_, _, rfl, Or.inr (by walk_at "sq"), ?_⟩
  | refine Or.inl ⟨_, rfl, ?_⟩
  | refine Or.inr ⟨_, rfl, ?_⟩
  | refine ⟨(by walk_at "side"), ?_⟩
  | refine ⟨.inl ⟨rfl, _, (by walk_at "sq")⟩, ?_⟩
  | refine ⟨_, _, rfl, ?_⟩)
local macro_rules | `(tactic| walk_at "nrm") => `(tactic| dsimp only [tNil, tCons, tC, tCB])
local macro_rules | `(tactic| walk_at "ev") => `(tactic| repeat (walk_at "ev1"))

abbrev sc_w_rings_N : List Str := ["_law_web_here", "_law_found", "_law_rest", "_law_here", "_law_row", "_law_met", "_law_at_so", "_law_bit", "_law_there", "_law_mark", "_law_tag", "_law_own"]
abbrev s_w_rings : Stmt := topS 27
theorem sc_w_rings : FnScope ["_law_web_here", "_law_found", "_law_rest", "_law_here", "_law_row", "_law_met", "_law_at_so", "_law_bit", "_law_there", "_law_mark", "_law_tag", "_law_own"] ["_law_web_here"] (defScope s_w_rings) := ⟨rfl, rfl, rfl, by decide +kernel, rfl, by decide +kernel, by decide +kernel⟩
/-! ### the law's own rows -/
def sgI (b : Bool) : Int := if b = true then 1 else -1
def mkL (m : Mk) : PyData := .tuple [.int (m.1 : Int), .int (sgI m.2)]
def rowL (r : List Mk) : PyData := .list (r.map mkL)
def gsL (a : Gs) : PyData := .tuple [.str (lsG a), rowL a.row, .list (a.met.map PyData.str)]
theorem rowL_push {r : List Mk} {m : Mk} : rowL (r ++ [m]) = .list (r.map mkL ++ [mkL m]) := by
  unfold rowL
  rw [List.map_append]
  rfl
/-- the step of one queue, if it touches -/
def oneL (qs : List QD) (a : Gs) (p : Ps) (i : Nat) : Ps := match tch qs (lsG a) i with
  | none => p
  | some m => one qs a p m
theorem foldl_touch {qs : List QD} {a : Gs} : ∀ (l : List Nat) (p : Ps), l.foldl (oneL qs a) p = (l.filterMap (tch qs (lsG a))).foldl (one qs a) p
  | [], p => rfl
  | i :: l, p => by
    rw [List.foldl_cons, foldl_touch l]
    unfold oneL
    cases h : tch qs (lsG a) i with
    | none => rw [List.filterMap_cons_none h]
    | some m =>
      rw [List.filterMap_cons_some h]
      rfl
theorem stp_L {qs : List QD} {f : List (List Mk)} {o : List Gs} {a : Gs} : stp qs f o a = (List.range qs.length).foldl (oneL qs a) (f, o) := (foldl_touch _ _).symm
theorem range_touch {qs : List QD} {w : Str} (k : Nat) (h : k ≤ qs.length) : (List.range k).filterMap (tch qs w) = (touchN qs w qs.length).take ((List.range k).filterMap (tch qs w)).length := by
  have e : touchN qs w qs.length = (List.range k).filterMap (tch qs w) ++ ((List.range qs.length).drop k).filterMap (tch qs w) := by
    unfold touchN
    rw [← List.filterMap_append]
    congr 1
    have := (List.take_append_drop k (List.range qs.length)).symm
    rw [List.take_range, Nat.min_eq_left h] at this
    exact this
  rw [e, List.take_left]
theorem take_phiL {ws : List Str} {qs : List QD} {f : List (List Mk)} {o : List Gs} {a : Gs} (k : Nat) (g : NetG ws qs) (hp : InvP ws qs (f, o ++ [a])) : k ≤ qs.length → Phi (dgr qs) ws.length ((List.range k).foldl (oneL qs a) (f, o)) ≤ Phi (dgr qs) ws.length (f, o ++ [a]) := fun hk => by
  rw [foldl_touch, range_touch k hk]
  exact take_phi _ g hp
theorem lsG_push {r : List Mk} {m : Mk} {ms : List Str} {x : Str} : lsG ⟨r ++ [m], ms ++ [x]⟩ = x := by
  unfold lsG
  rw [List.getLastD_eq_getLast?]
  simp
/-- texts that can be laid -/
theorem mkL_ok {m : Mk} : (mkL m).canLay0 = true ∧ (mkL m).depth ≤ 1 := by
  unfold mkL
  simp [PyData.canLay0, PyData.canLayAll0, PyData.depth, PyData.depthAll]
theorem rowL_ok {r : List Mk} : (rowL r).canLay0 = true ∧ (rowL r).depth ≤ 2 := by
  refine ⟨can_seq (f := false) fun d hd => ?_, dep_seq (f := false) fun d hd => ?_⟩
  · obtain ⟨m, _, rfl⟩ := List.mem_map.mp hd
    exact mkL_ok.1
  · obtain ⟨m, _, rfl⟩ := List.mem_map.mp hd
    exact mkL_ok.2
theorem gsL_ok {ws : List Str} {qs : List QD} {a : Gs} (I : Inv ws qs a) (hw : ∀ x ∈ ws, PyData.strOk x = true) : (gsL a).canLay0 = true ∧ (gsL a).depth ≤ 3 := by
  have hl := I.sub _ (List.mem_of_getElem? (met_ls I.ll))
  refine ⟨can_seq (f := true) fun d hd => ?_, dep_seq (f := true) fun d hd => ?_⟩
  · rcases mem3 hd with rfl | rfl | rfl
    · rw [PyData.canLay0]
      exact hw _ hl
    · exact rowL_ok.1
    · refine can_seq (f := false) fun d hd => ?_
      obtain ⟨x, hx, rfl⟩ := List.mem_map.mp hd
      rw [PyData.canLay0]
      exact hw _ (I.sub x hx)
  · rcases mem3 hd with rfl | rfl | rfl
    · simp [PyData.depth]
    · exact rowL_ok.2
    · have := dep_seq (f := false) (n := 0) (ds := a.met.map PyData.str) fun d hd => by
        obtain ⟨x, hx, rfl⟩ := List.mem_map.mp hd
        simp [PyData.depth]
      have : (PyData.list (a.met.map PyData.str)).depth ≤ 1 := this
      omega
theorem shaped_of {d : PyData} (h1 : d.canLay0 = true) (h2 : d.depth ≤ 60) : SeqAt.shaped d = true := by
  unfold SeqAt.shaped
  rw [h1, decide_eq_true (show d.depth ≤ 64 by omega)]
  rfl
theorem eqv_nil3 {ds : List PyData} : PyData.eqv (.list ds) (.list []) = ds.isEmpty := by
  cases ds with
  | nil => simp [PyData.eqv, PyData.eqvAll]
  | cons d ds => simp [PyData.eqv, PyData.eqvAll]
theorem shaped_nil3 : SeqAt.shaped (.list []) = true := by
  unfold SeqAt.shaped
  simp [PyData.canLay0, PyData.canLayAll0, PyData.depth, PyData.depthAll]
def fstD : PyData → PyData
  | .tuple (d :: _) => d
  | _ => .none
theorem in_ints {i : Int} {is : List Int} : inV (.int i) (is.map V.int) = decide (i ∈ is) := by
  unfold inV
  rw [List.any_map, Bool.eq_iff_iff, List.any_eq_true, decide_eq_true_eq]
  refine ⟨fun ⟨r, hr, e⟩ => ?_, fun h => ⟨i, h, ?_⟩⟩
  · have e : (r == i) = true := e
    rw [← eq_of_beq e]
    exact hr
  · show (i == i) = true
    exact beq_self_eq_true _
theorem in_fst {m : Mk} {r : List Mk} : decide ((m.1 : Int) ∈ r.map fun m => (m.1 : Int)) = decide (m.1 ∈ r.map (·.1)) := by
  refine decide_eq_decide.mpr ⟨fun h => ?_, fun h => ?_⟩
  · obtain ⟨x, hx, e⟩ := List.mem_map.mp h
    exact List.mem_map.mpr ⟨x, hx, Int.ofNat.inj e⟩
  · obtain ⟨x, hx, e⟩ := List.mem_map.mp h
    exact List.mem_map.mpr ⟨x, hx, congrArg _ e⟩
section
variable {P : Program} {w : World} {K : PySem.W.Frag} {mg : Str → Option Value} {base : Heap}
def spLR (K : PySem.W.Frag) : Sp := fun vs H Q _ => ∃ (v : V) (ws : List Str) (qs : List QD) (g : List (List Mk)), vs = [v] ∧ Dp K H v (netD true ws qs) ∧ NetR ws qs g ∧ (∀ x ∈ ws, PyData.strOk x = true) ∧
  ∀ H' l ys, Same H H' → H l = none → H' l = some (.lst ys) → DpAll K (cutS [l] H') ys (g.map rowL) → Q (.ref l) H'
theorem ok_w_rings {f : Addr} {fd : FuncData} {k : Nat} (F : Fun K "_law_rings" "_law_rings" s_w_rings f fd) (m_enumerate : mg "enumerate" = none) : FnOk P w K mg base CX0 (k + 1) f fd ["_law_web_here"] (spLR K) := by
  refine F.ok sc_w_rings (fun vs H Q E h => ?_) (fun cdv A outer s0 H vs Q E hr h => ?_)
  · obtain ⟨v, ws, qs, g, rfl, _⟩ := h
    rfl
  · obtain ⟨v, ws, qs, g, rfl, hD, hR0, hok, q⟩ := h
    obtain ⟨hnd, hG, hw6, hsm, hRn⟩ := hR0
    refine ⟨_, (pss_cons (ps_par (i := 1) (j := 2) (by rfl) sc_w_rings.nd rfl rfl (by decide) rfl rfl (pa_cons (pe_lst pa_nil) (pa_cons (pe_lcX (pe_lc (own := [("_law_tag", 10)]) (g := gName 10) (tt := tYes) (te := tTup (tCons (tVar 10) (tCons (tLst tNil) (tCons (tLst (tCons (tVar 10) tNil)) tNil)))) (by rfl) sc_w_rings.nd (pi_seq (pe_ix ix_lt (pv 0) pe_int (fun _ _ => rfl))) (blkOk_by (own := [("_law_tag", 10)]) (N := sc_w_rings_N) (sc := defScope s_w_rings) (by decide +kernel)) (fun _ _ _ _ _ => pg_name (i := 10) sc_w_rings.nd rfl (Or.inl rfl)) (fun _ _ _ _ _ => pts_nil) (fun _ _ _ _ _ => (pe_tup (pa_cons (pv 10) (pa_cons (pe_lst pa_nil) (pa_cons (pe_lst (pa_cons (pv 10) pa_nil)) pa_nil))))))) pa_nil)) (by rfl)) 
    (pss_cons (ps_whileX (ps_while PassesOwn.never (pt_cmpR (op_neD hr.units) (pv 2) (pe_lst pa_nil) (nomark _)) 
      (pss_cons (ps_asg (pe_bm0 PySem.F.plainAttrs_list PySem.F.slot_list_pop PySem.F.type_list_pop mt_pop (pv 2)) (pg_tup rfl (pgs_cons (pg_name (i := 3) sc_w_rings.nd rfl (Or.inl rfl)) (pgs_cons (pg_name (i := 4) sc_w_rings.nd rfl (Or.inl rfl)) (pgs_cons (pg_name (i := 5) sc_w_rings.nd rfl (Or.inl rfl)) pgs_nil))))) 
      (pss_one (ps_forX (ps_for PassesOwn.never rfl (pi_enumT (by rfl) m_enumerate (pa_cons (pe_ix ix_lt (pv 0) pe_int (fun _ _ => rfl)) pa_nil)) (pg_tup rfl (pgs_cons (pg_name (i := 6) sc_w_rings.nd rfl (Or.inl rfl)) (pgs_cons (pg_name (i := 7) sc_w_rings.nd rfl (Or.inl rfl)) pgs_nil))) (pss_one (ps_if (PW.pt (pw_or (pt_cmpR op_eq (pv 3) (pe_ix ix_lt (pv 7) pe_int (fun _ _ => rfl)) (nomark _)) (pw_or1 (pt_cmpR op_eq (pv 3) (pe_ix ix_lt (pv 7) pe_int (fun _ _ => rfl)) (nomark _))))) 
          (pss_cons (ps_set (i := 8) sc_w_rings.nd rfl (Or.inl rfl) (pe_ifExp (pt_cmpR op_eq (pv 3) (pe_ix ix_lt (pv 7) pe_int (fun _ _ => rfl)) (nomark _)) (pe_ix ix_lt (pv 7) pe_int (fun _ _ => rfl)) (pe_ix ix_lt (pv 7) pe_int (fun _ _ => rfl)))) 
          (pss_cons (ps_set (i := 9) sc_w_rings.nd rfl (Or.inl rfl) (pe_tup (pa_cons (pv 6) (pa_cons (pe_ifExp (pt_cmpR op_eq (pv 3) (pe_ix ix_lt (pv 7) pe_int (fun _ _ => rfl)) (nomark _)) pe_int (pe_un un_neg pe_int)) pa_nil)))) 
          (pss_cons (ps_if (PW.pt (pw_and (pt_cmpR op_eq (pv 8) (pe_ix ix_list (pv 5) pe_int (fun _ _ => rfl)) (nomark _)) (pw_and (pt_cmpR (op_neD hr.units) (pv 4) (pe_lst pa_nil) (nomark _)) (pw_and1 (pt_cmpR op_notIn_seq (pv 6) (pe_lcX (pe_lc (own := [("_law_own", 11)]) (g := gName 11) (tt := tYes) (te := tOp (rIxF K) (tVar 11) (tC (.int 0))) (by rfl) sc_w_rings.nd (pi_seq (pv 4)) (blkOk_by (own := [("_law_own", 11)]) (N := sc_w_rings_N) (sc := defScope s_w_rings) (by decide +kernel)) (fun _ _ _ _ _ => pg_name (i := 11) sc_w_rings.nd rfl (Or.inl rfl)) (fun _ _ _ _ _ => pts_nil) (fun _ _ _ _ _ => (pe_ix ix_lt (pv 11) pe_int (fun _ _ => rfl))))) (by with_unfolding_all rfl)))))) (pss_one (ps_expr (pe_bm PySem.F.plainAttrs_list PySem.F.slot_list_append PySem.F.type_list_append mt_append (pv 1) (pa_cons (pe_op op_catL (pv 4) (pe_lst (pa_cons (pv 9) pa_nil))) pa_nil)))) pss_nil) 
          (pss_one (ps_if (PW.pt (pw_and (pt_cmpR op_gt_str (pv 8) (pe_ix ix_list (pv 5) pe_int (fun _ _ => rfl)) (nomark _)) (pw_and1 (pt_cmpR op_notIn_seq (pv 8) (pv 5) (by with_unfolding_all rfl))))) (pss_one (ps_expr (pe_bm PySem.F.plainAttrs_list PySem.F.slot_list_append PySem.F.type_list_append mt_append (pv 2) (pa_cons (pe_tup (pa_cons (pv 8) (pa_cons (pe_op op_catL (pv 4) (pe_lst (pa_cons (pv 9) pa_nil))) (pa_cons (pe_op op_catL (pv 5) (pe_lst (pa_cons (pv 8) pa_nil))) pa_nil)))) pa_nil)))) pss_nil))))) pss_nil)))))))) 
    (pss_one (ps_ret (pv 1))))), ?_⟩
    obtain ⟨a0, a1, a2, xq, rfl, N0⟩ := netAt hD
    have i0 : atI [V.ref a1, V.ref a2] 0 = some (.ref a1) := atI_nat (j := 0) rfl
    have i1 : atI [V.ref a1, V.ref a2] 1 = some (.ref a2) := atI_nat (j := 1) rfl
    have wl : (ws.map V.str).length = ws.length := List.length_map ..
    walk_at "ev"
    intro Fa hFa
    have sF : Same H (upd H Fa (.lst [])) := .upd hFa
    have hF1 : (upd H Fa (.lst [])) Fa = some (.lst []) := upd_same
    try dsimp only [tNil]
    generalize upd H Fa (.lst []) = H2 at sF hF1 ⊢
    have Ns := N0.same sF
    refine lc_dataD (fb := true) (S := [Fa]) (ds := ws.map PyData.str) (fun d => .tuple [d, .list [], .list [d]]) (fun R' r => ⟨_, rfl, rIxF_at Ns.h0 i0 r⟩) Ns.h1 dpa_strs (Trk.cons Trk.nil hF1) (by rw [List.length_map]; omega) (fun x => rfl) (fun x d H3 T hd t1 hx Q' q' => ?_) (fun Oa ys H3 s3 hO0 h3 h4 => ?_)
    · obtain ⟨z, _, rfl⟩ := List.mem_map.mp hd
      cases hx
      exact (ic_tup (K := K) (S := T) (H0 := H3) (ds := [.str z, .list [], .list [.str z]]) (ac_cons (ic_var rfl (.str z)) (ac_cons (ic_lst ac_nil (by decide)) (ac_cons (ic_lst (ac_cons (ic_var rfl (.str z)) ac_nil) (by show 1 ≤ 1000; decide)) ac_nil))) (by show 3 ≤ 1000; decide)) H3 Q' (fun _ _ e => e) t1 fun H4 u s4 d4 => q' H4 u s4 d4
    · have hOM : Oa ≠ Fa := fun z => by
        rw [z, hF1] at hO0
        cases hO0
      have hO0c : H Oa = none := sF.free hO0
      have e4 : (ws.map PyData.str).map (fun d => PyData.tuple [d, .list [], .list [d]]) = (startP ws).2.map gsL := by
        unfold startP
        rw [List.map_map, List.map_map]
        exact List.map_congr_left fun _ _ => rfl
      rw [e4] at h4
      have hFO : Fa ≠ Oa := hOM.symm
      have hFc := hFa
      have w0 : W2 K H Fa Oa H3 [] ys ((startP ws).1.map rowL) ((startP ws).2.map gsL) :=
        ⟨s3 _ _ hF1, h3, .nil, (cutS_sub (S := [Oa, Fa]) (T := [Fa, Oa]) fun a ha => by
          rcases List.mem_cons.mp ha with e | e
          · rw [e]; exact List.mem_cons_of_mem _ List.mem_cons_self
          · rw [List.mem_singleton.mp e]; exact List.mem_cons_self).dpa h4, fun b o hb => by
          rw [cutS_out (not2 (ne_of_none hb hFc) (ne_of_none hb hO0c))]
          exact s3 _ _ (sF _ _ hb)⟩
      have hst : InvP ws qs (startP ws) := start_ok
      clear h3 h4 e4 s3 hF1 hO0 sF hFa Ns H2
      walk_at "ev"
      refine .yes ⟨fun n σ H4 => ∃ (f : List (List Mk)) (o : List Gs) (fv ov : List V) (y3 y4 y5 y6 y7 y8 y9 y10 y11 : Option V), n = Phi (dgr qs) ws.length (f, o) ∧ σ = [some (.ref a0), some (.ref Fa), some (.ref Oa), y3, y4, y5, y6, y7, y8, y9, y10, y11] ∧ W2 K H Fa Oa H4 fv ov (f.map rowL) (o.map gsL) ∧ InvP ws qs (f, o) ∧ Rn qs (f, o) g ∧ n ≤ 3200000,
        ⟨_, (startP ws).1, (startP ws).2, [], ys, _, _, _, _, _, _, _, _, _, rfl, rfl, w0, hst, hRn, start_phi hsm⟩, fun n σ H4 hW => ?_⟩
      obtain ⟨f, o, fv, ov, y3, y4, y5, y6, y7, y8, y9, y10, y11, rfl, rfl, w1, hI, hR, hn⟩ := hW
      have lo := dpa_len w1.dO
      rw [List.length_map] at lo
      walk_at "ev"
      intro Na hNa
      have sN : Same H4 (upd H4 Na (.lst [])) := .upd hNa
      have hN1 : (upd H4 Na (.lst [])) Na = some (.lst []) := upd_same
      try dsimp only [tNil]
      replace w1 := w1.same sN
      generalize upd H4 Na (.lst []) = H4' at w1 hN1 ⊢
      refine ⟨.list (o.map gsL), .list [], .lst (sql_of w1.hO) (cutS_le.dpa w1.dO), .lst (sql_of hN1) .nil, shaped_of (can_seq (f := false) fun d hd => ?_) (Nat.le_trans (dep_seq (f := false) (n := 3) fun d hd => ?_) (by decide)), shaped_nil3, ?_⟩
      · obtain ⟨a, ha, rfl⟩ := List.mem_map.mp hd
        exact (gsL_ok (hI.op a ha) hok).1
      · obtain ⟨a, ha, rfl⟩ := List.mem_map.mp hd
        exact (gsL_ok (hI.op a ha) hok).2
      · rw [eqv_nil3, List.isEmpty_map]
        clear hN1 sN hNa
        rcases List.eq_nil_or_concat o with e | ⟨o', a, e⟩
        · subst e
          refine ⟨_, rfl, iteF ?_⟩
          walk_at "ev"
          have eg : g = f := hR.inv0 rfl
          subst eg
          refine q H4' Fa fv (w1.hS.trans cutS_le) hFc w1.hF ?_
          exact (cutS_sub fun b hb => by rw [List.mem_singleton.mp hb]; exact List.mem_cons_self).dpa w1.dF
        · rw [List.concat_eq_append] at e
          subst e
          have eE : (o' ++ [a]).isEmpty = false := by simp
          rw [eE]
          refine ⟨_, rfl, iteT ?_⟩
          rw [List.length_append, List.length_singleton] at lo
          refine ⟨fun σ' H' => ∃ m', m' < Phi (dgr qs) ws.length (f, o' ++ [a]) ∧ ∃ (f : List (List Mk)) (o : List Gs) (fv ov : List V) (y3 y4 y5 y6 y7 y8 y9 y10 y11 : Option V), m' = Phi (dgr qs) ws.length (f, o) ∧ σ' = [some (.ref a0), some (.ref Fa), some (.ref Oa), y3, y4, y5, y6, y7, y8, y9, y10, y11] ∧ W2 K H Fa Oa H' fv ov (f.map rowL) (o.map gsL) ∧ InvP ws qs (f, o) ∧ Rn qs (f, o) g ∧ m' ≤ 3200000, fun σ' H' h => h, ?_⟩
          obtain ⟨hI2, hPhi⟩ := stp_ok hG hI
          have hR2 := hR.inv1 rfl
          have Ia := hI.op a (List.mem_append_right _ List.mem_cons_self)
          rcases List.eq_nil_or_concat ov with e | ⟨ov', t, e⟩
          · rw [e] at lo
            simp at lo
          · rw [List.concat_eq_append] at e
            subst e
            have hdO := w1.dO
            rw [List.map_append] at hdO
            obtain ⟨hdO', hdt⟩ := dpa_snoc hdO
            walk_at "ev"
            refine ⟨.inl ⟨rfl, _, sql_of w1.hO⟩, ?_⟩
            refine ⟨Oa, _, t, rfl, rfl, w1.hO, by simp, ?_⟩
            rw [List.dropLast_concat]
            have w2 := w1.setO hFO hdO'
            have hdt2 : Dp K (cutS [Fa, Oa] (upd H4' Oa (.lst ov'))) t (gsL a) := by rw [cut_upd2.2]; exact hdt
            generalize upd H4' Oa (.lst ov') = H5 at w2 hdt2 ⊢
            obtain ⟨ta, xt, rfl, hta, hxt⟩ := Dp.seq_of (f := true) hdt2
            cases hxt with
            | cons k1 hxt =>
              cases hxt with
              | cons k2 hxt =>
                cases hxt with
                | cons k3 hxt =>
                  cases hxt
                  cases k1
                  obtain ⟨mm, xm, rfl, hmm, hxm⟩ := Dp.seq_of (f := false) k3
                  have hmm : SqL K (cutS [Fa, Oa] H5) mm xm := hmm
                  have exm := dpa_strs_of hxm
                  subst exm
                  obtain ⟨rr, xr, rfl, hrr, hxr⟩ := Dp.seq_of (f := false) k2
                  have hrr : SqL K (cutS [Fa, Oa] H5) rr xr := hrr
                  refine ⟨ta, _, rfl, cutS_le.sqT hta, rfl, ?_⟩
                  refine ⟨_, _, rfl, ?_⟩
                  refine ⟨_, _, rfl, ?_⟩
                  refine ⟨_, _, rfl, rfl, ?_⟩
                  try dsimp only [gName, tSeq, tAsg]
                  refine for_of ?_
                  have hls := met_ls Ia.ll
                  have hhd := met_hd Ia.ll
                  have hall := Ia.ll
                  have S5 : Same H H5 := w2.hS.trans cutS_le
                  have N5 := N0.same S5
                  walk_at "ev"
                  try dsimp only [tC, tNil]
                  refine rIxF_at N5.h0 i1 ?_
                  refine ⟨a2, xq, rfl, N5.h2, ?_⟩
                  refine forR_it (walk_enumT (K := K) (a := a2) (xs := xq)) (fun k σ H6 => ∃ (fv ov : List V) (y6 y7 y8 y9 : Option V), σ = [some (.ref a0), some (.ref Fa), some (.ref Oa), some (.str (lsG a)), some (.ref rr), some (.ref mm), y6, y7, y8, y9, y10, y11] ∧
                    W2 K H Fa Oa H6 fv ov (((List.range k).foldl (oneL qs a) (f, o')).1.map rowL) (((List.range k).foldl (oneL qs a) (f, o')).2.map gsL) ∧ Same (cutS [Fa, Oa] H5) (cutS [Fa, Oa] H6))
                    ⟨fv, ov', _, _, _, _, rfl, w2, fun _ _ e => e⟩ (fun k σ H6 _ hh => ?_) (fun k v σ H6 H6' hk hh y => ?_) (fun σ H6 hh => ?_)
                  · obtain ⟨_, _, _, _, _, _, _, w3, _⟩ := hh
                    exact (w3.hS.trans cutS_le).sqT N0.h2
                  · obtain ⟨fv3, ov3, y6, y7, y8, y9, rfl, w3, e3⟩ := hh
                    obtain ⟨T, x1, x2, rfl, hTn, rfl, g1, g2⟩ := y
                    cases g1
                    obtain ⟨qd, aq, hq, rfl, hqs⟩ := N0.hq k x2 g2
                    have sT : Same H6 (upd H6 T (.tup [.int (k : Nat), .ref aq])) := .upd hTn
                    have hT1 : SqT K (upd H6 T (.tup [.int (k : Nat), .ref aq])) T [.int (k : Nat), .ref aq] := sqt_of upd_same
                    replace w3 := w3.same sT
                    replace e3 := e3.trans (cutS_mono sT)
                    generalize upd H6 T (.tup [.int (k : Nat), .ref aq]) = H7 at w3 e3 hT1 ⊢
                    rw [List.range_succ, List.foldl_append, List.foldl_cons, List.foldl_nil]
                    have hpb := take_phiL k hG hI (by rw [N0.ll] at hk; omega)
                    generalize (List.range k).foldl (oneL qs a) (f, o') = p at w3 hpb ⊢
                    have hlen := len_phi (dgr_pos (qs := qs)) ws.length p
                    have lf3 : fv3.length < 4000000 := by rw [dpa_len w3.dF, List.length_map]; omega
                    have lo3 : ov3.length < 4000000 := by rw [dpa_len w3.dO, List.length_map]; omega
                    have hq7 := (w3.hS.trans cutS_le).sqT hqs
                    refine ⟨T, _, rfl, hT1, rfl, ?_⟩
                    refine ⟨_, _, rfl, ?_⟩
                    refine ⟨_, _, rfl, rfl, ?_⟩
                    walk_at "ev"
                    try dsimp only [tC, tNil]
                    refine rIxF_at (f := true) hq7 (atI_nat (j := 1) rfl) ?_
                    walk_at "ev"
                    have hkq : k < qs.length := by rw [N0.ll] at hk; exact hk
                    have ed : ∀ x y : Str, decide (V.str x = V.str y) = decide (x = y) := fun x y => decide_eq_decide.mpr ⟨V.str.inj, congrArg _⟩
                    rw [ed]
                    by_cases h0 : qd.st = lsG a
                    · have hst : decide (lsG a = qd.st) = true := decide_eq_true h0.symm
                      rw [hst]
                      refine iteT (iteT ?_)
                      have etch : tch qs (lsG a) k = some (k, true) := by
                        unfold tch
                        rw [hq]
                        exact if_pos h0
                      have hmk2 : ((k, true) : Mk) ∈ touchN qs (lsG a) qs.length := List.mem_filterMap.mpr ⟨k, List.mem_range.mpr hkq, etch⟩
                      have efar : far qs (k, true) = qd.en := by
                        unfold far
                        rw [hq]
                        rfl
                      have eL : oneL qs a p k = one qs a p (k, true) := by
                        unfold oneL
                        rw [etch]
                      rw [eL]
                      walk_at "ev"
                      try dsimp only [tC, tNil]
                      refine rIxF_at (f := true) hq7 (atI_nat (j := 1) rfl) ?_
                      walk_at "ev"
                      rw [ed, hst]
                      refine iteT ?_
                      walk_at "ev"
                      try dsimp only [tC, tNil]
                      refine rIxF_at (f := true) hq7 (atI_nat (j := 2) rfl) ?_
                      try dsimp only [gName, tSeq, tAsg]
                      walk_at "ev"
                      try dsimp only [tC, tNil]
                      refine rIxF_at (f := true) hq7 (atI_nat (j := 1) rfl) ?_
                      walk_at "ev"
                      rw [ed, hst]
                      refine iteT ?_
                      walk_at "ev"
                      intro ma hma
                      have sM : Same H7 (upd H7 ma (.tup [.int (k : Nat), .int (1)])) := .upd hma
                      have hmk8 : Dp K (cutS [Fa, Oa] (upd H7 ma (.tup [.int (k : Nat), .int (1)]))) (.ref ma) (mkL (k, true)) := dp_tup w3.trk hma (.cons (.int _) (.cons (.int _) .nil))
                      replace w3 := w3.same sM
                      replace e3 := e3.trans (cutS_mono sM)
                      have hmm8 := e3.sqL hmm
                      have hrr8 := e3.dp k2
                      rw [← efar]
                      try dsimp only [gName, tSeq, tAsg]
                      clear hq7 hT1
                      generalize upd H7 ma (.tup [.int (k : Nat), .int (1)]) = H8 at w3 e3 hmk8 hmm8 hrr8 ⊢
                      have hk1 : ((k, true) : Mk).1 = k := rfl
                      generalize ((k, true) : Mk) = mk at hmk8 hmk2 efar hk1 ⊢ etch
                      walk_at "ev"
                      try dsimp only [tC, tNil]
                      refine ⟨mm, _, _, .str (hdG a), rfl, rfl, cutS_le.sqL hmm8, atI_nat (j := 0) (by rw [List.getElem?_map, hhd]; rfl), ?_⟩
                      walk_at "ev"
                      rw [ed]
                      by_cases h1 : far qs mk = hdG a
                      · rw [decide_eq_true h1]
                        refine iteT ?_
                        have hne := row_ne hG Ia hmk2 h1
                        have egt : gtS (far qs mk) (hdG a) = false := by
                          rw [h1]
                          exact decide_eq_false (List.lt_irrefl _)
                        walk_at "ev"
                        intro Nb hNb
                        have sNb : Same H8 (upd H8 Nb (.lst [])) := .upd hNb
                        have hNb1 : (upd H8 Nb (.lst [])) Nb = some (.lst []) := upd_same
                        try dsimp only [tNil]
                        replace w3 := w3.same sNb
                        replace e3 := e3.trans (cutS_mono sNb)
                        replace hmm8 := (cutS_mono sNb).sqL hmm8
                        replace hrr8 := (cutS_mono sNb).dp hrr8
                        replace hmk8 := (cutS_mono sNb).dp hmk8
                        generalize upd H8 Nb (.lst []) = H9 at w3 e3 hmm8 hrr8 hmk8 hNb1 ⊢
                        refine ⟨rowL a.row, .list [], cutS_le.dp hrr8, .lst (sql_of hNb1) .nil, shaped_of rowL_ok.1 (Nat.le_trans rowL_ok.2 (by decide)), shaped_nil3, ?_⟩
                        have eqr : PyData.eqv (rowL a.row) (.list []) = false := by
                          show PyData.eqv (.list _) (.list []) = false
                          rw [eqv_nil3, List.isEmpty_map]
                          cases hr0 : a.row with
                          | nil => exact absurd hr0 hne
                          | cons x l => rfl
                        rw [eqr]
                        refine ⟨_, rfl, iteT ?_⟩
                        obtain ⟨ra, xra, era, hra, hxra⟩ := Dp.seq_of (f := false) (cutS_le.dp hrr8)
                        cases era
                        refine ⟨_, rfl, ?_⟩
                        refine lc_data (fb := false) (S := []) (ds := a.row.map mkL) fstD (fun R' r => ⟨_, rfl, r⟩) hra (by rw [cutS_nil]; exact hxra) Trk.nil (by rw [List.length_map]; have := inv_len Ia; omega) (fun x => rfl) (fun x d Hx T2 hd t1 hx Q' q' => ?_) (fun D ys Hx sx hD0 hx1 hx2 => ?_)
                        · obtain ⟨m0, _, rfl⟩ := List.mem_map.mp hd
                          obtain ⟨tr, xtr, rfl, htr, hxtr⟩ := Dp.seq_of (f := true) hx
                          cases hxtr with
                          | cons j1 hxtr => exact ⟨_, rfl, rIxF_at (cutS_le.sqF htr) (atI_nat (j := 0) rfl) (q' Hx _ (fun _ _ e => e) j1)⟩
                        · have efs : (a.row.map mkL).map fstD = (a.row.map fun m => (m.1 : Int)).map PyData.int := by
                            rw [List.map_map, List.map_map]
                            exact List.map_congr_left fun _ _ => rfl
                          rw [cutS_nil, efs] at hx2
                          have eys := dpa_ints_of hx2
                          subst eys
                          replace w3 := w3.same sx
                          replace e3 := e3.trans (cutS_mono sx)
                          replace hmm8 := (cutS_mono sx).sqL hmm8
                          replace hrr8 := (cutS_mono sx).dp hrr8
                          replace hmk8 := (cutS_mono sx).dp hmk8
                          refine ⟨D, _, rfl, .inl (sql_of hx1), rfl, ?_, ?_⟩
                          · rw [List.all_map, List.all_eq_true]
                            exact fun _ _ => rfl
                          · refine ⟨_, rfl, ?_⟩
                            have e2 : decide ((k : Int) ∈ a.row.map fun m => (m.1 : Int)) = decide (mk.1 ∈ a.row.map (·.1)) := by
                              rw [← hk1]
                              exact in_fst
                            rw [in_ints, e2]
                            by_cases h2 : mk.1 ∈ a.row.map (·.1)
                            · have eone : one qs a p mk = p := by
                                unfold one
                                rw [if_pos h1, if_neg (fun z => z.2 h2)]
                              rw [decide_eq_true h2]
                              refine iteF ?_
                              walk_at "ev"
                              try dsimp only [tC, tNil]
                              refine ⟨mm, _, _, .str (hdG a), rfl, rfl, cutS_le.sqL hmm8, atI_nat (j := 0) (by rw [List.getElem?_map, hhd]; rfl), ?_⟩
                              refine ⟨_, _, rfl, rfl, ?_⟩
                              refine ⟨_, rfl, ?_⟩
                              rw [show decide ((hdG a).cps.toList < (far qs mk).cps.toList) = gtS (far qs mk) (hdG a) from rfl, egt]
                              refine iteF (iteF ?_)
                              exact ⟨fv3, ov3, _, _, _, _, rfl, by rw [eone]; exact w3, e3⟩
                            · have eone : one qs a p mk = (p.1 ++ [a.row ++ [mk]], p.2) := by
                                unfold one
                                rw [if_pos h1, if_pos ⟨hne, h2⟩]
                              rw [decide_eq_false h2]
                              refine iteT ?_
                              walk_at "ev"
                              refine ⟨.inl ⟨rfl, _, sql_of w3.hF⟩, ?_⟩
                              have tr := w3.trk
                              have hic : IsC K [Fa, Oa] Hx (tOp (rCatL K) (tVar 4) (tLst (tCons (tVar 9) tNil))) (rowL (a.row ++ [mk])) [some (.ref a0), some (.ref Fa), some (.ref Oa), some (.str (lsG a)), some (.ref rr), some (.ref mm), some (.int (k : Nat)), some (.ref aq), some (.str (far qs mk)), some (.ref ma), y10, y11] := by
                                rw [rowL_push]
                                exact ic_catL (ic_var rfl hrr8) (ic_lst (ac_cons (ic_var rfl hmk8) ac_nil) (by show 1 ≤ 1000; decide)) (by rw [List.length_map]; show a.row.length + 1 ≤ 1000; have := inv_len Ia; omega)
                              refine hic Hx _ (fun _ _ e => e) tr fun Hy tv sy dy => ?_
                              try dsimp only [tNil]
                              refine ⟨Fa, _, _, rfl, rfl, sy _ _ w3.hF, szL (by omega), ?_⟩
                              have w7 := (w3.same sy).pushF hFO dy
                              have e7 : Same (cutS [Fa, Oa] H5) (cutS [Fa, Oa] (upd Hy Fa (.lst (fv3 ++ [tv])))) := e3.trans ((cutS_mono sy).trans (by rw [cut_upd2.1]; exact fun _ _ e => e))
                              generalize upd Hy Fa (.lst (fv3 ++ [tv])) = Hz at w7 e7 ⊢
                              walk_at "ev"
                              try dsimp only [tC, tNil]
                              refine ⟨mm, _, _, .str (hdG a), rfl, rfl, cutS_le.sqL (e7.sqL hmm), atI_nat (j := 0) (by rw [List.getElem?_map, hhd]; rfl), ?_⟩
                              refine ⟨_, _, rfl, rfl, ?_⟩
                              refine ⟨_, rfl, ?_⟩
                              rw [show decide ((hdG a).cps.toList < (far qs mk).cps.toList) = gtS (far qs mk) (hdG a) from rfl, egt]
                              refine iteF (iteF ?_)
                              exact ⟨_, ov3, _, _, _, _, rfl, by rw [eone, List.map_append]; exact w7, e7⟩
                      · rw [decide_eq_false h1]
                        refine iteF (iteF ?_)
                        walk_at "ev"
                        try dsimp only [tC, tNil]
                        refine ⟨mm, _, _, .str (hdG a), rfl, rfl, cutS_le.sqL hmm8, atI_nat (j := 0) (by rw [List.getElem?_map, hhd]; rfl), ?_⟩
                        refine ⟨_, _, rfl, rfl, ?_⟩
                        refine ⟨_, rfl, ?_⟩
                        rw [show decide ((hdG a).cps.toList < (far qs mk).cps.toList) = gtS (far qs mk) (hdG a) from rfl]
                        cases hgt : gtS (far qs mk) (hdG a) with
                        | false =>
                          have eone : one qs a p mk = p := by
                            unfold one
                            rw [if_neg h1, if_neg (fun z => by rw [hgt] at z; exact Bool.false_ne_true z.1)]
                          refine iteF (iteF ?_)
                          exact ⟨fv3, ov3, _, _, _, _, rfl, by rw [eone]; exact w3, e3⟩
                        | true =>
                          refine iteT ?_
                          walk_at "ev"
                          try dsimp only [tC, tNil]
                          refine ⟨mm, _, rfl, .inl (cutS_le.sqL hmm8), rfl, ?_, ?_⟩
                          · rw [List.all_map, List.all_eq_true]
                            exact fun _ _ => rfl
                          · refine ⟨_, rfl, ?_⟩
                            rw [in_strs]
                            by_cases h3 : far qs mk ∈ a.met
                            · have eone : one qs a p mk = p := by
                                unfold one
                                rw [if_neg h1, if_neg (fun z => z.2 h3)]
                              rw [decide_eq_true h3]
                              refine iteF ?_
                              exact ⟨fv3, ov3, _, _, _, _, rfl, by rw [eone]; exact w3, e3⟩
                            · have eone : one qs a p mk = (p.1, p.2 ++ [⟨a.row ++ [mk], a.met ++ [far qs mk]⟩]) := by
                                unfold one
                                rw [if_neg h1, if_pos ⟨hgt, h3⟩]
                              rw [decide_eq_false h3]
                              refine iteT ?_
                              walk_at "ev"
                              refine ⟨.inl ⟨rfl, _, sql_of w3.hO⟩, ?_⟩
                              have tr := w3.trk
                              have hme : Dp K (cutS [Fa, Oa] H8) (.ref mm) (.list (a.met.map PyData.str)) := .lst hmm8 dpa_strs
                              have hic : IsC K [Fa, Oa] H8 (tTup (tCons (tVar 8) (tCons (tOp (rCatL K) (tVar 4) (tLst (tCons (tVar 9) tNil))) (tCons (tOp (rCatL K) (tVar 5) (tLst (tCons (tVar 8) tNil))) tNil)))) (gsL ⟨a.row ++ [mk], a.met ++ [far qs mk]⟩) [some (.ref a0), some (.ref Fa), some (.ref Oa), some (.str (lsG a)), some (.ref rr), some (.ref mm), some (.int (k : Nat)), some (.ref aq), some (.str (far qs mk)), some (.ref ma), y10, y11] := by
                                unfold gsL
                                rw [lsG_push, List.map_append]
                                rw [show rowL (a.row ++ [mk]) = .list (a.row.map mkL ++ [mkL mk]) from rowL_push]
                                have li := inv_len Ia
                                exact ic_tup (ac_cons (ic_var rfl (.str _)) (ac_cons (ic_catL (ic_var rfl hrr8) (ic_lst (ac_cons (ic_var rfl hmk8) ac_nil) (by show 1 ≤ 1000; decide)) (by rw [List.length_map]; show a.row.length + 1 ≤ 1000; omega))
                                  (ac_cons (ic_catL (ic_var rfl hme) (ic_lst (ac_cons (ic_var rfl (.str _)) ac_nil) (by show 1 ≤ 1000; decide)) (by rw [List.length_map]; show a.met.length + 1 ≤ 1000; omega)) ac_nil))) (by show 3 ≤ 1000; decide)
                              refine hic H8 _ (fun _ _ e => e) tr fun Hy tv sy dy => ?_
                              try dsimp only [tNil]
                              refine ⟨Oa, _, _, rfl, rfl, sy _ _ w3.hO, szL (by omega), ?_⟩
                              have w7 := (w3.same sy).setO hFO (dpa_app (w3.same sy).dO (dpa_one dy))
                              refine ⟨fv3, _, _, _, _, _, rfl, by rw [eone, List.map_append]; exact w7, e3.trans ((cutS_mono sy).trans (by rw [cut_upd2.2]; exact fun _ _ e => e))⟩
                    · have hst : decide (lsG a = qd.st) = false := decide_eq_false fun z => h0 z.symm
                      rw [hst]
                      refine iteF ?_
                      walk_at "ev"
                      try dsimp only [tC, tNil]
                      refine rIxF_at (f := true) hq7 (atI_nat (j := 2) rfl) ?_
                      walk_at "ev"
                      rw [ed]
                      by_cases h0e : qd.en = lsG a
                      · rw [decide_eq_true h0e.symm]
                        refine iteT ?_
                        have etch : tch qs (lsG a) k = some (k, false) := by
                          unfold tch
                          rw [hq]
                          show (if qd.st = lsG a then _ else _) = _
                          rw [if_neg h0, if_pos h0e]
                        have hmk2 : ((k, false) : Mk) ∈ touchN qs (lsG a) qs.length := List.mem_filterMap.mpr ⟨k, List.mem_range.mpr hkq, etch⟩
                        have efar : far qs (k, false) = qd.st := by
                          unfold far
                          rw [hq]
                          rfl
                        have eL : oneL qs a p k = one qs a p (k, false) := by
                          unfold oneL
                          rw [etch]
                        rw [eL]
                        walk_at "ev"
                        try dsimp only [tC, tNil]
                        refine rIxF_at (f := true) hq7 (atI_nat (j := 1) rfl) ?_
                        walk_at "ev"
                        rw [ed, hst]
                        refine iteF ?_
                        walk_at "ev"
                        try dsimp only [tC, tNil]
                        refine rIxF_at (f := true) hq7 (atI_nat (j := 1) rfl) ?_
                        try dsimp only [gName, tSeq, tAsg]
                        walk_at "ev"
                        try dsimp only [tC, tNil]
                        refine rIxF_at (f := true) hq7 (atI_nat (j := 1) rfl) ?_
                        walk_at "ev"
                        rw [ed, hst]
                        refine iteF ?_
                        walk_at "ev"
                        intro ma hma
                        have sM : Same H7 (upd H7 ma (.tup [.int (k : Nat), .int (-1)])) := .upd hma
                        have hmk8 : Dp K (cutS [Fa, Oa] (upd H7 ma (.tup [.int (k : Nat), .int (-1)]))) (.ref ma) (mkL (k, false)) := dp_tup w3.trk hma (.cons (.int _) (.cons (.int _) .nil))
                        replace w3 := w3.same sM
                        replace e3 := e3.trans (cutS_mono sM)
                        have hmm8 := e3.sqL hmm
                        have hrr8 := e3.dp k2
                        rw [← efar]
                        try dsimp only [gName, tSeq, tAsg]
                        clear hq7 hT1
                        generalize upd H7 ma (.tup [.int (k : Nat), .int (-1)]) = H8 at w3 e3 hmk8 hmm8 hrr8 ⊢
                        have hk1 : ((k, false) : Mk).1 = k := rfl
                        generalize ((k, false) : Mk) = mk at hmk8 hmk2 efar hk1 ⊢ etch
                        walk_at "ev"
                        try dsimp only [tC, tNil]
                        refine ⟨mm, _, _, .str (hdG a), rfl, rfl, cutS_le.sqL hmm8, atI_nat (j := 0) (by rw [List.getElem?_map, hhd]; rfl), ?_⟩
                        walk_at "ev"
                        rw [ed]
                        by_cases h1 : far qs mk = hdG a
                        · rw [decide_eq_true h1]
                          refine iteT ?_
                          have hne := row_ne hG Ia hmk2 h1
                          have egt : gtS (far qs mk) (hdG a) = false := by
                            rw [h1]
                            exact decide_eq_false (List.lt_irrefl _)
                          walk_at "ev"
                          intro Nb hNb
                          have sNb : Same H8 (upd H8 Nb (.lst [])) := .upd hNb
                          have hNb1 : (upd H8 Nb (.lst [])) Nb = some (.lst []) := upd_same
                          try dsimp only [tNil]
                          replace w3 := w3.same sNb
                          replace e3 := e3.trans (cutS_mono sNb)
                          replace hmm8 := (cutS_mono sNb).sqL hmm8
                          replace hrr8 := (cutS_mono sNb).dp hrr8
                          replace hmk8 := (cutS_mono sNb).dp hmk8
                          generalize upd H8 Nb (.lst []) = H9 at w3 e3 hmm8 hrr8 hmk8 hNb1 ⊢
                          refine ⟨rowL a.row, .list [], cutS_le.dp hrr8, .lst (sql_of hNb1) .nil, shaped_of rowL_ok.1 (Nat.le_trans rowL_ok.2 (by decide)), shaped_nil3, ?_⟩
                          have eqr : PyData.eqv (rowL a.row) (.list []) = false := by
                            show PyData.eqv (.list _) (.list []) = false
                            rw [eqv_nil3, List.isEmpty_map]
                            cases hr0 : a.row with
                            | nil => exact absurd hr0 hne
                            | cons x l => rfl
                          rw [eqr]
                          refine ⟨_, rfl, iteT ?_⟩
                          obtain ⟨ra, xra, era, hra, hxra⟩ := Dp.seq_of (f := false) (cutS_le.dp hrr8)
                          cases era
                          refine ⟨_, rfl, ?_⟩
                          refine lc_data (fb := false) (S := []) (ds := a.row.map mkL) fstD (fun R' r => ⟨_, rfl, r⟩) hra (by rw [cutS_nil]; exact hxra) Trk.nil (by rw [List.length_map]; have := inv_len Ia; omega) (fun x => rfl) (fun x d Hx T2 hd t1 hx Q' q' => ?_) (fun D ys Hx sx hD0 hx1 hx2 => ?_)
                          · obtain ⟨m0, _, rfl⟩ := List.mem_map.mp hd
                            obtain ⟨tr, xtr, rfl, htr, hxtr⟩ := Dp.seq_of (f := true) hx
                            cases hxtr with
                            | cons j1 hxtr => exact ⟨_, rfl, rIxF_at (cutS_le.sqF htr) (atI_nat (j := 0) rfl) (q' Hx _ (fun _ _ e => e) j1)⟩
                          · have efs : (a.row.map mkL).map fstD = (a.row.map fun m => (m.1 : Int)).map PyData.int := by
                              rw [List.map_map, List.map_map]
                              exact List.map_congr_left fun _ _ => rfl
                            rw [cutS_nil, efs] at hx2
                            have eys := dpa_ints_of hx2
                            subst eys
                            replace w3 := w3.same sx
                            replace e3 := e3.trans (cutS_mono sx)
                            replace hmm8 := (cutS_mono sx).sqL hmm8
                            replace hrr8 := (cutS_mono sx).dp hrr8
                            replace hmk8 := (cutS_mono sx).dp hmk8
                            refine ⟨D, _, rfl, .inl (sql_of hx1), rfl, ?_, ?_⟩
                            · rw [List.all_map, List.all_eq_true]
                              exact fun _ _ => rfl
                            · refine ⟨_, rfl, ?_⟩
                              have e2 : decide ((k : Int) ∈ a.row.map fun m => (m.1 : Int)) = decide (mk.1 ∈ a.row.map (·.1)) := by
                                rw [← hk1]
                                exact in_fst
                              rw [in_ints, e2]
                              by_cases h2 : mk.1 ∈ a.row.map (·.1)
                              · have eone : one qs a p mk = p := by
                                  unfold one
                                  rw [if_pos h1, if_neg (fun z => z.2 h2)]
                                rw [decide_eq_true h2]
                                refine iteF ?_
                                walk_at "ev"
                                try dsimp only [tC, tNil]
                                refine ⟨mm, _, _, .str (hdG a), rfl, rfl, cutS_le.sqL hmm8, atI_nat (j := 0) (by rw [List.getElem?_map, hhd]; rfl), ?_⟩
                                refine ⟨_, _, rfl, rfl, ?_⟩
                                refine ⟨_, rfl, ?_⟩
                                rw [show decide ((hdG a).cps.toList < (far qs mk).cps.toList) = gtS (far qs mk) (hdG a) from rfl, egt]
                                refine iteF (iteF ?_)
                                exact ⟨fv3, ov3, _, _, _, _, rfl, by rw [eone]; exact w3, e3⟩
                              · have eone : one qs a p mk = (p.1 ++ [a.row ++ [mk]], p.2) := by
                                  unfold one
                                  rw [if_pos h1, if_pos ⟨hne, h2⟩]
                                rw [decide_eq_false h2]
                                refine iteT ?_
                                walk_at "ev"
                                refine ⟨.inl ⟨rfl, _, sql_of w3.hF⟩, ?_⟩
                                have tr := w3.trk
                                have hic : IsC K [Fa, Oa] Hx (tOp (rCatL K) (tVar 4) (tLst (tCons (tVar 9) tNil))) (rowL (a.row ++ [mk])) [some (.ref a0), some (.ref Fa), some (.ref Oa), some (.str (lsG a)), some (.ref rr), some (.ref mm), some (.int (k : Nat)), some (.ref aq), some (.str (far qs mk)), some (.ref ma), y10, y11] := by
                                  rw [rowL_push]
                                  exact ic_catL (ic_var rfl hrr8) (ic_lst (ac_cons (ic_var rfl hmk8) ac_nil) (by show 1 ≤ 1000; decide)) (by rw [List.length_map]; show a.row.length + 1 ≤ 1000; have := inv_len Ia; omega)
                                refine hic Hx _ (fun _ _ e => e) tr fun Hy tv sy dy => ?_
                                try dsimp only [tNil]
                                refine ⟨Fa, _, _, rfl, rfl, sy _ _ w3.hF, szL (by omega), ?_⟩
                                have w7 := (w3.same sy).pushF hFO dy
                                have e7 : Same (cutS [Fa, Oa] H5) (cutS [Fa, Oa] (upd Hy Fa (.lst (fv3 ++ [tv])))) := e3.trans ((cutS_mono sy).trans (by rw [cut_upd2.1]; exact fun _ _ e => e))
                                generalize upd Hy Fa (.lst (fv3 ++ [tv])) = Hz at w7 e7 ⊢
                                walk_at "ev"
                                try dsimp only [tC, tNil]
                                refine ⟨mm, _, _, .str (hdG a), rfl, rfl, cutS_le.sqL (e7.sqL hmm), atI_nat (j := 0) (by rw [List.getElem?_map, hhd]; rfl), ?_⟩
                                refine ⟨_, _, rfl, rfl, ?_⟩
                                refine ⟨_, rfl, ?_⟩
                                rw [show decide ((hdG a).cps.toList < (far qs mk).cps.toList) = gtS (far qs mk) (hdG a) from rfl, egt]
                                refine iteF (iteF ?_)
                                exact ⟨_, ov3, _, _, _, _, rfl, by rw [eone, List.map_append]; exact w7, e7⟩
                        · rw [decide_eq_false h1]
                          refine iteF (iteF ?_)
                          walk_at "ev"
                          try dsimp only [tC, tNil]
                          refine ⟨mm, _, _, .str (hdG a), rfl, rfl, cutS_le.sqL hmm8, atI_nat (j := 0) (by rw [List.getElem?_map, hhd]; rfl), ?_⟩
                          refine ⟨_, _, rfl, rfl, ?_⟩
                          refine ⟨_, rfl, ?_⟩
                          rw [show decide ((hdG a).cps.toList < (far qs mk).cps.toList) = gtS (far qs mk) (hdG a) from rfl]
                          cases hgt : gtS (far qs mk) (hdG a) with
                          | false =>
                            have eone : one qs a p mk = p := by
                              unfold one
                              rw [if_neg h1, if_neg (fun z => by rw [hgt] at z; exact Bool.false_ne_true z.1)]
                            refine iteF (iteF ?_)
                            exact ⟨fv3, ov3, _, _, _, _, rfl, by rw [eone]; exact w3, e3⟩
                          | true =>
                            refine iteT ?_
                            walk_at "ev"
                            try dsimp only [tC, tNil]
                            refine ⟨mm, _, rfl, .inl (cutS_le.sqL hmm8), rfl, ?_, ?_⟩
                            · rw [List.all_map, List.all_eq_true]
                              exact fun _ _ => rfl
                            · refine ⟨_, rfl, ?_⟩
                              rw [in_strs]
                              by_cases h3 : far qs mk ∈ a.met
                              · have eone : one qs a p mk = p := by
                                  unfold one
                                  rw [if_neg h1, if_neg (fun z => z.2 h3)]
                                rw [decide_eq_true h3]
                                refine iteF ?_
                                exact ⟨fv3, ov3, _, _, _, _, rfl, by rw [eone]; exact w3, e3⟩
                              · have eone : one qs a p mk = (p.1, p.2 ++ [⟨a.row ++ [mk], a.met ++ [far qs mk]⟩]) := by
                                  unfold one
                                  rw [if_neg h1, if_pos ⟨hgt, h3⟩]
                                rw [decide_eq_false h3]
                                refine iteT ?_
                                walk_at "ev"
                                refine ⟨.inl ⟨rfl, _, sql_of w3.hO⟩, ?_⟩
                                have tr := w3.trk
                                have hme : Dp K (cutS [Fa, Oa] H8) (.ref mm) (.list (a.met.map PyData.str)) := .lst hmm8 dpa_strs
                                have hic : IsC K [Fa, Oa] H8 (tTup (tCons (tVar 8) (tCons (tOp (rCatL K) (tVar 4) (tLst (tCons (tVar 9) tNil))) (tCons (tOp (rCatL K) (tVar 5) (tLst (tCons (tVar 8) tNil))) tNil)))) (gsL ⟨a.row ++ [mk], a.met ++ [far qs mk]⟩) [some (.ref a0), some (.ref Fa), some (.ref Oa), some (.str (lsG a)), some (.ref rr), some (.ref mm), some (.int (k : Nat)), some (.ref aq), some (.str (far qs mk)), some (.ref ma), y10, y11] := by
                                  unfold gsL
                                  rw [lsG_push, List.map_append]
                                  rw [show rowL (a.row ++ [mk]) = .list (a.row.map mkL ++ [mkL mk]) from rowL_push]
                                  have li := inv_len Ia
                                  exact ic_tup (ac_cons (ic_var rfl (.str _)) (ac_cons (ic_catL (ic_var rfl hrr8) (ic_lst (ac_cons (ic_var rfl hmk8) ac_nil) (by show 1 ≤ 1000; decide)) (by rw [List.length_map]; show a.row.length + 1 ≤ 1000; omega))
                                    (ac_cons (ic_catL (ic_var rfl hme) (ic_lst (ac_cons (ic_var rfl (.str _)) ac_nil) (by show 1 ≤ 1000; decide)) (by rw [List.length_map]; show a.met.length + 1 ≤ 1000; omega)) ac_nil))) (by show 3 ≤ 1000; decide)
                                refine hic H8 _ (fun _ _ e => e) tr fun Hy tv sy dy => ?_
                                try dsimp only [tNil]
                                refine ⟨Oa, _, _, rfl, rfl, sy _ _ w3.hO, szL (by omega), ?_⟩
                                have w7 := (w3.same sy).setO hFO (dpa_app (w3.same sy).dO (dpa_one dy))
                                refine ⟨fv3, _, _, _, _, _, rfl, by rw [eone, List.map_append]; exact w7, e3.trans ((cutS_mono sy).trans (by rw [cut_upd2.2]; exact fun _ _ e => e))⟩
                      · rw [decide_eq_false fun z => h0e z.symm]
                        refine iteF ?_
                        have eL : oneL qs a p k = p := by
                          unfold oneL
                          have : tch qs (lsG a) k = none := by
                            unfold tch
                            rw [hq]
                            show (if qd.st = lsG a then _ else _) = _
                            rw [if_neg h0, if_neg h0e]
                          rw [this]
                        exact ⟨fv3, ov3, _, _, _, _, rfl, by rw [eL]; exact w3, e3⟩
                  · obtain ⟨fv3, ov3, y6, y7, y8, y9, rfl, w3, e3⟩ := hh
                    rw [N0.ll, ← stp_L] at w3
                    exact ⟨_, hPhi, (stp qs f o' a).1, (stp qs f o' a).2, fv3, ov3, _, _, _, _, _, _, _, _, _, rfl, rfl, w3, hI2, hR2, by have : Phi (dgr qs) ws.length ((stp qs f o' a).1, (stp qs f o' a).2) = Phi (dgr qs) ws.length (stp qs f o' a) := rfl; omega⟩
end
end Jl

set_option Elab.async false
set_option linter.all false
set_option maxRecDepth 100000
set_option maxHeartbeats 1000000
set_option pp.maxSteps 300
namespace Jl
open PySem PySem.Spec PyProof.Rows L2
open Evl (sz_of sz_lt)
local macro_rules | `(tactic| walk_at "at") => `(tactic| first | exact box0 | exact box1 | exact box2)
local macro_rules | `(tactic| walk_at "sq") => `(tactic| first | (show SqL _ _ _ _; assumption) | (show SqT _ _ _ _; assumption) | (show _ = some _; assumption))
local macro_rules | `(tactic| walk_at "side") => `(tactic| first
  | (show (0 : Int) < _; decide)
  | (show (0 : Int) < _; omega)
  | exact ⟨by decide, by decide, by decide⟩
  | exact sz_of (Nat.le_of_ble_eq_true rfl)
  | exact rfl
  | exact Or.inl (by decide)
  | exact Or.inr (by decide)
  | exact Or.inr ⟨by omega, by omega⟩
  | exact Or.inl ⟨by omega, by omega⟩
  | exact ⟨by decide, by decide +kernel⟩)
local macro_rules | `(tactic| walk_at "ev1") => `(tactic| first
  | refine ⟨_, rfl, ?_⟩
  | refine ⟨_, _, rfl, rfl, ?_⟩
  | refine ⟨_, _, _, _, rfl, rfl, (by walk_at "sq"), (by walk_at "at"), ?_⟩
  | refine ⟨_, _, rfl, (by walk_at "sq"), ?_⟩
  | refine ⟨_, _, rfl, Or.inl (by walk_at "sq"), ?_⟩
  | refine ⟨_, _, rfl, Or.inr (by walk_at "sq"), ?_⟩
  | refine Or.inl ⟨_, rfl, ?_⟩
  | refine Or.inr ⟨_, rfl, ?_⟩
  | refine ⟨(by walk_at "side"), ?_⟩
  | refine ⟨.inl ⟨rfl, _, (by walk_at "sq")⟩, ?_⟩
  | refine ⟨_, _, rfl, ?_⟩)
local macro_rules | `(tactic| walk_at "nrm") => `(tactic| dsimp only [tNil, tCons, tC, tCB])
local macro_rules | `(tactic| walk_at "ev") => `(tactic| repeat (walk_at "ev1"))

abbrev sc_w_ring_sums_N : List Str := ["_law_web_here", "_law_row", "_law_paid", "_law_at_so", "_law_sign"]
abbrev s_w_ring_sums : Stmt := topS 28
theorem sc_w_ring_sums : FnScope ["_law_web_here", "_law_row", "_law_paid", "_law_at_so", "_law_sign"] ["_law_web_here", "_law_row"] (defScope s_w_ring_sums) := ⟨rfl, rfl, rfl, by decide +kernel, rfl, by decide +kernel, by decide +kernel⟩
/-- a comprehension over pairs, some of them kept; the heap ahead of it stays -/
theorem lc_pairF {K : PySem.W.Frag} {tl te : TE} {tt : TT} {j1 j2 : Nat} {vs : List Nat} {σ : L2.St} {H H0 : Hp} {Q : VK} {a : Addr} {fb : Bool} {xs : List V} {α : Type} (zs : List α) (f g h : α → PyData) (t : α → Bool)
    (ht : ∀ R' : VK, R' (.ref a) H0 → tl σ H R') (hs : SqF fb K H0 a xs) (ha : DpAll K H0 xs (zs.map fun z => .tuple [f z, g z])) (hl : zs.length ≤ 4000000)
    (hw : ∀ x y, wipe (((wipe σ vs).set j1 (some x)).set j2 (some y)) vs = wipe σ vs)
    (hte : ∀ (x y : V) (z : α) (H1 : Hp), z ∈ zs → Same H0 H1 → Dp K H1 x (f z) → Dp K H1 y (g z) → ∀ Q' : Bool → Hp → Prop, Q' (t z) H1 → tt (((wipe σ vs).set j1 (some x)).set j2 (some y)) H1 Q')
    (he : ∀ (x y : V) (z : α) (H1 : Hp) (T : List Addr), z ∈ zs → t z = true → Same H0 H1 → Trk T H1 → Dp K H1 x (f z) → Dp K H1 y (g z) → ∀ Q' : VK, (∀ H2 u, Same H1 H2 → Dp K (cutS T H2) u (h z) → Q' u H2) → te (((wipe σ vs).set j1 (some x)).set j2 (some y)) H1 Q')
    (q : ∀ D ys H', Same H0 H' → H0 D = none → H' D = some (.lst ys) → DpAll K (cutS [D] H') ys ((zs.filter t).map h) → Q (.ref D) H') : tLcX (iSeq K tl) (gTup K 2 (gCons (gName j1) (gCons (gName j2) gNil))) tt te vs σ H Q := by
  have ll := dpa_len ha
  rw [List.length_map] at ll
  refine lc_of ?_
  refine iSeq_at ht hs fun J w D hD => ?_
  refine lc_it w (fun i H1 => ∃ ys, Same H0 H1 ∧ H1 D = some (.lst ys) ∧ DpAll K (cutS [D] H1) ys (((zs.take i).filter t).map h)) ⟨[], .upd hD, upd_same, .nil⟩ (fun i H1 _ p => ?_) (fun i x H1 H1' hi p y => ?_) (fun H1 p => ?_)
  · obtain ⟨ys, e1, _⟩ := p
    exact e1.sqF hs
  · obtain ⟨ys, e1, e2, e3⟩ := p
    obtain ⟨rfl, hx⟩ := y
    obtain ⟨d, hd, hxd⟩ := dpa_get ha hx
    rw [List.getElem?_map] at hd
    cases hz : zs[i]? with
    | none =>
      rw [hz] at hd
      cases hd
    | some z =>
      rw [hz] at hd
      cases hd
      have hzm := List.mem_of_getElem? hz
      have hxd1 := e1.dp hxd
      obtain ⟨tt0, xt, rfl, hts, hta⟩ := Dp.seq_of (f := true) hxd1
      cases hta with
      | cons k1 hta =>
        cases hta with
        | cons k2 hta =>
          cases hta
          refine ⟨tt0, _, rfl, hts, rfl, _, _, rfl, _, _, rfl, rfl, hw _ _, ?_⟩
          refine hte _ _ z H1' hzm e1 k1 k2 _ ?_
          have yl : ys.length ≤ i := by
            rw [dpa_len e3, List.length_map]
            exact Nat.le_trans (List.length_filter_le _ _) (by rw [List.length_take]; omega)
          have ht2 : zs.take (i + 1) = zs.take i ++ [z] := by rw [List.take_add_one, hz]; rfl
          by_cases hg : t z = true
          · rw [if_pos hg]
            refine he _ _ z H1' [D] hzm hg e1 (Trk.cons Trk.nil e2) k1 k2 _ fun H2 u s2 hy => ?_
            refine ⟨ys, s2 _ _ e2, szL (by omega), ys ++ [u], (e1.trans s2).mut hD, upd_same, ?_⟩
            rw [cutS_upd List.mem_cons_self, ht2, List.filter_append, List.filter_cons_of_pos hg, List.map_append]
            exact dpa_app ((cutS_mono s2).dpa e3) (dpa_one hy)
          · rw [if_neg hg]
            refine ⟨ys, e1, e2, ?_⟩
            rw [ht2, List.filter_append, List.filter_cons_of_neg hg, List.filter_nil, List.append_nil]
            exact e3
  · obtain ⟨ys, e1, e2, e3⟩ := p
    refine q D ys H1 e1 hD e2 ?_
    have e4 : zs.take xs.length = zs := List.take_of_length_le (by omega)
    rw [e4] at e3
    exact e3
def roomQ (qs : List QD) (m : Mk) : Int := match qs[m.1]? with
  | none => 0
  | some q => q.room
def gapQ (qs : List QD) (m : Mk) : Int := match qs[m.1]? with
  | none => 0
  | some q => q.gap
def paidQ (qs : List QD) (r : List Mk) : Int := ((r.filter fun m => m.2).map (roomQ qs)).sum
def quietQ (qs : List QD) (r : List Mk) : Int := ((r.filter fun m => !m.2).map fun m => gapQ qs m - 1).sum
theorem cost_pq {qs : List QD} : ∀ r : List Mk, (∀ m ∈ r, m.1 < qs.length) → costQ qs r = paidQ qs r - quietQ qs r
  | [], _ => rfl
  | m :: r, h => by
    have ih := cost_pq r fun x hx => h x (List.mem_cons_of_mem _ hx)
    have hm := h m List.mem_cons_self
    unfold costQ paidQ quietQ at ih ⊢
    rw [List.map_cons, List.sum_cons, ih]
    have e : prQ qs m = if m.2 = true then roomQ qs m else 1 - gapQ qs m := by
      unfold prQ roomQ gapQ
      rw [List.getElem?_eq_getElem hm]
    rw [e]
    cases hb : m.2 with
    | true =>
      rw [if_pos rfl, List.filter_cons_of_pos (by rw [hb]), List.filter_cons_of_neg (by rw [hb]; decide), List.map_cons, List.sum_cons]
      omega
    | false =>
      rw [if_neg (by decide), List.filter_cons_of_neg (by rw [hb]; decide), List.filter_cons_of_pos (by rw [hb]; rfl), List.map_cons, List.sum_cons]
      omega
section
variable {P : Program} {w : World} {K : PySem.W.Frag} {mg : Str → Option Value} {base : Heap}
/-- web[1][at][i] -/
theorem web_at {H : Hp} {a0 a1 a2 : Addr} {ws : List Str} {qs : List QD} {xq : List V} {m : Mk} (N : NetAt K H true a0 a1 a2 ws qs xq) (h : m.1 < qs.length) : ∃ q aq, qs[m.1]? = some q ∧ atI xq (m.1 : Int) = some (.ref aq) ∧ SqT K H aq [.str q.nm, .str q.st, .str q.en, .int q.room, .int q.gap] := by
  have hx : m.1 < xq.length := by rw [N.ll]; exact h
  obtain ⟨q, aq, g1, g2, g3⟩ := N.hq m.1 _ (List.getElem?_eq_getElem hx)
  exact ⟨q, aq, g1, by rw [← g2]; exact atI_nat (List.getElem?_eq_getElem hx), g3⟩
def spSums (K : PySem.W.Frag) : Sp := fun vs H Q _ => ∃ (v u : V) (ws : List Str) (qs : List QD) (r : List Mk) (S : List Addr), vs = [v, u] ∧ Trk S H ∧ Dp K H v (netD true ws qs) ∧ Dp K H u (rowL r) ∧ (∀ m ∈ r, m.1 < qs.length) ∧ r.length ≤ 1000 ∧
  ∀ H' z, Same H H' → Dp K (cutS S H') z (.tuple [.int (paidQ qs r), .int (quietQ qs r)]) → Q z H'
theorem ok_w_ring_sums {f : Addr} {fd : FuncData} {k : Nat} (F : Fun K "_law_ring_sums" "_law_ring_sums" s_w_ring_sums f fd) (m_sum : mg "sum" = none) : FnOk P w K mg base CX0 (k + 1) f fd ["_law_web_here", "_law_row"] (spSums K) := by
  refine F.ok sc_w_ring_sums (fun vs H Q E h => ?_) (fun cdv A outer s0 H vs Q E hr h => ?_)
  · obtain ⟨v, u, ws, qs, r, S, rfl, _⟩ := h
    rfl
  · obtain ⟨v, u, ws, qs, r, S, rfl, hT, hD, hU, hlt, hl, q⟩ := h
    refine ⟨_, (pss_cons (ps_set (i := 2) sc_w_ring_sums.nd rfl (Or.inl rfl) (pe_callB (cr_sum rfl) (by rfl) m_sum (by decide +kernel) (pa_cons (pe_lcX (pe_lc (own := [("_law_at_so", 3), ("_law_sign", 4)]) (g := gTup K 2 (gCons (gName 3) (gCons (gName 4) gNil))) (tt := tTest (tOp rEq (tVar 4) (tC (.int 1)))) (te := tOp (rIxF K) (tOp (rIxF K) (tOp (rIxF K) (tVar 0) (tC (.int 1))) (tVar 3)) (tC (.int 3))) (by rfl) sc_w_ring_sums.nd (pi_seq (pv 1)) (blkOk_by (own := [("_law_at_so", 3), ("_law_sign", 4)]) (N := sc_w_ring_sums_N) (sc := defScope s_w_ring_sums) (by decide +kernel)) (fun _ _ _ _ _ => pg_tup rfl (pgs_cons (pg_name (i := 3) sc_w_ring_sums.nd rfl (Or.inl rfl)) (pgs_cons (pg_name (i := 4) sc_w_ring_sums.nd rfl (Or.inl rfl)) pgs_nil))) (fun _ _ _ _ _ => (pts_one (pt_cmpR op_eq (pv 4) pe_int (nomark _)))) (fun _ _ _ _ _ => (pe_ix ix_lt (pe_ix ix_lt (pe_ix ix_lt (pv 0) pe_int (fun _ _ => rfl)) (pv 3) (fun _ _ => rfl)) pe_int (fun _ _ => rfl))))) pa_nil))) 
    (pss_one (ps_ret (pe_tup (pa_cons (pv 2) (pa_cons (pe_callB (cr_sum rfl) (by rfl) m_sum (by decide +kernel) (pa_cons (pe_lcX (pe_lc (own := [("_law_at_so", 3), ("_law_sign", 4)]) (g := gTup K 2 (gCons (gName 3) (gCons (gName 4) gNil))) (tt := tTest (tOp rEq (tVar 4) (tUn (rU fun i => .int (-i)) (tC (.int 1))))) (te := tOp (rI0 fun i j => .int (i - j)) (tOp (rIxF K) (tOp (rIxF K) (tOp (rIxF K) (tVar 0) (tC (.int 1))) (tVar 3)) (tC (.int 4))) (tC (.int 1))) (by rfl) sc_w_ring_sums.nd (pi_seq (pv 1)) (blkOk_by (own := [("_law_at_so", 3), ("_law_sign", 4)]) (N := sc_w_ring_sums_N) (sc := defScope s_w_ring_sums) (by decide +kernel)) (fun _ _ _ _ _ => pg_tup rfl (pgs_cons (pg_name (i := 3) sc_w_ring_sums.nd rfl (Or.inl rfl)) (pgs_cons (pg_name (i := 4) sc_w_ring_sums.nd rfl (Or.inl rfl)) pgs_nil))) (fun _ _ _ _ _ => (pts_one (pt_cmpR op_eq (pv 4) (pe_un un_neg pe_int) (nomark _)))) (fun _ _ _ _ _ => (pe_op op_sub (pe_ix ix_lt (pe_ix ix_lt (pe_ix ix_lt (pv 0) pe_int (fun _ _ => rfl)) (pv 3) (fun _ _ => rfl)) pe_int (fun _ _ => rfl)) pe_int)))) pa_nil)) pa_nil)))))), ?_⟩
    obtain ⟨a0, a1, a2, xq, rfl, N0⟩ := netAt hD
    have i1 : atI [V.ref a1, V.ref a2] 1 = some (.ref a2) := atI_nat (j := 1) rfl
    obtain ⟨rr, xr, rfl, hrr, hxr⟩ := Dp.seq_of (f := false) hU
    have decS : ∀ b c : Bool, decide (V.int (sgI b) = V.int (sgI c)) = (b == c) := fun b c => by cases b <;> cases c <;> rfl
    refine lc_pairF (fb := false) r (fun m => .int (m.1 : Int)) (fun m => .int (sgI m.2)) (fun m => .int (roomQ qs m)) (fun m => m.2) (fun R' q' => ⟨_, rfl, q'⟩) hrr hxr (by omega) (fun x y => rfl) (fun x y m H1 hm e1 hx hy Q' q' => ?_) (fun x y m H1 T hm hb e1 tr hx hy Q' q' => ?_) (fun D ys H1 s1 hD0 h1 h2 => ?_)
    · cases hx
      cases hy
      walk_at "ev"
      rw [show decide (V.int (sgI m.2) = V.int 1) = m.2 by rw [show V.int 1 = V.int (sgI true) from rfl, decS]; cases m.2 <;> rfl]
      exact q'
    · cases hx
      cases hy
      obtain ⟨qd, aq, g1, g2, g3⟩ := web_at (m := m) (N0.same e1) (hlt m hm)
      have er : roomQ qs m = qd.room := by unfold roomQ; rw [g1]
      rw [er] at q'
      exact ⟨_, rfl, rIxF_at (N0.same e1).h0 i1 ⟨_, rfl, rIxF_at (N0.same e1).h2 g2 (rIxF_at (f := true) g3 (atI_nat (j := 3) rfl) (q' H1 _ (fun _ _ e => e) (.int _)))⟩⟩
    · have h3 : DpAll K (cutS [D] H1) ys ((((r.filter fun m => m.2).map (roomQ qs))).map PyData.int) := by
        rw [List.map_map]
        exact h2
      have ey := dpa_ints_of h3
      subst ey
      refine ⟨D, _, rfl, sql_of h1, ?_⟩
      have N1 := N0.same s1
      try dsimp only [gName, tSeq, tAsg]
      walk_at "ev"
      refine lc_pairF (fb := false) r (fun m => .int (m.1 : Int)) (fun m => .int (sgI m.2)) (fun m => .int (gapQ qs m - 1)) (fun m => !m.2) (fun R' q' => ⟨_, rfl, q'⟩) (s1.sqF hrr) (s1.dpa hxr) (by omega) (fun x y => rfl) (fun x y m H2 hm e2 hx hy Q' q' => ?_) (fun x y m H2 T hm hb e2 tr hx hy Q' q' => ?_) (fun D2 ys H2 s2 hD2 h4 h5 => ?_)
      · cases hx
        cases hy
        walk_at "ev"
        rw [show decide (V.int (sgI m.2) = V.int (-1)) = !m.2 by rw [show V.int (-1) = V.int (sgI false) from rfl, decS]; cases m.2 <;> rfl]
        exact q'
      · cases hx
        cases hy
        obtain ⟨qd, aq, g1, g2, g3⟩ := web_at (m := m) (N1.same e2) (hlt m hm)
        have er : gapQ qs m = qd.gap := by unfold gapQ; rw [g1]
        rw [er] at q'
        exact ⟨_, rfl, rIxF_at (N1.same e2).h0 i1 ⟨_, rfl, rIxF_at (N1.same e2).h2 g2 (rIxF_at (f := true) g3 (atI_nat (j := 4) rfl) ⟨_, _, rfl, rfl, q' H2 _ (fun _ _ e => e) (.int _)⟩)⟩⟩
      · have h6 : DpAll K (cutS [D2] H2) ys ((((r.filter fun m => !m.2).map fun m => gapQ qs m - 1)).map PyData.int) := by
          rw [List.map_map]
          exact h5
        have ey := dpa_ints_of h6
        subst ey
        refine ⟨D2, _, rfl, sql_of h4, ?_⟩
        walk_at "ev"
        intro p hp
        exact q _ _ ((s1.trans s2).trans (.upd hp)) (dp_tup ((hT.mono s1).mono s2) hp (.cons (.int _) (.cons (.int _) .nil)))
theorem sql_cut {H : Hp} {a F : Addr} {xs : List V} (h : SqL K H a xs) (hF : H F = some (.lst [])) (hx : xs ≠ []) : SqL K (cutS [F] H) a xs := by
  rcases h with (h | ⟨o, h⟩) | h
  · refine .inl (.inl (cutS_at h (not1 fun z => ?_)))
    rw [z, hF] at h
    cases h
    exact hx rfl
  · refine .inl (.inr ⟨o, cutS_at h (not1 fun z => ?_)⟩)
    rw [z, hF] at h
    cases h
  · exact .inr h
theorem sqt_cut {H : Hp} {a F : Addr} {xs fv : List V} (h : SqT K H a xs) (hF : H F = some (.lst fv)) : SqT K (cutS [F] H) a xs := by
  rcases h with (h | ⟨o, h⟩) | h
  · refine .inl (.inl (cutS_at h (not1 fun z => ?_)))
    rw [z, hF] at h
    cases h
  · refine .inl (.inr ⟨o, cutS_at h (not1 fun z => ?_)⟩)
    rw [z, hF] at h
    cases h
  · exact .inr h
theorem sts_cut {qs : List QD} {H : Hp} {F : Addr} {fv : List V} (hF : H F = some (.lst fv)) : ∀ {r : List Mk} {xs : List V}, DpAll K H xs (r.map (stD qs)) → DpAll K (cutS [F] H) xs (r.map (stD qs))
  | [], _, .nil => .nil
  | m :: r, _, .cons h1 h2 => by
    refine .cons ?_ (sts_cut hF h2)
    obtain ⟨t, xt, rfl, ht, hx⟩ := Dp.seq_of (f := true) h1
    have ht : SqT K H t xt := ht
    cases hx with
    | cons k1 hx =>
      cases hx with
      | cons k2 hx =>
        cases hx
        cases k1
        cases k2
        exact .tup (sqt_cut ht hF) (.cons (.str _) (.cons (.str _) .nil))
theorem mks_cut {H : Hp} {F : Addr} (hF : H F = some (.lst [])) : ∀ {r : List Mk} {xs : List V}, DpAll K H xs (r.map mkL) → DpAll K (cutS [F] H) xs (r.map mkL)
  | [], _, .nil => .nil
  | m :: r, _, .cons h1 h2 => by
    refine .cons ?_ (mks_cut hF h2)
    obtain ⟨t, xt, rfl, ht, hx⟩ := Dp.seq_of (f := true) h1
    have ht : SqT K H t xt := ht
    cases hx with
    | cons k1 hx =>
      cases hx with
      | cons k2 hx =>
        cases hx
        cases k1
        cases k2
        exact .tup (sqt_cut ht hF) (.cons (.int _) (.cons (.int _) .nil))
theorem rows_cut {H : Hp} {F : Addr} (hF : H F = some (.lst [])) : ∀ {g : List (List Mk)} {xs : List V}, (∀ r ∈ g, r ≠ []) → DpAll K H xs (g.map rowL) → DpAll K (cutS [F] H) xs (g.map rowL)
  | [], _, _, .nil => .nil
  | r :: g, _, hn, .cons h1 h2 => by
    refine .cons ?_ (rows_cut hF (fun x hx => hn x (List.mem_cons_of_mem _ hx)) h2)
    obtain ⟨a, xa, rfl, ha, hx⟩ := Dp.seq_of (f := false) h1
    have ha : SqL K H a xa := ha
    have hne : xa ≠ [] := fun z => by
      have := dpa_len hx
      rw [z, List.length_map] at this
      exact hn r List.mem_cons_self (List.eq_nil_of_length_eq_zero this.symm)
    exact .lst (sql_cut ha hF hne) (mks_cut hF hx)
end
end Jl

set_option Elab.async false
set_option linter.all false
set_option maxRecDepth 100000
set_option maxHeartbeats 1000000
set_option pp.maxSteps 900
namespace Jl
open PySem PySem.Spec PyProof.Rows L2
open Evl (sz_of sz_lt)
/-! ### len(set(texts)) -/
def stepD (acc : List Str) (x : Str) : List Str := if x ∈ acc then acc else acc ++ [x]
def dedS (xs : List Str) : List Str := xs.foldl stepD []
theorem setOf_keep {prog : Program} {w : World} {h h' : Heap} {S : Addr} {f : Str → Bool} {n : Nat} (hs : Heap.SetOf (PySem.strKind prog w) h S f n) (k : ∀ o, h.get? S = some o → h'.get? S = some o) : Heap.SetOf (PySem.strKind prog w) h' S f n := by
  obtain ⟨o, es, ep, t, h1, h2⟩ := hs
  exact ⟨o, es, ep, t, k o h1, h2⟩
theorem dedS_snoc {xs : List Str} {x : Str} : dedS (xs ++ [x]) = stepD (dedS xs) x := by
  unfold dedS
  rw [List.foldl_append]
  rfl
theorem dedS_len (xs : List Str) : (dedS xs).length ≤ xs.length := by
  have h : ∀ (xs acc : List Str), (xs.foldl stepD acc).length ≤ acc.length + xs.length := by
    intro xs
    induction xs with
    | nil => intro acc; exact Nat.le_refl _
    | cons x xs ih =>
      intro acc
      rw [List.foldl_cons, List.length_cons]
      have h1 := ih (stepD acc x)
      have h2 : (stepD acc x).length ≤ acc.length + 1 := by
        unfold stepD
        split
        · omega
        · rw [List.length_append]
          exact Nat.le_refl _
      omega
  have := h xs []
  rw [List.length_nil] at this
  unfold dedS
  omega
theorem loopStrD {prog : Program} {w : World} {A : Around} {R : Result → Shared → Prop} {I : Addr} {fp wr : List Addr} {G : Array GenState → Array GenState → Prop} {n : Nat} {P : Nat → Value → Prop} {St : Nat → Shared → Prop}
    (hw : WalksS prog w A.in1 I fp wr G n P St) (S : Addr) (hS : S ∉ fp) (xs : List Str) (hl : xs.length = n) (hb : n + 1 < scanBound) (hP : ∀ i v, P i v → ∃ t, v = Value.str (xs.getD i Str.empty) t) :
    ∀ (k i : Nat) (s : Shared), n - i = k → i ≤ n → St i s → Heap.SetOf (PySem.strKind prog w) s.heap S (fun k' => decide (k' ∈ dedS (xs.take i))) (dedS (xs.take i)).length →
      (∀ s', Moved (S :: wr) G s s' → Heap.SetOf (PySem.strKind prog w) s'.heap S (fun k' => decide (k' ∈ dedS xs)) (dedS xs).length → R (.ok (.ret .none)) s') →
      codeAny (model prog w) A (Code.builtin "set.update.loop" { pos := [Value.ref S, Value.ref I] }) R s := by
  intro k
  induction k with
  | zero =>
    intro i s hk hi hst hset q
    have e : i = n := by omega
    subst e
    refine codeAny_builtin F.entry_set_update_loop ?_
    have q1 : ∀ {Q : Option Value → Shared → Prop} {E : Value → Shared → Prop}, (∀ s', Moved wr G s s' → Q none s') → wpAny (model prog w) (A.under (Code.builtin "set.update.loop" { pos := [Value.ref S, Value.ref I] })) (pyNext (Value.ref I)) Q E s := fun h => hw.done s _ _ hst h
    show wpAny _ _ (Builtin.«set.update.loop» { pos := [Value.ref S, Value.ref I] }) _ _ _
    wp_walk using q1
    intro s' hm
    dsimp only
    wp_walk
    have hS' : S ∉ wr := fun z => hS (hw.sub _ z)
    refine q s' (hm.mono fun b hb => List.mem_cons_of_mem _ hb) ?_
    rw [List.take_of_length_le (by omega)] at hset
    exact setOf_keep hset fun o ho => hm.heap S o hS' ho
  | succ k ih =>
    intro i s hk hi hst hset q
    have hin : i < n := by omega
    refine codeAny_builtin F.entry_set_update_loop ?_
    have q1 : ∀ {Q : Option Value → Shared → Prop} {E : Value → Shared → Prop}, (∀ v s', P i v → St (i + 1) s' → Moved wr G s s' → Q (some v) s') → wpAny (model prog w) (A.under (Code.builtin "set.update.loop" { pos := [Value.ref S, Value.ref I] })) (pyNext (Value.ref I)) Q E s := fun h => hw.item i s _ _ hin hst h
    show wpAny _ _ (Builtin.«set.update.loop» { pos := [Value.ref S, Value.ref I] }) _ _ _
    wp_walk using q1
    intro v s' hv hst' hm
    dsimp only
    obtain ⟨t, rfl⟩ := hP i v hv
    have hS' : S ∉ wr := fun z => hS (hw.sub _ z)
    have hset' := setOf_keep hset fun o ho => hm.heap S o hS' ho
    have q2 : ∀ {Q : Bool → Shared → Prop} {E : Value → Shared → Prop}, (∀ (h' : Heap) (tk : Nat), s'.toks ≤ tk → Heap.SameBut S s'.heap h' → Heap.SetOf (PySem.strKind prog w) h' S (fun k' => decide (k' ∈ dedS (xs.take (i + 1)))) (dedS (xs.take (i + 1))).length → Q (!decide (xs.getD i Str.empty ∈ dedS (xs.take i))) { s' with heap := h', toks := tk }) → wpAny (model prog w) (A.under (Code.builtin "set.update.loop" { pos := [Value.ref S, Value.ref I] })) (setAdd S (Value.str (xs.getD i Str.empty) t)) Q E s' := fun h => by
      unfold setAdd
      refine wpAny_holding ?_
      refine wpAny_bind ?_
      refine (PySem.strKind prog w).pyHash (k := xs.getD i Str.empty) (strKind_is prog w _ _) ?_
      refine wpAny_setAddHashed_of (knd := PySem.strKind prog w) (strKind_is prog w _ _) rfl hset' ?_ fun h' hsb hs2 => ?_
      · have := dedS_len (xs.take i)
        rw [List.length_take] at this
        omega
      · refine h h' _ (Nat.le_succ _) hsb ?_
        have et : xs.take (i + 1) = xs.take i ++ [xs.getD i Str.empty] := by
          rw [List.take_add_one, List.getElem?_eq_getElem (by omega), List.getD_eq_getElem?_getD, List.getElem?_eq_getElem (by omega)]
          rfl
        rw [et, dedS_snoc]
        generalize dedS (xs.take i) = l at hs2 ⊢
        generalize xs.getD i Str.empty = x at hs2 ⊢
        have e1 : (fun k' => decide (k' ∈ stepD l x)) = fun k' => decide (k' ∈ l) || decide (k' = x) := by
          funext k'
          unfold stepD
          rw [Bool.eq_iff_iff]
          split
          · rename_i hx
            simp only [decide_eq_true_eq, Bool.or_eq_true]
            exact ⟨.inl, fun z => z.elim id fun e => by rw [e]; exact hx⟩
          · simp only [decide_eq_true_eq, Bool.or_eq_true, List.mem_append, List.mem_singleton]
        have e2 : (stepD l x).length = if decide (x ∈ l) = true then l.length else l.length + 1 := by
          unfold stepD
          by_cases hx : x ∈ l
          · rw [if_pos hx, if_pos (decide_eq_true hx)]
          · rw [if_neg hx, if_neg (by simp [hx]), List.length_append]
            rfl
        rw [e1, e2]
        exact hs2
    wp_walk using q2
    intro h' tk hle hsb hs2
    refine wpAny_pure ⟨plainId_quiet PyProof.Rows.F.plain_set_update_loop _, ih (i + 1) _ (by omega) (by omega) (hw.frame (i + 1) s' h' tk hst' hle fun b hb o ho => (hsb.2 b fun z => hS (by rw [← z]; exact hb)).trans ho) hs2 fun s'' hm2 hs3 => q s'' ?_ hs3⟩
    have m1 : Moved (S :: wr) G s { s' with heap := h', toks := tk } := (hm.mono (wr' := S :: wr) fun b hb => List.mem_cons_of_mem _ hb).then_heap hle fun b o hb ho => (hsb.2 b fun z => hb (by rw [z]; exact List.mem_cons_self)).trans ho
    exact m1.trans hw.gtrans hm2
set_option maxHeartbeats 4000000 in
theorem call_setD {prog : Program} {w : World} {A : Around} {E : Value → Shared → Prop} {s : Shared} {l : Addr} {items : Array Value} {xs : List Str} {Q : Value → Shared → Prop} (hh : A.handled = none) (hl : s.heap.IsList l items) (hx : xs.length = items.size) (hP : ∀ (i : Nat) (v : Value), items[i]? = some v → ∃ t, v = Value.str (xs.getD i Str.empty) t) (hb : items.size + 1 < scanBound)
    (q : ∀ (h' : Heap) (tk : Nat), Heap.SetOf (PySem.strKind prog w) h' s.heap.objs.size (fun k' => decide (k' ∈ dedS xs)) (dedS xs).length → (∀ (b : Nat) (o : Obj), b < s.heap.objs.size → s.heap.get? b = some o → h'.get? b = some o) → Q (Value.ref s.heap.objs.size) { s with heap := h', toks := tk }) :
    wpAny (model prog w) A (call (Value.type "set") [Value.ref l]) Q E s := by
  have ⟨_, _, m1⟩ := PySem.F.called_set.mro
  have m2 := PySem.F.called_set.made
  have m3 := PySem.F.called_set.sub
  have m4 := PySem.F.called_set.notType
  have m5 := PySem.F.called_set.canCreate
  have m6 := PySem.F.typeCall_set_1 (Value.ref l)
  refine wpAny_call <| codeAny_of_tree ?_
  show wpAny _ _ (callAny (Value.type "set") _) _ _ _
  refine wpAny_pure ⟨by exact Code.quiet_builtin _ (by decide +kernel), ?_⟩
  refine codeAny_builtin PySem.F.entry_type_call ?_
  rw [Around.under_plain (by exact weight_type_call_type "set" [Value.ref l] []) rfl]
  repeat any_goals first | assumption | wp_step
  refine codeAny_mono (code_set_new_1 (E := E) (Value.ref l) (Q₁ := fun y z => ∃ led : Bool, y = Value.ref s.heap.objs.size ∧ z = { s with heap := s.heap.push { cls := Value.type "set", data := Data.set #[] 0 (SetTable.fresh 0 0 led) } }) fun led => ⟨led, by rfl, by rfl⟩) fun r z hr => ?_
  match r, hr with
  | .error e, hr => exact hr
  | .ok (.ret y), hr =>
    obtain ⟨led, e1, e2⟩ := hr
    subst e1
    subst e2
    generalize ho : ({ cls := Value.type "set", data := Data.set #[] 0 (SetTable.fresh 0 0 led) } : Obj) = so
    have g0 : (s.heap.push so).get? s.heap.objs.size = some so := Heap.get?_push_size _ (by rw [← ho]; rfl)
    have hT : Shared.TypeIs { s with heap := s.heap.push so } (Value.ref s.heap.objs.size) "set" := ⟨so, g0, by rw [← ho]⟩
    have n1 := PySem.F.called_set.init.lookup
    have n2 := PySem.F.called_set.init.bind (Value.ref s.heap.objs.size)
    repeat any_goals first | assumption | wp_step
    refine codeAny_mono (codeAny_call_builtin (R := wants (fun y z => y = Value.none ∧ ∃ h' tk, z = { s with heap := h', toks := tk } ∧ Heap.SetOf (PySem.strKind prog w) h' s.heap.objs.size (fun k' => decide (k' ∈ dedS xs)) (dedS xs).length ∧ ∀ (b : Nat) (o : Obj), b < s.heap.objs.size → s.heap.get? b = some o → h'.get? b = some o) E) PySem.F.called_set.init.plain PySem.F.entry_set_init (check_set_init_1 hT ?_)) fun r z hr => ?_
    · have ⟨ol, o1, o2, nl, o3⟩ := hl
      match ol, o1, o2, o3 with
      | ⟨_, od, _, os⟩, o1, rfl, rfl =>
        have o4 := Heap.get?_push_of_some so o1
        have k1 := PySem.F.sub_list_set
        have k2 := PySem.F.sub_list_frozenset
        have k3 : (Value.type "list" == Value.type "dict") = false := by decide
        have hl1 : (s.heap.push so).IsList l items := ⟨_, o4, rfl, nl, rfl⟩
        subst ho
        unfold Builtin.«set.__init__» noKeywords Builtin.Frozenset.updateFrom
        generalize hit : pyIter = it
        wp_walk
        subst hit
        refine wpAny_pyIter_list hl1 ?_
        refine wpAny_bind <| wpAny_runValue ?_
        have lt1 : l < s.heap.objs.size := Heap.lt_size o1
        have sz1 : ∀ so, Array.size (Heap.objs (s.heap.push so)) = s.heap.objs.size + 1 := fun _ => Heap.size_push _ _
        have hne1 : ∀ so, l ≠ Array.size (Heap.objs (s.heap.push so)) := fun so => by rw [sz1]; exact Nat.ne_of_lt (Nat.lt_succ_of_lt lt1)
        have hin3 : A.in1.in1.in1.handled = none := by simp [hh]
        have hnf : ∀ so, s.heap.objs.size ∉ [Array.size (Heap.objs (s.heap.push so)), l] := by
          intro so z
          rw [sz1] at z
          rcases List.mem_cons.mp z with z | z
          · exact absurd z (Nat.ne_of_lt (Nat.lt_succ_self _))
          · rcases List.mem_cons.mp z with z | z
            · exact absurd z (Nat.ne_of_gt lt1)
            · cases z
        refine loopStrD (Walks.list hin3 _ l (hne1 _) items).toS s.heap.objs.size (hnf _) xs hx hb (fun i v z => hP i v z) (items.size - 0) 0 _ (by omega) (Nat.zero_le _) ⟨⟨_, Heap.get?_push_size _ rfl, rfl, rfl⟩, hl1.push _⟩ ?_ ?_
        · have g1 := Heap.get?_push_of_some { cls := Value.type "list_iterator", data := Data.fields #[Value.ref l, Value.int 0 0] } g0
          exact PyProof.Rows.SetOf_congr ((PyProof.Rows.setObjOf_fresh (knd := PySem.strKind prog w) led).setOf g1 (by unfold scanBound; omega)) (fun _ => rfl) rfl
        · rintro ⟨h', g', d', tk', os'⟩ hm hS
          have eg : g' = s.gens := hm.gens
          have ed : d' = s.drawn := hm.drawn
          have eo : os' = s.os := hm.os
          subst eg
          subst ed
          subst eo
          show wpAny _ _ _ _ _ _
          refine wpAny_pure ?_
          show wpAny _ _ (ret Value.none) _ _ _
          refine wpAny_pure ⟨rfl, h', tk', rfl, hS, fun b o lt e => ?_⟩
          refine hm.heap b o (fun z => ?_) (Heap.get?_push_of_some _ (Heap.get?_push_of_some _ e))
          rw [sz1] at z
          rcases List.mem_cons.mp z with z | z
          · exact absurd z (Nat.ne_of_lt lt)
          · rcases List.mem_cons.mp z with z | z
            · exact absurd z (Nat.ne_of_lt (Nat.lt_succ_of_lt lt))
            · cases z
    · match r, hr with
      | .error e, hr => exact hr
      | .ok (.ret y), hr =>
        obtain ⟨rfl, h', tk, rfl, hS, hk⟩ := hr
        repeat any_goals first | assumption | wp_step
        exact q h' tk hS hk

theorem strs_of_vals : ∀ {ys : List Str} {us : List Value}, Vals (ys.map V.str) us → ∀ (i : Nat) (v : Value), us[i]? = some v → ∃ t, v = Value.str (ys.getD i Str.empty) t
  | [], _, .nil, i, v, e => by simp at e
  | y :: ys, _, .cons r t, i, v, e => by
    obtain ⟨k, rfl⟩ := r
    match i with
    | 0 =>
      simp only [List.getElem?_cons_zero, Option.some.injEq] at e
      exact ⟨k, e.symm⟩
    | i + 1 =>
      simp only [List.getElem?_cons_succ] at e
      exact strs_of_vals t i v e
/-- how many different texts a list has -/
def tLenSetD (K : PySem.W.Frag) (ta : TE) : TE := fun σ H Q => ta σ H fun x H1 => ∃ (l : Addr) (ys : List Str), x = .ref l ∧ SqL K H1 l (ys.map V.str) ∧ ys.length ≤ 4000 ∧ Q (.int ((dedS ys).length : Nat)) H1
theorem pe_lenSetD {X : Cx} {a : Expr} {ta : TE} {p p2 q pos : Pos} (hg : Gl X "len") (hm : X.mg "len" = none) (hg2 : Gl X "set") (hm2 : X.mg "set" = none) (ha : PE X a ta) (hc : X.calm = true := by rfl)
    (na : starEach [a] X.env = (false, eval a X.env) :: starEach [] X.env := by rfl) : PE X (.Call (.Name "len" p) [.Call (.Name "set" p2) [a] [] q] [] pos) (tLenSetD X.K ta) := by
  constructor
  intro pins s σ H Q I hQ
  refine Call_ <| ld_blt I hg hm boot_len ?_
  refine callWith_builtin1 (args_cons ?_ rfl) rfl rfl
  refine Call_ <| ld_blt I hg2 hm2 boot_set ?_
  refine callWith_type1 (args_cons (thn (ha.run pins s σ H _ I hQ) ?_) na) na rfl
  rintro v s1 ⟨x, H1, I1, r1, l, ys, rfl, hq, hsz, q1⟩
  refine args_nil ?_
  cases r1
  have ⟨its, r, pl, _⟩ := I1.list hq
  have hlen : its.toArray.size = ys.length := by rw [List.size_toArray, ← r.length, List.length_map]
  refine call_setD (I1.ok.hd hc) pl.isList hlen.symm (fun i v e => strs_of_vals r i v (by simpa using e)) (by rw [hlen]; unfold scanBound; omega) ?_
  intro h' tk hS hk
  refine args_nil ?_
  have ⟨o, es, ep, t, ho, hex, hd, _, _, _, hf, hn⟩ := hS
  have I2 : L2.Inv X pins σ H1 { s1 with heap := h', toks := tk } := I1.kept fun b o e => hk b o (Heap.lt_size e) e
  have := dedS_len ys
  exact call_len_set ho hex hd hf (by rw [hn]; omega) ⟨.int (dedS ys).length, H1, I2.tok _, ⟨_, by rw [hn]⟩, q1⟩
end Jl

set_option Elab.async false
set_option linter.all false
set_option maxRecDepth 100000
set_option maxHeartbeats 1000000
set_option pp.maxSteps 300
namespace Jl
open PySem PySem.Spec PyProof.Rows L2
open Evl (sz_of sz_lt)
local macro_rules | `(tactic| walk_at "at") => `(tactic| first | exact box0 | exact box1 | exact box2)
local macro_rules | `(tactic| walk_at "sq") => `(tactic| first | (show SqL _ _ _ _; assumption) | (show SqT _ _ _ _; assumption) | (show _ = some _; assumption))
local macro_rules | `(tactic| walk_at "side") => `(tactic| first
  | (show (0 : Int) < _; decide)
  | (show (0 : Int) < _; omega)
  | exact ⟨by decide, by decide, by decide⟩
  | exact sz_of (Nat.le_of_ble_eq_true rfl)
  | exact rfl
  | exact Or.inl (by decide)
  | exact Or.inr (by decide)
  | exact Or.inr ⟨by omega, by omega⟩
  | exact Or.inl ⟨by omega, by omega⟩
  | exact ⟨by decide, by decide +kernel⟩)
local macro_rules | `(tactic| walk_at "ev1") => `(tactic| first
  | refine ⟨_, rfl, ?_⟩
  | refine ⟨_, _, rfl, rfl, ?_⟩
  | refine ⟨_, _, _, _, rfl, rfl, (by walk_at "sq"), (by walk_at "at"), ?_⟩
  | refine ⟨_, _, rfl, (by walk_at "sq"), ?_⟩
  | refine ⟨_, _, rfl, Or.inl (by walk_at "sq"), ?_⟩
  | refine ⟨_, _, rfl, Or.inr (by walk_at "sq"), ?_⟩
  | refine Or.inl ⟨_, rfl, ?_⟩
  | refine Or.inr ⟨_, rfl, ?_⟩
  | refine ⟨(by walk_at "side"), ?_⟩
  | refine ⟨.inl ⟨rfl, _, (by walk_at "sq")⟩, ?_⟩
  | refine ⟨_, _, rfl, ?_⟩)
local macro_rules | `(tactic| walk_at "nrm") => `(tactic| dsimp only [tNil, tCons, tC, tCB])
local macro_rules | `(tactic| walk_at "ev") => `(tactic| repeat (walk_at "ev1"))
/-! ### nets of mixed make -/
structure NetAt4 (K : PySem.W.Frag) (H : Hp) (f0 f1 f2 f3 : Bool) (a0 a1 a2 : Addr) (ws : List Str) (qs : List QD) (xq : List V) : Prop where
  h0 : SqF f0 K H a0 [.ref a1, .ref a2]
  h1 : SqF f1 K H a1 (ws.map V.str)
  h2 : SqF f2 K H a2 xq
  hq : ∀ (i : Nat) (v : V), xq[i]? = some v → ∃ (q : QD) (a : Addr), qs[i]? = some q ∧ v = .ref a ∧ SqF f3 K H a [.str q.nm, .str q.st, .str q.en, .int q.room, .int q.gap]
  ll : xq.length = qs.length
section
variable {K : PySem.W.Frag}
theorem NetAt4.same {H H' : Hp} {f0 f1 f2 f3 : Bool} {a0 a1 a2 : Addr} {ws : List Str} {qs : List QD} {xq : List V} (n : NetAt4 K H f0 f1 f2 f3 a0 a1 a2 ws qs xq) (e : Same H H') : NetAt4 K H' f0 f1 f2 f3 a0 a1 a2 ws qs xq :=
  ⟨e.sqF n.h0, e.sqF n.h1, e.sqF n.h2, fun i v h => by
    obtain ⟨q, a, g1, g2, g3⟩ := n.hq i v h
    exact ⟨q, a, g1, g2, e.sqF g3⟩, n.ll⟩
/-- a net, each of its levels a list or a tuple -/
def NetV (K : PySem.W.Frag) (H : Hp) (v : V) (ws : List Str) (qs : List QD) : Prop := ∃ (f0 f1 f2 f3 : Bool) (a0 a1 a2 : Addr) (xq : List V), v = .ref a0 ∧ NetAt4 K H f0 f1 f2 f3 a0 a1 a2 ws qs xq
theorem NetV.same {H H' : Hp} {v : V} {ws : List Str} {qs : List QD} (h : NetV K H v ws qs) (e : Same H H') : NetV K H' v ws qs := by
  obtain ⟨f0, f1, f2, f3, a0, a1, a2, xq, e1, n⟩ := h
  exact ⟨f0, f1, f2, f3, a0, a1, a2, xq, e1, n.same e⟩
theorem netV_of {H : Hp} {fb : Bool} {v : V} {ws : List Str} {qs : List QD} (h : Dp K H v (netD fb ws qs)) : NetV K H v ws qs := by
  obtain ⟨a0, a1, a2, xq, rfl, n⟩ := netAt h
  exact ⟨fb, fb, fb, fb, a0, a1, a2, xq, rfl, n.h0, n.h1, n.h2, n.hq, n.ll⟩
end
end Jl

set_option Elab.async false
set_option linter.all false
set_option maxRecDepth 100000
set_option maxHeartbeats 1000000
set_option pp.maxSteps 300
namespace Jl
open PySem PySem.Spec PyProof.Rows L2
open Evl (sz_of sz_lt)
local macro_rules | `(tactic| walk_at "at") => `(tactic| first | exact box0 | exact box1 | exact box2)
local macro_rules | `(tactic| walk_at "sq") => `(tactic| first | (show SqL _ _ _ _; assumption) | (show SqT _ _ _ _; assumption) | (show _ = some _; assumption))
local macro_rules | `(tactic| walk_at "side") => `(tactic| first
  | (show (0 : Int) < _; decide)
  | (show (0 : Int) < _; omega)
  | exact ⟨by decide, by decide, by decide⟩
  | exact sz_of (Nat.le_of_ble_eq_true rfl)
  | exact rfl
  | exact Or.inl (by decide)
  | exact Or.inr (by decide)
  | exact Or.inr ⟨by omega, by omega⟩
  | exact Or.inl ⟨by omega, by omega⟩
  | exact ⟨by decide, by decide +kernel⟩)
local macro_rules | `(tactic| walk_at "ev1") => `(tactic| first
  | refine ⟨_, rfl, ?_⟩
  | refine ⟨_, _, rfl, rfl, ?_⟩
  | refine ⟨_, _, _, _, rfl, rfl, (by walk_at "sq"), (by walk_at "at"), ?_⟩
  | refine ⟨_, _, rfl, (by walk_at "sq"), ?_⟩
  | refine ⟨_, _, rfl, Or.inl (by walk_at "sq"), ?_⟩
  | refine ⟨_, _, rfl, Or.inr (by walk_at "sq"), ?_⟩
  | refine Or.inl ⟨_, rfl, ?_⟩
  | refine Or.inr ⟨_, rfl, ?_⟩
  | refine ⟨(by walk_at "side"), ?_⟩
  | refine ⟨.inl ⟨rfl, _, (by walk_at "sq")⟩, ?_⟩
  | refine ⟨_, _, rfl, ?_⟩)
local macro_rules | `(tactic| walk_at "nrm") => `(tactic| dsimp only [tNil, tCons, tC, tCB])
local macro_rules | `(tactic| walk_at "ev") => `(tactic| repeat (walk_at "ev1"))
/-! ### a statement that is never come to -/
def tNo : TS := fun _ _ _ => False
theorem ps_no {X : Cx} {st : Stmt} : PS X st tNo := ⟨fun _ _ _ _ _ _ h => h.elim⟩
/-! ### sum of a tuple -/
section
variable {prog : Program} {w : World} {A : Around} {E : Value → Shared → Prop} {s : Shared} {l : Addr} {xs : Array (Int × Tok)}
theorem sum_intTupG {Q : Value → Shared → Prop} (hh : A.handled = none) (hl : s.heap.IsTuple l (intItems xs))
    (h : ∀ h' tk t', (∀ b o, s.heap.get? b = some o → h'.get? b = some o) → Q (.int (preSum (numAt xs) xs.size) t') { s with heap := h', toks := tk }) :
    wpAny (model prog w) A (call (.builtin "sum") [.ref l]) Q E s := by
  refine call_sum_walkG (wpAny_pyIter_tuple hl ?_)
  have hlt : l < s.heap.objs.size := by
    obtain ⟨_, e, _⟩ := id hl
    exact Heap.lt_size e
  refine ⟨_, [s.heap.objs.size, l], [s.heap.objs.size], _, _, _, numAt xs, rfl, Walks.tuple (A := A.in1) hh s.heap.objs.size l (Nat.ne_of_lt hlt) (intItems xs),
    ⟨⟨_, Heap.get?_push_size _ rfl, rfl, rfl⟩, hl.at fun o e => Heap.get?_push_of_some _ e⟩, fun c hc => ?_, (fun _ _ => intItems_at), fun h' tk t' hk => ?_⟩
  · show c < (s.heap.push _).objs.size
    rw [Heap.size_push]
    rcases List.mem_cons.mp hc with rfl | hc
    · exact Nat.lt_succ_self _
    · rw [List.mem_singleton.mp hc]
      exact Nat.lt_succ_of_lt hlt
  · have hold : ∀ c o, s.heap.get? c = some o → h'.get? c = some o := fun c o e => by
      refine hk c o (fun hm => ?_) (Heap.get?_push_of_some _ e)
      have := Heap.lt_size e
      rw [List.mem_singleton.mp hm] at this
      exact Nat.lt_irrefl _ this
    have := h h' tk t' hold
    simpa [intItems] using this
theorem sum_rawT {its : List Value} {ns : List Int} {Q : Value → Shared → Prop} (hh : A.handled = none) (hl : s.heap.IsTuple l its.toArray) (hi : IntsAre its ns)
    (h : ∀ h' tk t', (∀ b o, s.heap.get? b = some o → h'.get? b = some o) → Q (.int ns.sum t') { s with heap := h', toks := tk }) : wpAny (model prog w) A (call (.builtin "sum") [.ref l]) Q E s := by
  obtain ⟨xs, e⟩ := hi.allInts.items
  have hn : numsOf (intItems xs).toList = ns := by rw [← e]; exact hi.numsOf
  rw [nums_intItems] at hn
  rw [e] at hl
  refine sum_intTupG hh hl fun h' tk t' hk => ?_
  have := h h' tk t' hk
  rw [preSum_eq, List.take_of_length_le (by simp), hn]; exact this
end
def rSumT (K : PySem.W.Frag) : List V → Hp → VK → Prop := fun vs H Q => ∃ (a : Addr) (ns : List Int), vs = [V.ref a] ∧ SqT K H a (ns.map V.int) ∧ Q (.int ns.sum) H
theorem cr_sumT {X : Cx} (hc : X.calm = true) : CallR X (.builtin "sum") (rSumT X.K) := by
  intro pins s σ H vs us Q I r h
  obtain ⟨a, ns, rfl, hs, q⟩ := h
  obtain ⟨its, rv, hl, _⟩ := I.tuple hs
  rw [Vals.ref1 r]
  exact sum_rawT (I.ok.hd hc) hl rv.ints fun h' tk t' hk => ⟨.int _, H, I.kept hk, ⟨_, rfl⟩, q⟩
end Jl

set_option Elab.async false
set_option linter.all false
set_option maxRecDepth 100000
set_option maxHeartbeats 1000000
set_option pp.maxSteps 300
namespace Jl
open PySem PySem.Spec PyProof.Rows L2
open Evl (sz_of sz_lt)
local macro_rules | `(tactic| walk_at "at") => `(tactic| first | exact box0 | exact box1 | exact box2)
local macro_rules | `(tactic| walk_at "sq") => `(tactic| first | (show SqL _ _ _ _; assumption) | (show SqT _ _ _ _; assumption) | (show _ = some _; assumption))
local macro_rules | `(tactic| walk_at "side") => `(tactic| first
  | (show (0 : Int) < _; decide)
  | (show (0 : Int) < _; omega)
  | exact ⟨by decide, by decide, by decide⟩
  | exact sz_of (Nat.le_of_ble_eq_true rfl)
  | exact rfl
  | exact Or.inl (by decide)
  | exact Or.inr (by decide)
  | exact Or.inr ⟨by omega, by omega⟩
  | exact Or.inl ⟨by omega, by omega⟩
  | exact ⟨by decide, by decide +kernel⟩)
local macro_rules | `(tactic| walk_at "ev1") => `(tactic| first
  | refine ⟨_, rfl, ?_⟩
  | refine ⟨_, _, rfl, rfl, ?_⟩
  | refine ⟨_, _, _, _, rfl, rfl, (by walk_at "sq"), (by walk_at "at"), ?_⟩
  | refine ⟨_, _, rfl, (by walk_at "sq"), ?_⟩
  | refine ⟨_, _, rfl, Or.inl (by walk_at "sq"), ?_⟩
  | refine ⟨_, _, rfl, Or.inr (by walk_at "sq"), ?_⟩
  | refine Or.inl ⟨_, rfl, ?_⟩
  | refine Or.inr ⟨_, rfl, ?_⟩
  | refine ⟨(by walk_at "side"), ?_⟩
  | refine ⟨.inl ⟨rfl, _, (by walk_at "sq")⟩, ?_⟩
  | refine ⟨_, _, rfl, ?_⟩)
local macro_rules | `(tactic| walk_at "nrm") => `(tactic| dsimp only [tNil, tCons, tC, tCB])
local macro_rules | `(tactic| walk_at "ev") => `(tactic| repeat (walk_at "ev1"))

abbrev sc_arcs_of_N : List Str := ["net", "scale", "toll", "arcs", "queue", "place", "step", "other", "cost"]
abbrev s_arcs_of : Stmt := topS 4
theorem sc_arcs_of : FnScope ["net", "scale", "toll", "arcs", "queue", "place", "step", "other", "cost"] ["net", "scale", "toll"] (defScope s_arcs_of) := ⟨rfl, rfl, rfl, by decide +kernel, rfl, by decide +kernel, by decide +kernel⟩
/-! ### arcs -/
structure Arc where
  fr : Str
  to : Str
  wt : Int
  nm : Str
  al : Bool
def Arc.d (a : Arc) : PyData := .tuple [.str a.fr, .str a.to, .int a.wt, .tuple [.str a.nm, .str (if a.al = true then alS else agS)]]
def arcsQ (sc tl : Int) (q : QD) : List Arc := [⟨q.st, q.en, sc * q.room - tl, q.nm, true⟩, ⟨q.en, q.st, sc * (1 - q.gap) - tl, q.nm, false⟩]
def arcsF (sc tl : Int) (qs : List QD) : List Arc := qs.flatMap (arcsQ sc tl)
theorem arcs_next {sc tl : Int} {qs : List QD} {i : Nat} {q : QD} (h : qs[i]? = some q) : arcsF sc tl (qs.take (i + 1)) = arcsF sc tl (qs.take i) ++ arcsQ sc tl q := by
  unfold arcsF
  rw [List.take_add_one, h, List.flatMap_append]
  simp
theorem arcs_len {sc tl : Int} : ∀ {qs : List QD}, (arcsF sc tl qs).length = 2 * qs.length
  | [] => rfl
  | q :: qs => by
    have := arcs_len (sc := sc) (tl := tl) (qs := qs)
    unfold arcsF at this ⊢
    rw [List.flatMap_cons, List.length_append, this, List.length_cons]
    show 2 + 2 * qs.length = _
    omega
section
variable {P : Program} {w : World} {K : PySem.W.Frag} {mg : Str → Option Value} {base : Heap}
def spArcs (K : PySem.W.Frag) : Sp := fun vs H Q _ => ∃ (v : V) (ws : List Str) (qs : List QD) (sc tl : Int), vs = [v, .int sc, .int tl] ∧ NetV K H v ws qs ∧ (∀ q ∈ qs, q.st ≠ q.en) ∧ qs.length ≤ 1000 ∧ 0 ≤ sc ∧ sc ≤ 10 ^ 9 ∧
  ∀ H' l ys, Same H H' → H l = none → H' l = some (.lst ys) → DpAll K (cutS [l] H') ys ((arcsF sc tl qs).map Arc.d) → Q (.ref l) H'
theorem ok_arcs_of {f fS : Addr} {fd fdS : FuncData} {k : Nat} (F : Fun K "arcs_of" "arcs_of" s_arcs_of f fd)
    (G_step_over : FnOk P w K mg base CX0 k fS fdS ["queue", "place"] (spStep K)) (g_step_over : mg "step_over" = some (.ref fS)) (F_step_over : Fun K "step_over" "step_over" s_step_over fS fdS) (b_step_over : Binds K fdS ["queue", "place"] []) : FnOk P w K mg base CX0 (k + 1) f fd ["net", "scale", "toll"] (spArcs K) := by
  refine F.ok sc_arcs_of (fun vs H Q E h => ?_) (fun cdv A outer s0 H vs Q E hr h => ?_)
  · obtain ⟨v, ws, qs, sc, tl, rfl, _⟩ := h
    rfl
  · obtain ⟨v, ws, qs, sc, tl, rfl, hD, hne, hl, sc0, sc1, q⟩ := h
    refine ⟨_, (pss_cons (ps_set (i := 3) sc_arcs_of.nd rfl (Or.inl rfl) (pe_lst pa_nil)) 
    (pss_cons (ps_forX (ps_for PassesOwn.never rfl (pi_seq (pe_ix ix_lt (pv 0) pe_int (fun _ _ => rfl))) (pg_name (i := 4) sc_arcs_of.nd rfl (Or.inl rfl)) (pss_one (ps_forX (ps_for PassesOwn.never rfl (pi_tup (pe_tup (pa_cons (pe_ix ix_lt (pv 4) pe_int (fun _ _ => rfl)) (pa_cons (pe_ix ix_lt (pv 4) pe_int (fun _ _ => rfl)) pa_nil)))) (pg_name (i := 5) sc_arcs_of.nd rfl (Or.inl rfl)) 
        (pss_cons (ps_asg (pe_call G_step_over hr (by rfl) g_step_over F_step_over.kp b_step_over .nil pass0 (pa_cons (pv 4) (pa_cons (pv 5) pa_nil))) (pg_tup rfl (pgs_cons (pg_name (i := 6) sc_arcs_of.nd rfl (Or.inl rfl)) (pgs_cons (pg_name (i := 7) sc_arcs_of.nd rfl (Or.inl rfl)) (pgs_cons (pg_name (i := 8) sc_arcs_of.nd rfl (Or.inl rfl)) pgs_nil))))) 
        (pss_one (ps_expr (pe_bm PySem.F.plainAttrs_list PySem.F.slot_list_append PySem.F.type_list_append mt_append (pv 3) (pa_cons (pe_tup (pa_cons (pv 5) (pa_cons (pv 7) (pa_cons (pe_op op_sub (pe_op op_mul (pv 1) (pv 8)) (pv 2)) (pa_cons (pv 6) pa_nil))))) pa_nil)))))))))) 
    (pss_one (ps_ret (pv 3))))), ?_⟩
    obtain ⟨f0, f1, f2, f3, a0, a1, a2, xq, rfl, N0⟩ := hD
    have i1 : atI [V.ref a1, V.ref a2] 1 = some (.ref a2) := atI_nat (j := 1) rfl
    walk_at "ev"
    intro l hl0
    have N1 := N0.same (.upd (o := .lst []) hl0)
    refine for_of ?_
    refine iSeq_at (fun R' r => ⟨_, rfl, rIxF_at N1.h0 i1 r⟩) N1.h2 fun J wk => ?_
    refine forR_it wk (fun i σ Hc => ∃ (x4 x5 x6 x7 x8 : Option V) (ys : List V), σ = [some (.ref a0), some (.int sc), some (.int tl), some (.ref l), x4, x5, x6, x7, x8] ∧ Same H Hc ∧ Hc l = some (.lst ys) ∧ DpAll K (cutS [l] Hc) ys ((arcsF sc tl (qs.take i)).map Arc.d)) ⟨_, _, _, _, _, [], rfl, .upd hl0, upd_same, .nil⟩ (fun i σ Hc _ hh => ?_) (fun i v σ Hc Hc' hi hh y => ?_) (fun σ Hc hh => ?_)
    · obtain ⟨x4, x5, x6, x7, x8, ys, rfl, s1, h1, d1⟩ := hh
      exact s1.sqF N0.h2
    · obtain ⟨x4, x5, x6, x7, x8, ys, rfl, s1, h1, d1⟩ := hh
      obtain ⟨rfl, hv⟩ := y
      obtain ⟨qd, aq, hq, rfl, hs⟩ := N0.hq i v hv
      have hs1 := s1.sqF hs
      have hqn := hne qd (List.mem_of_getElem? hq)
      have xl : xq.length = qs.length := N0.ll
      refine for_of ?_
      refine ⟨_, rfl, rIxF_at hs1 (atI_nat (j := 1) rfl) ?_⟩
      refine ⟨_, rfl, rIxF_at hs1 (atI_nat (j := 2) rfl) ?_⟩
      walk_at "ev"
      intro p hp
      refine ⟨p, rfl, ⟨_, sqt_of upd_same⟩, ?_⟩
      have npl : p ≠ l := fun z => by
        rw [z, h1] at hp
        cases hp
      have s2 : Same Hc' (upd Hc' p (.tup [.str qd.st, .str qd.en])) := .upd hp
      have hp2 : SqT K (cutS [l] (upd Hc' p (.tup [.str qd.st, .str qd.en]))) p [.str qd.st, .str qd.en] := sqt_of (cutS_at upd_same (not1 npl))
      have h2 : (upd Hc' p (.tup [.str qd.st, .str qd.en])) l = some (.lst ys) := s2 _ _ h1
      have d2 : DpAll K (cutS [l] (upd Hc' p (.tup [.str qd.st, .str qd.en]))) ys ((arcsF sc tl (qs.take i)).map Arc.d) := (cutS_mono s2).dpa d1
      have s12 := s1.trans s2
      clear d1 h1 s1 hs1
      generalize upd Hc' p (.tup [.str qd.st, .str qd.en]) = H2 at s2 hp2 h2 d2 s12 ⊢
      have hn2 : cutS [l] H2 l = none := cutS_in List.mem_cons_self
      refine forR_it (walk_tup (xs := [.str qd.st, .str qd.en])) (fun j σ H3 => ∃ (x5 x6 x7 x8 : Option V) (ys : List V), σ = [some (.ref a0), some (.int sc), some (.int tl), some (.ref l), some (.ref aq), x5, x6, x7, x8] ∧ Same H H3 ∧ Same (cutS [l] H2) H3 ∧ H3 l = some (.lst ys) ∧ DpAll K (cutS [l] H3) ys ((arcsF sc tl (qs.take i) ++ (arcsQ sc tl qd).take j).map Arc.d)) ⟨_, _, _, _, _, rfl, s12, cutS_le, h2, by rw [List.take_zero, List.append_nil]; exact d2⟩ (fun j σ H3 _ hh => ?_) (fun j v σ H3 H3' hj hh y => ?_) (fun σ H3 hh => ?_)
      · obtain ⟨x5, x6, x7, x8, ys, rfl, s3, s4, h3, d3⟩ := hh
        exact s4.sqT hp2
      · obtain ⟨x5, x6, x7, x8, ys, rfl, s3, s4, h3, d3⟩ := hh
        obtain ⟨rfl, hv⟩ := y
        have hw : ∃ wn, v = .str wn ∧ (wn = qd.st ∧ j = 0 ∨ wn = qd.en ∧ j = 1) := by
          match j, hj, hv with
          | 0, _, hv => exact ⟨_, (Option.some.inj hv).symm, .inl ⟨rfl, rfl⟩⟩
          | 1, _, hv => exact ⟨_, (Option.some.inj hv).symm, .inr ⟨rfl, rfl⟩⟩
        obtain ⟨wn, rfl, hwj⟩ := hw
        have lys := dpa_len d3
        rw [List.length_map, List.length_append, arcs_len] at lys
        have l1 : (qs.take i).length ≤ 1000 := by rw [List.length_take]; omega
        have l2 : ((arcsQ sc tl qd).take j).length ≤ 2 := by rw [List.length_take]; exact Nat.min_le_right _ _
        refine ⟨_, rfl, _, rfl, ?_⟩
        refine ⟨aq, f3, qd.nm, qd.st, qd.en, qd.room, qd.gap, wn, [l], rfl, s3.sqF hs, Trk.cons Trk.nil h3, hqn, hwj.imp And.left And.left, fun H4 v s5 d5 => ?_⟩
        have h4 := s5 _ _ h3
        have d4 := (cutS_mono (S := [l]) s5).dpa d3
        obtain ⟨al, to, pr, d6, et⟩ : ∃ (al : Bool) (to : Str) (pr : Int), Dp K (cutS [l] H4) v (mvd qd.nm al to pr) ∧ (arcsQ sc tl qd).take (j + 1) = (arcsQ sc tl qd).take j ++ [⟨wn, to, sc * pr - tl, qd.nm, al⟩] := by
          rcases hwj with ⟨rfl, rfl⟩ | ⟨rfl, rfl⟩
          · rw [if_pos rfl] at d5
            exact ⟨_, _, _, d5, rfl⟩
          · rw [if_neg (Ne.symm hqn)] at d5
            exact ⟨_, _, _, d5, rfl⟩
        obtain ⟨t, xt, rfl, hts, hta⟩ := Dp.seq_of (f := true) d6
        cases hta with
        | @cons v' _ _ _ k1 hta =>
          cases hta with
          | cons k2 hta =>
            cases hta with
            | cons k3 hta =>
              cases hta
              cases k2
              cases k3
              refine ⟨t, _, rfl, cutS_le.sqT hts, rfl, _, _, rfl, _, _, rfl, _, _, rfl, rfl, ?_⟩
              have hq4 : SqL K H4 l ys := sql_of h4
              refine ⟨_, rfl, .inl ⟨rfl, _, hq4⟩, ?_⟩
              have hcm : CMul sc pr := .inl ⟨by omega, by omega⟩
              refine ⟨_, rfl, _, rfl, _, rfl, _, rfl, _, _, rfl, rfl, hcm, ?_⟩
              walk_at "ev"
              intro p2 hp2'
              refine ⟨l, ys, _, rfl, rfl, (Same.upd hp2') _ _ h4, szL (by omega), ?_⟩
              have s6 : Same H4 (upd H4 p2 (.tup [.str wn, .str to, .int (sc * pr - tl), v'])) := .upd hp2'
              refine ⟨_, _, _, _, _, rfl, ((s3.trans s5).trans s6).mut hl0, ((s4.trans s5).trans s6).mut hn2, upd_same, ?_⟩
              rw [cutS_upd List.mem_cons_self, et, ← List.append_assoc, List.map_append]
              exact dpa_app ((cutS_mono s6).dpa d4) (dpa_one (dp_tup (Trk.cons Trk.nil h4) hp2' (.cons (.str _) (.cons (.str _) (.cons (.int _) (.cons k1 .nil))))))
      · obtain ⟨x5, x6, x7, x8, ys, rfl, s3, s4, h3, d3⟩ := hh
        exact ⟨_, _, _, _, _, ys, rfl, s3, h3, by rw [arcs_next hq]; exact d3⟩
    · obtain ⟨x4, x5, x6, x7, x8, ys, rfl, s1, h1, d1⟩ := hh
      rw [show xq.length = qs.length from N0.ll, List.take_length] at d1
      walk_at "ev"
      exact q Hc l ys s1 hl0 h1 d1
end
end Jl

set_option Elab.async false
set_option linter.all false
set_option maxRecDepth 100000
set_option maxHeartbeats 1000000
set_option pp.maxSteps 300
namespace Jl
open PySem PySem.Spec PyProof.Rows L2
open Evl (sz_of sz_lt)
theorem dc_it {J : It} {n : Nat} {G : Hp → Prop} {Y : Nat → Hp → V → Hp → Prop} (w : Walk J n G Y) {g : TG} {tt : TT} {tk tv : TE} {vs : List Nat} {σ : L2.St} {H1 : Hp} {D : Addr} {Qd : Hp → Prop} (Pv : Nat → Hp → Prop) (h0 : Pv 0 (upd H1 D (.dK []))) (hG : ∀ i H, i ≤ n → Pv i H → G H)
    (hs : ∀ i x H H', i < n → Pv i H → Y i H x H' → g x (wipe σ vs) H' fun σ2 H2 => wipe σ2 vs = wipe σ vs ∧ tt σ2 H2 fun b H3 =>
      if b = true then tk σ2 H3 fun y H4 => tv σ2 H4 fun z H5 => ∃ kvs k, y = kV k ∧ H5 D = some (.dK kvs) ∧ kvs.length < sizeLine ∧ Pv (i + 1) (upd H5 D (.dK (putK kvs k z))) else Pv (i + 1) H3) (hd : ∀ H, Pv n H → Qd H) :
    ∃ W : Nat → Nat → Hp → Prop, (∃ m, W 0 m (upd H1 D (.dK []))) ∧ ∀ i m H, W i m H →
      (J.stop i H ∧ Qd H) ∨ (J.go i H ∧ ∃ Nx : Hp → Prop, (∀ H', Nx H' → ∃ m', m' < m ∧ W (i + 1) m' H') ∧ ∀ x H', J.yld i H x H' → g x (wipe σ vs) H' fun σ2 H2 => wipe σ2 vs = wipe σ vs ∧ tt σ2 H2 fun b H3 =>
        if b = true then tk σ2 H3 fun y H4 => tv σ2 H4 fun z H5 => ∃ kvs k, y = kV k ∧ H5 D = some (.dK kvs) ∧ kvs.length < sizeLine ∧ Nx (upd H5 D (.dK (putK kvs k z))) else Nx H3) := by
  refine ⟨fun i m H => m = n - i ∧ i ≤ n ∧ Pv i H, ⟨n, by simp, Nat.zero_le _, h0⟩, ?_⟩
  rintro i m H ⟨rfl, hi, p⟩
  have q := hG i H hi p
  by_cases hlt : i < n
  · refine .inr ⟨w.goes i H hlt q, Pv (i + 1), fun H' p' => ⟨n - (i + 1), by omega, rfl, hlt, p'⟩, fun x H' y => hs i x H H' hlt p (w.yields i H x H' hlt q y)⟩
  · have e : i = n := by omega
    subst e
    exact .inl ⟨w.stops H q, hd H p⟩
theorem lcw {K : PySem.W.Frag} {J : It} {g : TG} {te : TE} {tt : TT} {vs : List Nat} {σ : L2.St} {H0 : Hp} {Q : VK} {xs : List V} {G : Hp → Prop} {α : Type} (zs : List α) (f h : α → PyData) (t : α → Bool) (B : α → L2.St → Prop)
    (w : Walk J xs.length G (YAt xs)) (hG : ∀ H', Same H0 H' → G H') (ha : DpAll K H0 xs (zs.map f)) (hl : zs.length ≤ 4000000)
    (hg : ∀ (x : V) (z : α) (H1 : Hp) (R : L2.St → Hp → Prop), z ∈ zs → Same H0 H1 → Dp K H0 x (f z) → (∀ σ2, B z σ2 → wipe σ2 vs = wipe σ vs → R σ2 H1) → g x (wipe σ vs) H1 R)
    (hte : ∀ (z : α) (H1 : Hp) (σ2 : L2.St), z ∈ zs → Same H0 H1 → B z σ2 → ∀ Q' : Bool → Hp → Prop, (∀ H2, Same H1 H2 → Q' (t z) H2) → tt σ2 H1 Q')
    (he : ∀ (z : α) (H2 : Hp) (σ2 : L2.St) (T : List Addr), z ∈ zs → t z = true → Same H0 H2 → Same H0 (cutS T H2) → Trk T H2 → B z σ2 → ∀ Q' : VK, (∀ H3 u, Same H2 H3 → Dp K (cutS T H3) u (h z) → Q' u H3) → te σ2 H2 Q')
    (q : ∀ D ys H', Same H0 H' → H0 D = none → H' D = some (.lst ys) → DpAll K (cutS [D] H') ys ((zs.filter t).map h) → Q (.ref D) H') :
    ∀ D, H0 D = none → ∃ W : Nat → Nat → Hp → Prop, (∃ m, W 0 m (upd H0 D (.lst []))) ∧ ∀ i m H, W i m H →
      (J.stop i H ∧ Q (.ref D) H) ∨ (J.go i H ∧ ∃ Nx : Hp → Prop, (∀ H', Nx H' → ∃ m', m' < m ∧ W (i + 1) m' H') ∧ ∀ x H', J.yld i H x H' → g x (wipe σ vs) H' fun σ2 H2 => wipe σ2 vs = wipe σ vs ∧ tt σ2 H2 fun b H3 =>
        if b = true then te σ2 H3 fun y H4 => ∃ acc, H4 D = some (.lst acc) ∧ acc.length < sizeLine ∧ Nx (upd H4 D (.lst (acc ++ [y]))) else Nx H3) := fun D hD => by
  have ll := dpa_len ha
  rw [List.length_map] at ll
  refine lc_it w (Qd := fun H => Q (.ref D) H) (fun i H1 => ∃ ys, Same H0 H1 ∧ H1 D = some (.lst ys) ∧ DpAll K (cutS [D] H1) ys (((zs.take i).filter t).map h)) ⟨[], .upd hD, upd_same, .nil⟩ (fun i H1 _ p => ?_) (fun i x H1 H1' hi p y => ?_) (fun H1 p => ?_)
  · obtain ⟨ys, e1, _⟩ := p
    exact hG _ e1
  · obtain ⟨ys, e1, e2, e3⟩ := p
    obtain ⟨rfl, hx⟩ := y
    obtain ⟨d, hd, hxd⟩ := dpa_get ha hx
    rw [List.getElem?_map] at hd
    cases hz : zs[i]? with
    | none =>
      rw [hz] at hd
      cases hd
    | some z =>
      rw [hz] at hd
      cases hd
      have hzm := List.mem_of_getElem? hz
      refine hg x z H1' _ hzm e1 hxd fun σ2 hB hw => ⟨hw, ?_⟩
      refine hte z H1' σ2 hzm e1 hB _ fun H2 s12 => ?_
      have e2' := s12 _ _ e2
      have yl : ys.length ≤ i := by
        rw [dpa_len e3, List.length_map]
        exact Nat.le_trans (List.length_filter_le _ _) (by rw [List.length_take]; omega)
      have ht2 : zs.take (i + 1) = zs.take i ++ [z] := by rw [List.take_add_one, hz]; rfl
      by_cases hg : t z = true
      · rw [if_pos hg]
        have eT : Same H0 (cutS [D] H2) := fun a o ha => by
          rw [cutS_out (not1 (ne_of_none ha hD))]
          exact (e1.trans s12) a o ha
        refine he z H2 σ2 [D] hzm hg (e1.trans s12) eT (Trk.cons Trk.nil e2') hB _ fun H3 u s2 hy => ?_
        refine ⟨ys, s2 _ _ e2', szL (by omega), ys ++ [u], ((e1.trans s12).trans s2).mut hD, upd_same, ?_⟩
        rw [cutS_upd List.mem_cons_self, ht2, List.filter_append, show [z].filter t = [z] by simp [hg], List.map_append]
        exact dpa_app ((cutS_mono (s12.trans s2)).dpa e3) (dpa_one hy)
      · rw [if_neg hg]
        refine ⟨ys, e1.trans s12, e2', ?_⟩
        rw [ht2, List.filter_append, show [z].filter t = [] by simp [hg], List.append_nil]
        exact (cutS_mono s12).dpa e3
  · obtain ⟨ys, e1, e2, e3⟩ := p
    refine q D ys H1 e1 hD e2 ?_
    have e4 : zs.take xs.length = zs := List.take_of_length_le (by omega)
    rw [e4] at e3
    exact e3
theorem dpa_of_get {K : PySem.W.Frag} {H : Hp} : ∀ {xs : List V} {ds : List PyData}, xs.length = ds.length → (∀ (i : Nat) (v : V), xs[i]? = some v → ∃ d, ds[i]? = some d ∧ Dp K H v d) → DpAll K H xs ds
  | [], [], _, _ => .nil
  | [], _ :: _, h, _ => nomatch h
  | _ :: _, [], h, _ => nomatch h
  | x :: xs, d :: ds, h, g => .cons (by
      obtain ⟨d', h1, h2⟩ := g 0 x rfl
      cases h1
      exact h2) (dpa_of_get (by simpa using h) fun i v hv => g (i + 1) v hv)
theorem dp_row {K : PySem.W.Frag} {H : Hp} {fb : Bool} {a : Addr} {q : QD} (h : SqF fb K H a [.str q.nm, .str q.st, .str q.en, .int q.room, .int q.gap]) : Dp K H (.ref a) (q.d fb) := by
  have d : DpAll K H [V.str q.nm, .str q.st, .str q.en, .int q.room, .int q.gap] [.str q.nm, .str q.st, .str q.en, .int q.room, .int q.gap] := .cons (.str _) (.cons (.str _) (.cons (.str _) (.cons (.int _) (.cons (.int _) .nil))))
  cases fb with
  | false => exact .lst h d
  | true => exact .tup h d
theorem net_all {K : PySem.W.Frag} {H : Hp} {fb : Bool} {a0 a1 a2 : Addr} {ws : List Str} {qs : List QD} {xq : List V} (N : NetAt K H fb a0 a1 a2 ws qs xq) : DpAll K H xq (qs.map (QD.d fb)) := dpa_of_get (by rw [List.length_map]; exact N.ll) fun i v hv => by
  obtain ⟨q, a, h1, rfl, h2⟩ := N.hq i v hv
  exact ⟨q.d fb, by rw [List.getElem?_map, h1]; rfl, dp_row h2⟩
theorem dp_q {K : PySem.W.Frag} {H : Hp} {v : V} {fb : Bool} {q : QD} (h : Dp K H v (q.d fb)) : ∃ a, v = .ref a ∧ SqF fb K H a [.str q.nm, .str q.st, .str q.en, .int q.room, .int q.gap] := by
  obtain ⟨a, x, rfl, g1, g2⟩ := Dp.seq_of h
  cases g2 with
  | cons c1 g2 =>
    cases g2 with
    | cons c2 g2 =>
      cases g2 with
      | cons c3 g2 =>
        cases g2 with
        | cons c4 g2 =>
          cases g2 with
          | cons c5 g2 =>
            cases g2
            cases c1
            cases c2
            cases c3
            cases c4
            cases c5
            exact ⟨a, rfl, g1⟩
theorem flat_strs : ∀ {xs : List Str}, (xs.map V.str).all flatV = true
  | [] => rfl
  | x :: xs => by
    rw [List.map_cons, List.all_cons, flat_strs]
    rfl
end Jl

set_option Elab.async false
set_option linter.all false
set_option maxRecDepth 100000
set_option maxHeartbeats 1000000
set_option pp.maxSteps 300
namespace Jl
open PySem PySem.Spec PyProof.Rows L2
open Evl (sz_of sz_lt)
local macro_rules | `(tactic| walk_at "at") => `(tactic| first | exact box0 | exact box1 | exact box2)
local macro_rules | `(tactic| walk_at "sq") => `(tactic| first | (show SqL _ _ _ _; assumption) | (show SqT _ _ _ _; assumption) | (show _ = some _; assumption))
local macro_rules | `(tactic| walk_at "side") => `(tactic| first
  | (show (0 : Int) < _; decide)
  | (show (0 : Int) < _; omega)
  | exact ⟨by decide, by decide, by decide⟩
  | exact sz_of (Nat.le_of_ble_eq_true rfl)
  | exact rfl
  | exact Or.inl (by decide)
  | exact Or.inr (by decide)
  | exact Or.inr ⟨by omega, by omega⟩
  | exact Or.inl ⟨by omega, by omega⟩
  | exact ⟨by decide, by decide +kernel⟩)
local macro_rules | `(tactic| walk_at "ev1") => `(tactic| first
  | refine ⟨_, rfl, ?_⟩
  | refine ⟨_, _, rfl, rfl, ?_⟩
  | refine ⟨_, _, _, _, rfl, rfl, (by walk_at "sq"), (by walk_at "at"), ?_⟩
  | refine ⟨_, _, rfl, (by walk_at "sq"), ?_⟩
  | refine ⟨_, _, rfl, Or.inl (by walk_at "sq"), ?_⟩
  | refine ⟨_, _, rfl, Or.inr (by walk_at "sq"), ?_⟩
  | refine Or.inl ⟨_, rfl, ?_⟩
  | refine Or.inr ⟨_, rfl, ?_⟩
  | refine ⟨(by walk_at "side"), ?_⟩
  | refine ⟨.inl ⟨rfl, _, (by walk_at "sq")⟩, ?_⟩
  | refine ⟨_, _, rfl, ?_⟩)
local macro_rules | `(tactic| walk_at "nrm") => `(tactic| dsimp only [tNil, tCons, tC, tCB])
local macro_rules | `(tactic| walk_at "ev") => `(tactic| repeat (walk_at "ev1"))

abbrev sc_least_sums_N : List Str := ["arcs", "first", "sums", "last", "lowered", "_", "arc", "total", "node"]
abbrev s_least_sums : Stmt := topS 5
theorem sc_least_sums : FnScope ["arcs", "first", "sums", "last", "lowered", "_", "arc", "total", "node"] ["arcs", "first"] (defScope s_least_sums) := ⟨rfl, rfl, rfl, by decide +kernel, rfl, by decide +kernel, by decide +kernel⟩
/-! ### dicts of texts -/
def lk {α : Type} : List (Str × α) → Str → Option α
  | [], _ => none
  | p :: m, k => if p.1 = k then some p.2 else lk m k
def putM {α : Type} (m : List (Str × α)) (k : Str) (v : α) : List (Str × α) := if (lk m k).isSome = true then m.map fun p => if p.1 = k then (p.1, v) else p else m ++ [(k, v)]
def kvM {α : Type} (f : α → V) (m : List (Str × α)) : List (Key × V) := m.map fun p => ((.inr p.1 : Key), f p.2)
theorem val_kvM {α : Type} {f : α → V} {k : Str} : ∀ {m : List (Str × α)}, valV (kvM f m) (.inr k) = (lk m k).map f
  | [] => rfl
  | p :: m => by
    unfold lk
    by_cases e : p.1 = k
    · rw [if_pos e, kvM, List.map_cons, valV_pos (show (Sum.inr p.1 : Key) = .inr k by rw [e])]
      rfl
    · rw [if_neg e, kvM, List.map_cons, valV_neg (fun z => e (Sum.inr.inj z))]
      exact val_kvM
theorem put_kvM {α : Type} {f : α → V} {m : List (Str × α)} {k : Str} {v : α} : putK (kvM f m) (.inr k) (f v) = kvM f (putM m k v) := by
  unfold putK putM
  rw [valV_any, val_kvM, Option.isSome_map]
  by_cases h : (lk m k).isSome = true
  · rw [if_pos h, if_pos h]
    unfold kvM
    rw [List.map_map, List.map_map]
    apply List.map_congr_left
    intro p _
    show (if (Sum.inr p.1 : Key) = .inr k then ((Sum.inr p.1 : Key), f v) else (.inr p.1, f p.2)) = ((.inr (if p.1 = k then (p.1, v) else p).1 : Key), f (if p.1 = k then (p.1, v) else p).2)
    by_cases e : p.1 = k
    · rw [if_pos (by rw [e]), if_pos e]
    · rw [if_neg (fun z => e (Sum.inr.inj z)), if_neg e]
  · rw [if_neg h, if_neg h]
    unfold kvM
    rw [List.map_append]
    rfl
theorem putM_len {α : Type} {m : List (Str × α)} {k : Str} {v : α} : (putM m k v).length ≤ m.length + 1 := by
  unfold putM
  split
  · rw [List.length_map]
    omega
  · rw [List.length_append]
    exact Nat.le_refl _
theorem kvM_len {α : Type} {f : α → V} {m : List (Str × α)} : (kvM f m).length = m.length := List.length_map ..
theorem lk_none {α : Type} {k : Str} : ∀ {m : List (Str × α)}, k ∉ m.map (·.1) → lk m k = none
  | [], _ => rfl
  | p :: m, h => by
    unfold lk
    rw [if_neg fun e => h (by rw [← e]; exact List.mem_cons_self)]
    exact lk_none fun z => h (List.mem_cons_of_mem _ z)
theorem lk_mem {α : Type} {p : Str × α} : ∀ {m : List (Str × α)}, (m.map (·.1)).Nodup → p ∈ m → lk m p.1 = some p.2
  | q :: m, hn, h => by
    unfold lk
    rw [List.map_cons, List.nodup_cons] at hn
    rcases List.mem_cons.mp h with h | h
    · rw [if_pos (by rw [h]), h]
    · rw [if_neg fun e => hn.1 (by rw [e]; exact List.mem_map.mpr ⟨p, h, rfl⟩)]
      exact lk_mem hn.2 h
/-! ### least sums -/
structure LS where
  sums : List (Str × Int)
  last : List (Str × Nat)
  low : Option Str
def better (s : LS) (a : Arc) (x : Int) : Bool := match lk s.sums a.to with
  | none => true
  | some y => decide (x < y)
def relaxA (as : List Arc) (s : LS) (i : Nat) : LS := match as[i]? with
  | none => s
  | some a => match lk s.sums a.fr with
    | none => s
    | some x => if better s a (x + a.wt) = true then ⟨putM s.sums a.to (x + a.wt), putM s.last a.to i, some a.to⟩ else s
def roundN (as : List Arc) (s : LS) (n : Nat) : LS := (List.range n).foldl (relaxA as) { s with low := none }
def turns (as : List Arc) : Nat → LS → LS
  | 0, s => s
  | n + 1, s => if (roundN as s as.length).low = none then roundN as s as.length else turns as n (roundN as s as.length)
def leastN (as : List Arc) (f0 : List (Str × Int)) : Nat := (dedS (f0.map (·.1) ++ as.map (·.to))).length
def leastF (as : List Arc) (f0 : List (Str × Int)) : LS := turns as (leastN as f0) ⟨f0, [], none⟩
theorem round_next {as : List Arc} {s : LS} {n : Nat} : roundN as s (n + 1) = relaxA as (roundN as s n) n := by
  unfold roundN
  rw [List.range_succ, List.foldl_append]
  rfl
theorem relaxA_none {as : List Arc} {s : LS} {i : Nat} {a : Arc} (h : as[i]? = some a) (h2 : lk s.sums a.fr = none) : relaxA as s i = s := by
  unfold relaxA
  rw [h]
  dsimp only
  rw [h2]
theorem relaxA_yes {as : List Arc} {s : LS} {i : Nat} {a : Arc} {x : Int} (h : as[i]? = some a) (h2 : lk s.sums a.fr = some x) (h3 : better s a (x + a.wt) = true) : relaxA as s i = ⟨putM s.sums a.to (x + a.wt), putM s.last a.to i, some a.to⟩ := by
  unfold relaxA
  rw [h]
  dsimp only
  rw [h2]
  dsimp only
  rw [if_pos h3]
theorem relaxA_no {as : List Arc} {s : LS} {i : Nat} {a : Arc} {x : Int} (h : as[i]? = some a) (h2 : lk s.sums a.fr = some x) (h3 : better s a (x + a.wt) = false) : relaxA as s i = s := by
  unfold relaxA
  rw [h]
  dsimp only
  rw [h2]
  dsimp only
  rw [h3]
  rfl
theorem relaxA_len {as : List Arc} {s : LS} {i : Nat} : (relaxA as s i).sums.length ≤ s.sums.length + 1 ∧ (relaxA as s i).last.length ≤ s.last.length + 1 := by
  unfold relaxA
  split
  · exact ⟨by omega, by omega⟩
  · split
    · exact ⟨by omega, by omega⟩
    · split
      · exact ⟨putM_len, putM_len⟩
      · exact ⟨by omega, by omega⟩
theorem round_len {as : List Arc} {s : LS} : ∀ {n : Nat}, (roundN as s n).sums.length ≤ s.sums.length + n ∧ (roundN as s n).last.length ≤ s.last.length + n
  | 0 => ⟨Nat.le_refl _, Nat.le_refl _⟩
  | n + 1 => by
    rw [round_next]
    have h1 := relaxA_len (as := as) (s := roundN as s n) (i := n)
    have h2 := round_len (as := as) (s := s) (n := n)
    exact ⟨by omega, by omega⟩
def lowV : Option Str → V
  | none => .non
  | some x => .str x
theorem lowV_non {o : Option Str} : decide (lowV o = .non) = decide (o = none) := by
  cases o with
  | none => rfl
  | some x => rw [decide_eq_false (by intro z; cases z), decide_eq_false (by intro z; cases z)]
theorem arc_row {K : PySem.W.Frag} {H : Hp} {v : V} {a : Arc} (h : Dp K H v a.d) : ∃ t v4, v = .ref t ∧ SqT K H t [.str a.fr, .str a.to, .int a.wt, v4] := by
  have h' : Dp K H v (seqD true [.str a.fr, .str a.to, .int a.wt, .tuple [.str a.nm, .str (if a.al = true then alS else agS)]]) := h
  obtain ⟨t, xt, rfl, hts, hta⟩ := Dp.seq_of h'
  cases hta with
  | cons k1 hta =>
    cases hta with
    | cons k2 hta =>
      cases hta with
      | cons k3 hta =>
        cases hta with
        | cons k4 hta =>
          cases hta
          cases k1
          cases k2
          cases k3
          exact ⟨t, _, rfl, hts⟩
section
variable {P : Program} {w : World} {K : PySem.W.Frag} {mg : Str → Option Value} {base : Heap}
def spLeast (K : PySem.W.Frag) : Sp := fun vs H Q _ => ∃ (la fa : Addr) (ys : List V) (as : List Arc) (f0 : List (Str × Int)), vs = [.ref la, .ref fa] ∧ SqL K H la ys ∧ DpAll K H ys (as.map Arc.d) ∧ H fa = some (.dK (kvM V.int f0)) ∧ (f0.map (·.1)).Nodup ∧ f0.length ≤ 1000 ∧ as.length ≤ 1000 ∧
  ∀ H' p S L, Same H H' → H p = none → H S = none → H L = none → H' p = some (.tup [.ref S, .ref L, lowV (leastF as f0).low]) → H' S = some (.dK (kvM V.int (leastF as f0).sums)) → H' L = some (.dK (kvM (fun i => ys.getD i .non) (leastF as f0).last)) → Q (.ref p) H'
theorem ok_least_sums {f : Addr} {fd : FuncData} {k : Nat} (F : Fun K "least_sums" "least_sums" s_least_sums f fd) (m_len : mg "len" = none) (m_set : mg "set" = none) (m_list : mg "list" = none) (m_range : mg "range" = none) : FnOk P w K mg base CX0 (k + 1) f fd ["arcs", "first"] (spLeast K) := by
  refine F.ok sc_least_sums (fun vs H Q E h => ?_) (fun cdv A outer s0 H vs Q E hr h => ?_)
  · obtain ⟨la, fa, ys, as, f0, rfl, _⟩ := h
    rfl
  · obtain ⟨la, fa, ys, as, f0, rfl, hla, hda, hfa, hnd, hf1, ha1, q⟩ := h
    have hu := hu_of hr
    refine ⟨_, (pss_cons (ps_lock (ps_setDcX (ps_setDc (i := 2) (own := [("node", 8)]) (g := gName 8) (tt := tYes) rfl sc_least_sums.nd rfl rfl (swd_true rfl rfl rfl (by decide +kernel)) (pi_keys (pv 1)) (blkOk_by (own := [("node", 8)]) (N := sc_least_sums_N) (sc := defScope s_least_sums) (by decide +kernel)) (fun _ _ _ _ _ => pg_name (i := 8) sc_least_sums.nd rfl (Or.inl rfl)) (fun _ _ _ _ _ => pts_nil) (fun _ _ _ _ _ => (pv 8)) (fun _ _ _ _ _ => (pe_dget hu (pv 1) (pv 8) (fun _ _ => rfl)))))) 
    (pss_cons (ps_set (i := 3) sc_least_sums.nd rfl (Or.inl rfl) pe_dnewK) 
    (pss_cons (ps_set (i := 4) sc_least_sums.nd rfl (Or.inl rfl) pe_non) 
    (pss_cons (ps_forX (ps_for PassesOwn.never rfl (pi_range1 (by rfl) m_range (pa_cons (pe_lenSetD (by rfl) m_len (by rfl) m_set (pe_op op_cat (pe_callTy (call_listD rfl) (by rfl) m_list (by decide +kernel) (pa_cons (pv 1) pa_nil)) (pe_lcX (pe_lc (own := [("arc", 6)]) (g := gName 6) (tt := tYes) (te := tOp (rIxF K) (tVar 6) (tC (.int 1))) (by rfl) sc_least_sums.nd (pi_seq (pv 0)) (blkOk_by (own := [("arc", 6)]) (N := sc_least_sums_N) (sc := defScope s_least_sums) (by decide +kernel)) (fun _ _ _ _ _ => pg_name (i := 6) sc_least_sums.nd rfl (Or.inl rfl)) (fun _ _ _ _ _ => pts_nil) (fun _ _ _ _ _ => (pe_ix ix_lt (pv 6) pe_int (fun _ _ => rfl))))))) pa_nil)) (pg_name (i := 5) sc_least_sums.nd rfl (Or.inl rfl)) 
      (pss_cons (ps_set (i := 4) sc_least_sums.nd rfl (Or.inl rfl) pe_non) 
      (pss_cons (ps_forX (ps_for PassesOwn.never rfl (pi_seq (pv 0)) (pg_name (i := 6) sc_least_sums.nd rfl (Or.inl rfl)) (pss_one (ps_if (pt_cmp (pc_din hu (pe_ix ix_lt (pv 6) pe_int (fun _ _ => rfl)) (pv 2))) 
          (pss_cons (ps_set (i := 7) sc_least_sums.nd rfl (Or.inl rfl) (pe_op op_add (pe_dget hu (pv 2) (pe_ix ix_lt (pv 6) pe_int (fun _ _ => rfl)) (fun _ _ => rfl)) (pe_ix ix_lt (pv 6) pe_int (fun _ _ => rfl)))) 
          (pss_one (ps_if (PW.pt (pw_or (pt_cmp (pc_dnotin hu (pe_ix ix_lt (pv 6) pe_int (fun _ _ => rfl)) (pv 2))) (pw_or1 (pt_cmpR op_lt (pv 7) (pe_dget hu (pv 2) (pe_ix ix_lt (pv 6) pe_int (fun _ _ => rfl)) (fun _ _ => rfl)) (nomark _))))) 
            (pss_cons (ps_dput hu (pv 2) (pe_ix ix_lt (pv 6) pe_int (fun _ _ => rfl)) (pv 7) rfl) 
            (pss_cons (ps_dput hu (pv 3) (pe_ix ix_lt (pv 6) pe_int (fun _ _ => rfl)) (pv 6) rfl) 
            (pss_one (ps_set (i := 4) sc_least_sums.nd rfl (Or.inl rfl) (pe_ix ix_lt (pv 6) pe_int (fun _ _ => rfl)))))) pss_nil))) pss_nil)))) 
      (pss_one (ps_if (pt_cmpR op_isN (pv 4) pe_non (nomark _)) (pss_one (ps_ret (pe_tup (pa_cons (pv 2) (pa_cons (pv 3) (pa_cons pe_non pa_nil)))))) pss_nil)))))) 
    (pss_one (ps_ret (pe_tup (pa_cons (pv 2) (pa_cons (pv 3) (pa_cons (pv 4) pa_nil)))))))))), ?_⟩
    refine ⟨fa, .dK (kvM V.int f0), hfa, trivial, fun od => ?_⟩
    have hF3 : (upd H fa (.frz od (.dK (kvM V.int f0)))) fa = some (.frz od (.dK (kvM V.int f0))) := upd_same
    have back : ∀ H4, Same (upd H fa (.frz od (.dK (kvM V.int f0)))) H4 → Same H (upd H4 fa (.dK (kvM V.int f0))) := fun H4 s4 a o ha => by
      by_cases ea : a = fa
      · rw [ea, upd_same, ← hfa, ← ea]
        exact ha
      · rw [upd_ne ea]
        refine s4 _ _ ?_
        rw [upd_ne ea]
        exact ha
    have free : ∀ a, (upd H fa (.frz od (.dK (kvM V.int f0)))) a = none → H a = none := fun a ha => by
      by_cases ea : a = fa
      · rw [ea, upd_same] at ha
        cases ha
      · rw [upd_ne ea] at ha
        exact ha
    generalize upd H fa (.frz od (.dK (kvM V.int f0))) = H3 at hF3 back free ⊢
    refine dc_of ?_
    refine ⟨_, rfl, fa, od, rfl, .inl ⟨kvM V.int f0, hF3, fun D2 hD2 => ?_⟩⟩
    refine dc_it walk_keys (fun i H' => Same H3 H' ∧ H' D2 = some (.dK (kvM V.int (f0.take i)))) ⟨.upd hD2, upd_same⟩ (fun i H' _ p => p.1 _ _ hF3) (fun i x H1 H1' hi p y => ?_) (fun H4 p => ?_)
    · obtain ⟨s1, h1⟩ := p
      obtain ⟨rfl, k1, v1, hk, rfl⟩ := y
      unfold kvM at hk
      rw [List.getElem?_map] at hk
      cases hz : f0[i]? with
      | none =>
        rw [hz] at hk
        cases hk
      | some z =>
        rw [hz] at hk
        cases hk
        have ht : f0.take (i + 1) = f0.take i ++ [z] := by rw [List.take_add_one, hz]; rfl
        have hno : z.1 ∉ (f0.take i).map (·.1) := fun hz2 => by
          rw [List.map_take] at hz2
          obtain ⟨k, hk1, hk2⟩ := List.mem_take_iff_getElem.mp hz2
          rw [List.length_map] at hk1
          have := nd_ix hnd (x := z.1) (by rw [List.getElem?_map, hz]; rfl) (by rw [List.getElem?_eq_getElem (show k < (f0.map (·.1)).length by rw [List.length_map]; omega)]; exact congrArg some hk2)
          omega
        have lti : i < f0.length := by
          rw [kvM_len] at hi
          exact hi
        refine ⟨rfl, ?_⟩
        dsimp only [tYes]
        refine iteT ?_
        refine ⟨_, rfl, ?_⟩
        have g1 : DGet H1' fa (kV (.inr z.1)) (some (.int z.2)) := .inl ⟨_, .inr z.1, .inr ⟨od, s1 _ _ hF3⟩, rfl, by rw [val_kvM, lk_mem hnd (List.mem_of_getElem? hz)]; rfl⟩
        refine ⟨_, rfl, _, rfl, fa, _, rfl, g1, ?_⟩
        refine ⟨_, .inr z.1, rfl, h1, by rw [kvM_len, List.length_take]; exact szL (by omega), s1.mut hD2, ?_⟩
        rw [upd_same, put_kvM (f := V.int), ht]
        unfold putM
        rw [lk_none hno]
        rfl
    · obtain ⟨s4, h4⟩ := p
      rw [kvM_len, List.take_length] at h4
      have nD2 : D2 ≠ fa := fun z => by
        rw [z, hF3] at hD2
        cases hD2
      refine ⟨s4 _ _ hF3, ?_⟩
      have sa := back _ s4
      have hS0 := free _ hD2
      have hS1 : (upd H4 fa (.dK (kvM V.int f0))) D2 = some (.dK (kvM V.int f0)) := by
        rw [upd_ne nD2]
        exact h4
      clear s4 h4
      generalize upd H4 fa (.dK (kvM V.int f0)) = H5 at sa hS1 ⊢
      clear hD2 nD2 back free hF3
      intro L hL5
      have hL0 := sa.free hL5
      have nSL : D2 ≠ L := fun z => by
        rw [z, hL5] at hS1
        cases hS1
      have sb := sa.trans (.upd (o := .dK []) hL5)
      have hS2 := (Same.upd (o := .dK []) hL5) _ _ hS1
      have hL2 : (upd H5 L (.dK [])) L = some (.dK (kvM (fun i => ys.getD i .non) [])) := upd_same
      generalize upd H5 L (.dK []) = H6 at sb hS2 hL2 ⊢
      clear sa hS1 hL5
      walk_at "ev"
      refine for_of ?_
      refine ⟨_, rfl, fa, kvM V.int f0, rfl, .inl (sb _ _ hfa), fun p hp => ?_⟩
      have ek : (kvM V.int f0).map (fun kv => kV kv.1) = (f0.map (·.1)).map V.str := by
        unfold kvM
        rw [List.map_map, List.map_map]
        rfl
      rw [ek]
      have s7 : Same H6 (upd H6 p (.lst ((f0.map (·.1)).map V.str))) := .upd hp
      have hp7 : (upd H6 p (.lst ((f0.map (·.1)).map V.str))) p = some (.lst ((f0.map (·.1)).map V.str)) := upd_same
      generalize upd H6 p (.lst ((f0.map (·.1)).map V.str)) = H7 at s7 hp7 ⊢
      have sb7 := sb.trans s7
      refine lc_of ?_
      refine iSeq_at (f := false) (fun R' r => ⟨_, rfl, r⟩) (sb7.sqL hla) fun J w => ?_
      refine lcw (K := K) (Q := fun y H2 => rCat (.ref p) y H2 _) as Arc.d (fun a => .str a.to) (fun _ => true) (fun z σ2 => ∃ t v4, σ2 = [some (.ref la), some (.ref fa), some (.ref D2), some (.ref L), some .non, none, some (.ref t), none, none] ∧ SqT K H7 t [.str z.fr, .str z.to, .int z.wt, v4]) w (fun H' e => (sb7.trans e).sqL hla) (sb7.dpa hda) (by omega) (fun x z H1 R hz e1 hx r => ?_) (fun z H1 σ2 hz e1 hB Q' q' => ?_) (fun z H3 σ2 T hz _ e1 eT tr hB Q' q' => ?_) (fun D3 us H8 s8 hn8 h8 d8 => ?_)
      · obtain ⟨t, v4, rfl, hs⟩ := arc_row hx
        exact r _ ⟨t, v4, rfl, hs⟩ rfl
      · exact q' H1 fun _ _ e => e
      · obtain ⟨t, v4, rfl, hs⟩ := hB
        exact ⟨_, rfl, rIxF_at (f := true) (e1.sqT hs) (atI_nat (j := 1) rfl) (q' H3 _ (fun _ _ e => e) (.str _))⟩
      · have d9 : DpAll K (cutS [D3] H8) us ((as.map (·.to)).map PyData.str) := by
          rw [List.filter_eq_self.mpr fun _ _ => rfl] at d8
          rw [List.map_map]
          exact d8
        have e := dpa_strs_of d9
        subst e
        refine ⟨p, D3, _, _, rfl, rfl, s8 _ _ hp7, h8, by rw [List.length_map, List.length_map, List.length_map, List.length_map]; exact Nat.le_of_lt (szL (by omega)), fun l hl => ?_⟩
        have hlen : (f0.map (·.1) ++ as.map (·.to)).length ≤ 2000 := by
          rw [List.length_append, List.length_map, List.length_map]
          omega
        have hle : leastN as f0 ≤ 2000 := Nat.le_trans (dedS_len _) hlen
        refine ⟨l, f0.map (·.1) ++ as.map (·.to), rfl, by rw [List.map_append]; exact sql_of upd_same, by omega, ?_⟩
        have s9 : Same H6 (upd H8 l (.lst ((f0.map (·.1)).map V.str ++ (as.map (·.to)).map V.str))) := (s7.trans s8).trans (.upd hl)
        have sb9 := sb.trans s9
        have hS9 := s9 _ _ hS2
        have hL9 := s9 _ _ hL2
        generalize upd H8 l (.lst ((f0.map (·.1)).map V.str ++ (as.map (·.to)).map V.str)) = H9 at sb9 hS9 hL9 ⊢
        clear d8 d9 h8 hn8 s8 hp7 s7 sb7 hS2 hL2 hl hp s9 sb
        refine ⟨_, rfl, ?_, ?_, ?_⟩
        · show -(2 ^ 62) ≤ ((leastN as f0 : Nat) : Int)
          omega
        · show ((leastN as f0 : Nat) : Int) < 2 ^ 62
          omega
        rw [Int.toNat_natCast]
        refine forR_it (walk_range (lo := 0) (n := leastN as f0)) (fun j σ Hc => ∃ (x5 x6 x7 : Option V) (s : LS), σ = [some (.ref la), some (.ref fa), some (.ref D2), some (.ref L), some (lowV s.low), x5, x6, x7, none] ∧ Same H Hc ∧ Hc D2 = some (.dK (kvM V.int s.sums)) ∧ Hc L = some (.dK (kvM (fun i => ys.getD i .non) s.last)) ∧ turns as (leastN as f0 - j) s = leastF as f0 ∧ s.sums.length ≤ 1000 + j * 1000 ∧ s.last.length ≤ j * 1000) ⟨_, _, _, ⟨f0, [], none⟩, rfl, sb9, hS9, hL9, rfl, by show f0.length ≤ _; omega, Nat.zero_le _⟩ (fun _ _ _ _ _ => trivial) (fun j x σ Hc Hc' hj hh y => ?_) (fun σ Hc hh => ?_)
        · obtain ⟨x5, x6, x7, s, rfl, sc, hSc, hLc, ht, ls1, ls2⟩ := hh
          obtain ⟨rfl, rfl⟩ := y
          walk_at "ev"
          refine for_of ?_
          refine iSeq_at (f := false) (fun R' r => ⟨_, rfl, r⟩) (sc.sqL hla) fun J w => ?_
          have lys : ys.length = as.length := by
            have := dpa_len hda
            rwa [List.length_map] at this
          refine forR_it w (fun i σ Hd => ∃ (x6 x7 : Option V), σ = [some (.ref la), some (.ref fa), some (.ref D2), some (.ref L), some (lowV (roundN as s i).low), some (.int (0 + (j : Nat))), x6, x7, none] ∧ Same H Hd ∧ Hd D2 = some (.dK (kvM V.int (roundN as s i).sums)) ∧ Hd L = some (.dK (kvM (fun i => ys.getD i .non) (roundN as s i).last))) ⟨_, _, rfl, sc, hSc, hLc⟩ (fun i σ Hd _ hh => ?_) (fun i v σ Hd Hd' hi hh y => ?_) (fun σ Hd hh => ?_)
          · obtain ⟨x6, x7, rfl, sd, hSd, hLd⟩ := hh
            exact sd.sqL hla
          · obtain ⟨x6, x7, rfl, sd, hSd, hLd⟩ := hh
            obtain ⟨rfl, hx⟩ := y
            obtain ⟨d, hd, hxd⟩ := dpa_get hda hx
            rw [List.getElem?_map] at hd
            cases ha : as[i]? with
            | none =>
              rw [ha] at hd
              cases hd
            | some a =>
              rw [ha] at hd
              cases hd
              obtain ⟨t, v4, rfl, hs⟩ := arc_row hxd
              have hs' := sd.sqT hs
              have bl := round_len (as := as) (s := s) (n := i)
              rw [round_next]
              generalize roundN as s i = r at hSd hLd bl ⊢
              refine ⟨_, rfl, rIxF_at (f := true) hs' (atI_nat (j := 0) rfl) ?_⟩
              refine ⟨_, rfl, D2, _, rfl, DGet.k (k := .inr a.fr) hSd, ?_⟩
              rw [val_kvM, Option.isSome_map]
              refine ⟨_, rfl, ?_⟩
              cases hfr : lk r.sums a.fr with
              | none =>
                refine iteF ?_
                rw [relaxA_none ha hfr]
                exact ⟨_, _, rfl, sd, hSd, hLd⟩
              | some x =>
                have dg : DGet Hd' D2 (.str a.fr) (some (.int x)) := by
                  have := DGet.k (k := .inr a.fr) hSd
                  rw [val_kvM, hfr] at this
                  exact this
                refine iteT ?_
                refine ⟨_, rfl, _, rfl, rIxF_at (f := true) hs' (atI_nat (j := 0) rfl) ⟨D2, _, rfl, dg, ?_⟩⟩
                refine ⟨_, rfl, rIxF_at (f := true) hs' (atI_nat (j := 2) rfl) ⟨_, _, rfl, rfl, ?_⟩⟩
                refine ⟨_, rfl, rIxF_at (f := true) hs' (atI_nat (j := 1) rfl) ⟨_, rfl, D2, _, rfl, DGet.k (k := .inr a.to) hSd, ?_⟩⟩
                rw [val_kvM, Option.isSome_map]
                refine ⟨_, rfl, ?_⟩
                cases hto : lk r.sums a.to with
                | none =>
                  have hb : better r a (x + a.wt) = true := by
                    unfold better
                    rw [hto]
                  refine iteT ?_
                  refine iteT ?_
                  rw [relaxA_yes ha hfr hb]
                  refine ⟨_, rfl, _, rfl, _, rfl, rIxF_at (f := true) hs' (atI_nat (j := 1) rfl) ⟨D2, _, rfl, DPut.k (k := .inr a.to) hSd (by rw [kvM_len]; exact szL (by omega)), ?_⟩⟩
                  rw [put_kvM (f := V.int)]
                  have u1 : Same H (upd Hd' D2 (.dK (kvM V.int (putM r.sums a.to (x + a.wt))))) := sd.mut hS0
                  have hS' : (upd Hd' D2 (.dK (kvM V.int (putM r.sums a.to (x + a.wt))))) D2 = some (.dK (kvM V.int (putM r.sums a.to (x + a.wt)))) := upd_same
                  have hL' : (upd Hd' D2 (.dK (kvM V.int (putM r.sums a.to (x + a.wt))))) L = some (.dK (kvM (fun i => ys.getD i .non) r.last)) := by
                    rw [upd_ne nSL.symm]
                    exact hLd
                  generalize upd Hd' D2 (.dK (kvM V.int (putM r.sums a.to (x + a.wt)))) = H1 at u1 hS' hL' ⊢
                  refine ⟨_, rfl, _, rfl, _, rfl, rIxF_at (f := true) (u1.sqT hs) (atI_nat (j := 1) rfl) ⟨L, _, rfl, DPut.k (k := .inr a.to) hL' (by rw [kvM_len]; exact szL (by omega)), ?_⟩⟩
                  have ep := put_kvM (f := fun i => ys.getD i V.non) (m := r.last) (k := a.to) (v := i)
                  rw [show ys.getD i V.non = V.ref t by rw [List.getD_eq_getElem?_getD, hx]; rfl] at ep
                  rw [ep]
                  have u2 := u1.mut (o := .dK (kvM (fun i => ys.getD i V.non) (putM r.last a.to i))) hL0
                  refine ⟨_, rfl, rIxF_at (f := true) (u2.sqT hs) (atI_nat (j := 1) rfl) ?_⟩
                  exact ⟨_, _, rfl, u2, by rw [upd_ne nSL]; exact hS', upd_same⟩
                | some y =>
                  refine iteF ?_
                  have dg2 : DGet Hd' D2 (.str a.to) (some (.int y)) := by
                    have := DGet.k (k := .inr a.to) hSd
                    rw [val_kvM, hto] at this
                    exact this
                  refine ⟨_, rfl, _, rfl, _, rfl, rIxF_at (f := true) hs' (atI_nat (j := 1) rfl) ⟨D2, _, rfl, dg2, _, _, rfl, rfl, ?_⟩⟩
                  refine ⟨_, rfl, ?_⟩
                  have hb0 : better r a (x + a.wt) = decide (x + a.wt < y) := by
                    unfold better
                    rw [hto]
                  by_cases hlt : x + a.wt < y
                  · have hb : better r a (x + a.wt) = true := by rw [hb0, decide_eq_true hlt]
                    rw [decide_eq_true hlt]
                    refine iteT ?_
                    rw [relaxA_yes ha hfr hb]
                    refine ⟨_, rfl, _, rfl, _, rfl, rIxF_at (f := true) hs' (atI_nat (j := 1) rfl) ⟨D2, _, rfl, DPut.k (k := .inr a.to) hSd (by rw [kvM_len]; exact szL (by omega)), ?_⟩⟩
                    rw [put_kvM (f := V.int)]
                    have u1 : Same H (upd Hd' D2 (.dK (kvM V.int (putM r.sums a.to (x + a.wt))))) := sd.mut hS0
                    have hS' : (upd Hd' D2 (.dK (kvM V.int (putM r.sums a.to (x + a.wt))))) D2 = some (.dK (kvM V.int (putM r.sums a.to (x + a.wt)))) := upd_same
                    have hL' : (upd Hd' D2 (.dK (kvM V.int (putM r.sums a.to (x + a.wt))))) L = some (.dK (kvM (fun i => ys.getD i .non) r.last)) := by
                      rw [upd_ne nSL.symm]
                      exact hLd
                    generalize upd Hd' D2 (.dK (kvM V.int (putM r.sums a.to (x + a.wt)))) = H1 at u1 hS' hL' ⊢
                    refine ⟨_, rfl, _, rfl, _, rfl, rIxF_at (f := true) (u1.sqT hs) (atI_nat (j := 1) rfl) ⟨L, _, rfl, DPut.k (k := .inr a.to) hL' (by rw [kvM_len]; exact szL (by omega)), ?_⟩⟩
                    have ep := put_kvM (f := fun i => ys.getD i V.non) (m := r.last) (k := a.to) (v := i)
                    rw [show ys.getD i V.non = V.ref t by rw [List.getD_eq_getElem?_getD, hx]; rfl] at ep
                    rw [ep]
                    have u2 := u1.mut (o := .dK (kvM (fun i => ys.getD i V.non) (putM r.last a.to i))) hL0
                    refine ⟨_, rfl, rIxF_at (f := true) (u2.sqT hs) (atI_nat (j := 1) rfl) ?_⟩
                    exact ⟨_, _, rfl, u2, by rw [upd_ne nSL]; exact hS', upd_same⟩
                  · have hb : better r a (x + a.wt) = false := by rw [hb0, decide_eq_false hlt]
                    rw [decide_eq_false hlt]
                    refine iteF ?_
                    rw [relaxA_no ha hfr hb]
                    exact ⟨_, _, rfl, sd, hSd, hLd⟩
          · obtain ⟨x6, x7, rfl, sd, hSd, hLd⟩ := hh
            rw [lys] at hSd hLd
            have bl := round_len (as := as) (s := s) (n := as.length)
            have et : leastN as f0 - j = (leastN as f0 - (j + 1)) + 1 := by omega
            rw [et] at ht
            unfold turns at ht
            rw [lys]
            generalize roundN as s as.length = r at hSd hLd bl ht ⊢
            walk_at "ev"
            dsimp only
            rw [lowV_non]
            by_cases e : r.low = none
            · rw [if_pos e] at ht
              rw [decide_eq_true e]
              refine iteT ?_
              walk_at "ev"
              intro p hp
              subst ht
              exact q _ p D2 L (sd.trans (.upd hp)) (sd.free hp) hS0 hL0 (by rw [e]; exact upd_same) ((Same.upd hp) _ _ hSd) ((Same.upd hp) _ _ hLd)
            · rw [if_neg e] at ht
              rw [decide_eq_false e]
              refine iteF ?_
              exact ⟨_, _, _, r, rfl, sd, hSd, hLd, ht, by omega, by omega⟩
        · obtain ⟨x5, x6, x7, s, rfl, sc, hSc, hLc, ht, ls1, ls2⟩ := hh
          rw [Nat.sub_self] at ht
          have ht : s = leastF as f0 := ht
          subst ht
          walk_at "ev"
          intro p hp
          exact q _ p D2 L (sc.trans (.upd hp)) (sc.free hp) hS0 hL0 upd_same ((Same.upd hp) _ _ hSc) ((Same.upd hp) _ _ hLc)
end
end Jl

set_option Elab.async false
set_option linter.all false
set_option maxRecDepth 100000
set_option maxHeartbeats 1000000
set_option pp.maxSteps 300
namespace Jl
open PySem PySem.Spec PyProof.Rows L2
open Evl (sz_of sz_lt)
local macro_rules | `(tactic| walk_at "at") => `(tactic| first | exact box0 | exact box1 | exact box2)
local macro_rules | `(tactic| walk_at "sq") => `(tactic| first | (show SqL _ _ _ _; assumption) | (show SqT _ _ _ _; assumption) | (show _ = some _; assumption))
local macro_rules | `(tactic| walk_at "side") => `(tactic| first
  | (show (0 : Int) < _; decide)
  | (show (0 : Int) < _; omega)
  | exact ⟨by decide, by decide, by decide⟩
  | exact sz_of (Nat.le_of_ble_eq_true rfl)
  | exact rfl
  | exact Or.inl (by decide)
  | exact Or.inr (by decide)
  | exact Or.inr ⟨by omega, by omega⟩
  | exact Or.inl ⟨by omega, by omega⟩
  | exact ⟨by decide, by decide +kernel⟩)
local macro_rules | `(tactic| walk_at "ev1") => `(tactic| first
  | refine ⟨_, rfl, ?_⟩
  | refine ⟨_, _, rfl, rfl, ?_⟩
  | refine ⟨_, _, _, _, rfl, rfl, (by walk_at "sq"), (by walk_at "at"), ?_⟩
  | refine ⟨_, _, rfl, (by walk_at "sq"), ?_⟩
  | refine ⟨_, _, rfl, Or.inl (by walk_at "sq"), ?_⟩
  | refine ⟨_, _, rfl, Or.inr (by walk_at "sq"), ?_⟩
  | refine Or.inl ⟨_, rfl, ?_⟩
  | refine Or.inr ⟨_, rfl, ?_⟩
  | refine ⟨(by walk_at "side"), ?_⟩
  | refine ⟨.inl ⟨rfl, _, (by walk_at "sq")⟩, ?_⟩
  | refine ⟨_, _, rfl, ?_⟩)
local macro_rules | `(tactic| walk_at "nrm") => `(tactic| dsimp only [tNil, tCons, tC, tCB])
local macro_rules | `(tactic| walk_at "ev") => `(tactic| repeat (walk_at "ev1"))

abbrev sc_graded_N : List Str := ["net", "parts", "worker"]
abbrev s_graded : Stmt := topS 7
theorem sc_graded : FnScope ["net", "parts", "worker"] ["net", "parts"] (defScope s_graded) := ⟨rfl, rfl, rfl, by decide +kernel, rfl, by decide +kernel, by decide +kernel⟩
abbrev sc_never_held_N : List Str := ["net"]
abbrev s_never_held : Stmt := topS 8
theorem sc_never_held : FnScope ["net"] ["net"] (defScope s_never_held) := ⟨rfl, rfl, rfl, by decide +kernel, rfl, by decide +kernel, by decide +kernel⟩
def zeroM (ws : List Str) : List (Str × Int) := ws.map fun x => (x, 0)
def gradF (ws : List Str) (qs : List QD) (sc : Int) : LS := leastF (arcsF sc 1 qs) (zeroM ws)
def neverF (ws : List Str) (qs : List QD) : Bool := decide ((gradF ws qs ws.length).low = none)
theorem zero_nd {ws : List Str} (h : ws.Nodup) : ((zeroM ws).map (·.1)).Nodup := by
  unfold zeroM
  rw [List.map_map, show (fun p : Str × Int => p.1) ∘ (fun x => (x, (0 : Int))) = id from rfl, List.map_id]
  exact h
/-- what never_held and its kin are asked of -/
structure NetN (ws : List Str) (qs : List QD) : Prop where
  nd : ws.Nodup
  ne : ∀ q ∈ qs, q.st ≠ q.en
  w1 : ws.length ≤ 500
  q1 : qs.length ≤ 500
section
variable {P : Program} {w : World} {K : PySem.W.Frag} {mg : Str → Option Value} {base : Heap}
def spGraded (K : PySem.W.Frag) : Sp := fun vs H Q _ => ∃ (v : V) (ws : List Str) (qs : List QD) (sc : Int), vs = [v, .int sc] ∧ NetV K H v ws qs ∧ NetN ws qs ∧ 0 ≤ sc ∧ sc ≤ 10 ^ 9 ∧
  ∀ H' p S L la ys, Same H H' → H p = none → H S = none → H L = none → H' p = some (.tup [.ref S, .ref L, lowV (gradF ws qs sc).low]) → H' S = some (.dK (kvM V.int (gradF ws qs sc).sums)) → H' L = some (.dK (kvM (fun i => ys.getD i .non) (gradF ws qs sc).last)) → H' la = some (.lst ys) → DpAll K (cutS [la] H') ys ((arcsF sc 1 qs).map Arc.d) → Q (.ref p) H'
theorem ok_graded {f fA fL : Addr} {fd fdA fdL : FuncData} {k : Nat} (F : Fun K "graded" "graded" s_graded f fd)
    (G_arcs_of : FnOk P w K mg base CX0 k fA fdA ["net", "scale", "toll"] (spArcs K)) (g_arcs_of : mg "arcs_of" = some (.ref fA)) (F_arcs_of : Fun K "arcs_of" "arcs_of" s_arcs_of fA fdA) (b_arcs_of : Binds K fdA ["net", "scale", "toll"] []) (G_least_sums : FnOk P w K mg base CX0 k fL fdL ["arcs", "first"] (spLeast K)) (g_least_sums : mg "least_sums" = some (.ref fL)) (F_least_sums : Fun K "least_sums" "least_sums" s_least_sums fL fdL) (b_least_sums : Binds K fdL ["arcs", "first"] []) : FnOk P w K mg base CX0 (k + 1) f fd ["net", "parts"] (spGraded K) := by
  refine F.ok sc_graded (fun vs H Q E h => ?_) (fun cdv A outer s0 H vs Q E hr h => ?_)
  · obtain ⟨v, ws, qs, sc, rfl, _⟩ := h
    rfl
  · obtain ⟨v, ws, qs, sc, rfl, hD, hN, sc0, sc1, q⟩ := h
    refine ⟨_, (pss_one (ps_ret (pe_call G_least_sums hr (by rfl) g_least_sums F_least_sums.kp b_least_sums .nil pass0 (pa_cons (pe_call G_arcs_of hr (by rfl) g_arcs_of F_arcs_of.kp b_arcs_of .nil pass0 (pa_cons (pv 0) (pa_cons (pv 1) (pa_cons pe_int pa_nil)))) (pa_cons (pe_dcX (pe_dc (own := [("worker", 2)]) (g := gName 2) (tt := tYes) (by rfl) sc_graded.nd (pi_seq (pe_ix ix_lt (pv 0) pe_int (fun _ _ => rfl))) (blkOk_by (own := [("worker", 2)]) (N := sc_graded_N) (sc := defScope s_graded) (by decide +kernel)) (fun _ _ _ _ _ => pg_name (i := 2) sc_graded.nd rfl (Or.inl rfl)) (fun _ _ _ _ _ => pts_nil) (fun _ _ _ _ _ => (pv 2)) (fun _ _ _ _ _ => pe_int))) pa_nil))))), ?_⟩
    have hD0 := hD
    obtain ⟨f0, f1, f2, f3, a0, a1, a2, xq, rfl, N0⟩ := hD
    have i0 : atI [V.ref a1, V.ref a2] 0 = some (.ref a1) := atI_nat (j := 0) rfl
    have w1 := hN.w1
    have q1 := hN.q1
    refine ⟨_, rfl, _, rfl, ?_⟩
    refine ⟨_, ws, qs, sc, 1, rfl, hD0, hN.ne, by omega, sc0, sc1, fun H1 la ys s1 hl0 hl1 d1 => ?_⟩
    have N1 := N0.same s1
    refine dc_strs (fun _ => .int 0) hN.nd (fun R' q' => ⟨_, rfl, rIxF_at N1.h0 i0 q'⟩) N1.h1 (by omega) (fun x => rfl) (fun x H2 Q' q' => ⟨_, rfl, q'⟩) (fun x H2 Q' q' => q') (fun M hM => ?_)
    have s2 : Same H1 (upd H1 M (.dK (ws.map fun x => (.inr x, .int 0)))) := .upd hM
    have hz : (upd H1 M (.dK (ws.map fun x => (.inr x, .int 0)))) M = some (.dK (kvM V.int (zeroM ws))) := by
      rw [upd_same]
      unfold kvM zeroM
      rw [List.map_map]
      rfl
    have hM0 : M ≠ la := fun z => by
      rw [z, hl1] at hM
      cases hM
    generalize upd H1 M (.dK (ws.map fun x => (.inr x, .int 0))) = H2 at s2 hz ⊢
    refine ⟨la, M, ys, arcsF sc 1 qs, zeroM ws, rfl, sql_of (s2 _ _ hl1), s2.dpa (cutS_le.dpa d1), hz, zero_nd hN.nd, by unfold zeroM; rw [List.length_map]; omega, by rw [arcs_len]; omega, fun H3 p S L s3 hp hS hL h1 h2 h3 => ?_⟩
    exact q H3 p S L la ys ((s1.trans s2).trans s3) ((s1.trans s2).free hp) ((s1.trans s2).free hS) ((s1.trans s2).free hL) h1 h2 h3 (s3 _ _ (s2 _ _ hl1)) ((cutS_mono (s2.trans s3)).dpa d1)
def spNever (K : PySem.W.Frag) : Sp := fun vs H Q _ => ∃ (v : V) (ws : List Str) (qs : List QD), vs = [v] ∧ NetV K H v ws qs ∧ NetN ws qs ∧ ∀ H', Same H H' → Q (.bl (neverF ws qs)) H'
theorem ok_never_held {f fG : Addr} {fd fdG : FuncData} {k : Nat} (F : Fun K "never_held" "never_held" s_never_held f fd)
    (G_graded : FnOk P w K mg base CX0 k fG fdG ["net", "parts"] (spGraded K)) (g_graded : mg "graded" = some (.ref fG)) (F_graded : Fun K "graded" "graded" s_graded fG fdG) (b_graded : Binds K fdG ["net", "parts"] []) (m_len : mg "len" = none) : FnOk P w K mg base CX0 (k + 1) f fd ["net"] (spNever K) := by
  refine F.ok sc_never_held (fun vs H Q E h => ?_) (fun cdv A outer s0 H vs Q E hr h => ?_)
  · obtain ⟨v, ws, qs, rfl, _⟩ := h
    rfl
  · obtain ⟨v, ws, qs, rfl, hD, hN, q⟩ := h
    refine ⟨_, (pss_one (ps_ret (pe_cmpR op_isN (pe_ix ix_lt (pe_call G_graded hr (by rfl) g_graded F_graded.kp b_graded .nil pass0 (pa_cons (pv 0) (pa_cons (pe_callB call_len_seq (by rfl) m_len PySem.boot_len (pa_cons (pe_ix ix_lt (pv 0) pe_int (fun _ _ => rfl)) pa_nil)) pa_nil))) pe_int (fun _ _ => rfl)) pe_non (nomark _)))), ?_⟩
    have hD0 := hD
    obtain ⟨f0, f1, f2, f3, a0, a1, a2, xq, rfl, N0⟩ := hD
    have i0 : atI [V.ref a1, V.ref a2] 0 = some (.ref a1) := atI_nat (j := 0) rfl
    have w1 := hN.w1
    refine ⟨_, rfl, _, rfl, rIxF_at N0.h0 i0 ⟨a1, _, rfl, N0.h1.or, ?_⟩⟩
    rw [List.length_map]
    refine ⟨_, ws, qs, (ws.length : Nat), rfl, hD0, hN, by omega, by omega, fun H1 p S L la ys s1 hp hS hL h1 h2 h3 _ _ => ?_⟩
    refine rIxF_at (f := true) (sqt_of h1) (atI_nat (j := 2) rfl) ⟨rfl, ?_⟩
    rw [lowV_non]
    exact q H1 s1
end
end Jl

set_option Elab.async false
set_option linter.all false
set_option maxRecDepth 100000
set_option maxHeartbeats 1000000
set_option pp.maxSteps 300
namespace Jl
open PySem PySem.Spec PyProof.Rows L2
open Evl (sz_of sz_lt)

/-! ### least sums, and numbers that show that no ring comes below 0 -/
theorem fmin_le : ∀ {l : List Int} {b : Int}, l.foldl min b ≤ b ∧ ∀ x ∈ l, l.foldl min b ≤ x
  | [], b => ⟨Int.le_refl b, fun x h => absurd h List.not_mem_nil⟩
  | z :: l, b => by
    obtain ⟨h1, h2⟩ := fmin_le (l := l) (b := min b z)
    rw [List.foldl_cons]
    refine ⟨by omega, fun x hx => ?_⟩
    rcases List.mem_cons.mp hx with rfl | hx
    · omega
    · exact h2 x hx
theorem fmin_mem : ∀ {l : List Int} {b : Int}, l.foldl min b = b ∨ l.foldl min b ∈ l
  | [], b => .inl rfl
  | z :: l, b => by
    rw [List.foldl_cons]
    rcases fmin_mem (l := l) (b := min b z) with h | h
    · rw [h]
      by_cases e : b ≤ z
      · exact .inl (by omega)
      · exact .inr (by rw [show min b z = z by omega]; exact List.mem_cons_self)
    · exact .inr (List.mem_cons_of_mem _ h)
theorem le_fmin : ∀ {l : List Int} {b c : Int}, c ≤ b → (∀ x ∈ l, c ≤ x) → c ≤ l.foldl min b
  | [], b, c, h, _ => h
  | z :: l, b, c, h, h2 => by
    rw [List.foldl_cons]
    exact le_fmin (l := l) (b := min b z) (by have := h2 z List.mem_cons_self; omega) fun x hx => h2 x (List.mem_cons_of_mem _ hx)
theorem nodup_le : ∀ {l ws : List Str}, l.Nodup → (∀ x ∈ l, x ∈ ws) → l.length ≤ ws.length
  | [], _, _, _ => Nat.zero_le _
  | x :: l, ws, hn, hs => by
    have hx := hs x List.mem_cons_self
    rw [List.nodup_cons] at hn
    have h := nodup_le (l := l) (ws := ws.erase x) hn.2 fun z hz => (List.mem_erase_of_ne fun e => hn.1 (by rw [← e]; exact hz)).mpr (hs z (List.mem_cons_of_mem _ hz))
    rw [List.length_erase_of_mem hx] at h
    have : 0 < ws.length := List.length_pos_of_mem hx
    rw [List.length_cons]
    omega
/-- the least sums of at most so many arcs, from anywhere -/
def dmin (as : List Arc) : Nat → Str → Int
  | 0, _ => 0
  | k + 1, v => ((as.filter fun a => decide (a.to = v)).map fun a => dmin as k a.fr + a.wt).foldl min (dmin as k v)
theorem dmin_le {as : List Arc} {k : Nat} {v : Str} : dmin as (k + 1) v ≤ dmin as k v := fmin_le.1
theorem dmin_arc {as : List Arc} {k : Nat} {a : Arc} (h : a ∈ as) : dmin as (k + 1) a.to ≤ dmin as k a.fr + a.wt :=
  fmin_le.2 _ (List.mem_map.mpr ⟨a, List.mem_filter.mpr ⟨h, decide_eq_true rfl⟩, rfl⟩)
theorem dmin_mono {as : List Arc} {v : Str} : ∀ {j k : Nat}, j ≤ k → dmin as k v ≤ dmin as j v
  | j, 0, h => by
    have : j = 0 := by omega
    rw [this]
    exact Int.le_refl _
  | j, k + 1, h => by
    by_cases e : j = k + 1
    · rw [e]
      exact Int.le_refl _
    · exact Int.le_trans dmin_le (dmin_mono (by omega))
theorem dmin_new {as : List Arc} {k : Nat} {v : Str} (h : dmin as (k + 1) v < dmin as k v) : ∃ a ∈ as, a.to = v ∧ dmin as (k + 1) v = dmin as k a.fr + a.wt := by
  rcases fmin_mem (l := (as.filter fun a => decide (a.to = v)).map fun a => dmin as k a.fr + a.wt) (b := dmin as k v) with e | e
  · have e : dmin as (k + 1) v = dmin as k v := e
    omega
  · obtain ⟨a, ha, e⟩ := List.mem_map.mp e
    obtain ⟨h1, h2⟩ := List.mem_filter.mp ha
    exact ⟨a, h1, of_decide_eq_true h2, e.symm⟩
/-- what the arcs stand on -/
def ArcsOn (ws : List Str) (as : List Arc) : Prop := ∀ a ∈ as, a.fr ∈ ws ∧ a.to ∈ ws
/-- numbers that show it -/
def Pot (as : List Arc) (y : Str → Int) : Prop := ∀ a ∈ as, y a.to ≤ y a.fr + a.wt
theorem chain_of {ws : List Str} {as : List Arc} {y : Str → Int} (ho : ArcsOn ws as) (hy : Pot as y) : ∀ (m : Nat) (v : Str), v ∈ ws → (m = 0 ∨ dmin as m v < dmin as (m - 1) v) →
    ∃ l : List Str, (v :: l).Nodup ∧ (∀ x ∈ v :: l, x ∈ ws) ∧ l.length = m ∧ ∀ x ∈ l, ∃ q, q < m ∧ dmin as q x + y v - y x ≤ dmin as m v
  | 0, v, hv, _ => ⟨[], by simp, fun x hx => by rw [List.mem_singleton.mp hx]; exact hv, rfl, fun x hx => absurd hx List.not_mem_nil⟩
  | m + 1, v, hv, h => by
    have h : dmin as (m + 1) v < dmin as m v := h.resolve_left (by omega)
    obtain ⟨a, ha, hto, he⟩ := dmin_new h
    have hfr : m = 0 ∨ dmin as m a.fr < dmin as (m - 1) a.fr := by
      by_cases e : m = 0
      · exact .inl e
      · refine .inr ?_
        have h1 := dmin_arc (k := m - 1) ha
        rw [show m - 1 + 1 = m by omega, hto] at h1
        omega
    obtain ⟨l, l1, l2, l3, l4⟩ := chain_of ho hy m a.fr (ho a ha).1 hfr
    have hp := hy a ha
    rw [hto] at hp
    have h4 : ∀ x ∈ a.fr :: l, ∃ q, q < m + 1 ∧ dmin as q x + y v - y x ≤ dmin as (m + 1) v := fun x hx => by
      rcases List.mem_cons.mp hx with rfl | hx
      · exact ⟨m, by omega, by omega⟩
      · obtain ⟨q, hq, hx⟩ := l4 x hx
        exact ⟨q, by omega, by omega⟩
    refine ⟨a.fr :: l, List.nodup_cons.mpr ⟨fun hv2 => ?_, l1⟩, fun x hx => ?_, by rw [List.length_cons, l3], h4⟩
    · obtain ⟨q, hq, hx⟩ := h4 v hv2
      have := dmin_mono (as := as) (v := v) (j := q) (k := m) (by omega)
      omega
    · rcases List.mem_cons.mp hx with rfl | hx
      · exact hv
      · exact l2 x hx
theorem dmin_end {ws : List Str} {as : List Arc} {y : Str → Int} (ho : ArcsOn ws as) (hy : Pot as y) {m : Nat} (hm : ws.length ≤ m + 1) {v : Str} (hv : v ∈ ws) : dmin as (m + 1) v = dmin as m v := by
  by_cases h : dmin as (m + 1) v < dmin as m v
  · obtain ⟨l, l1, l2, l3, _⟩ := chain_of ho hy (m + 1) v hv (.inr h)
    have := nodup_le l1 l2
    rw [List.length_cons, l3] at this
    omega
  · have := dmin_le (as := as) (k := m) (v := v)
    omega
theorem dmin_fix {ws : List Str} {as : List Arc} {y : Str → Int} (ho : ArcsOn ws as) (hy : Pot as y) {m : Nat} (hm : ws.length ≤ m + 1) : Pot as (dmin as m) := fun a ha => by
  have h1 := dmin_arc (k := m) ha
  rw [dmin_end ho hy hm (ho a ha).2] at h1
  exact h1
/-! ### the sums as they go -/
def valS (s : LS) (v : Str) : Int := (lk s.sums v).getD 0
def FullS (ws : List Str) (s : LS) : Prop := ∀ v ∈ ws, ∃ x, lk s.sums v = some x
theorem lk_put {α : Type} {k z : Str} {v : α} : ∀ {m : List (Str × α)}, lk (putM m k v) z = if k = z then some v else lk m z := by
  intro m
  unfold putM
  by_cases h : (lk m k).isSome = true
  · rw [if_pos h]
    have key : ∀ {m : List (Str × α)}, (lk m k).isSome = true → lk (m.map fun p => if p.1 = k then (p.1, v) else p) z = if k = z then some v else lk m z := by
      intro m
      induction m with
      | nil =>
        intro h
        cases h
      | cons p m ih =>
        intro h
        rw [List.map_cons]
        unfold lk at h ⊢
        by_cases e : p.1 = k
        · rw [if_pos e] at h ⊢
          dsimp only
          by_cases e2 : p.1 = z
          · rw [if_pos e2, if_pos (e.symm.trans e2)]
          · rw [if_neg e2, if_neg e2, if_neg fun e3 => e2 (e.trans e3)]
            by_cases hs : (lk m k).isSome = true
            · rw [ih hs, if_neg fun e3 => e2 (e.trans e3)]
            · have : (m.map fun p => if p.1 = k then (p.1, v) else p) = m := by
                clear ih h
                induction m with
                | nil => rfl
                | cons q m ih2 =>
                  unfold lk at hs
                  by_cases e4 : q.1 = k
                  · rw [if_pos e4] at hs
                    exact absurd rfl hs
                  · rw [if_neg e4] at hs
                    rw [List.map_cons, if_neg e4, ih2 hs]
              rw [this]
        · rw [if_neg e] at h ⊢
          by_cases e2 : p.1 = z
          · rw [if_pos e2, if_pos e2, if_neg fun e3 => e (e2.trans e3.symm)]
          · rw [if_neg e2, if_neg e2]
            exact ih h
    exact key h
  · rw [if_neg h]
    have h0 : lk m k = none := by
      cases hk : lk m k with
      | none => rfl
      | some x =>
        rw [hk] at h
        exact absurd rfl h
    have key : ∀ {m : List (Str × α)}, lk m k = none → lk (m ++ [(k, v)]) z = if k = z then some v else lk m z := by
      intro m
      induction m with
      | nil =>
        intro _
        show (if k = z then some v else none) = _
        rfl
      | cons p m ih =>
        intro h
        rw [List.cons_append]
        unfold lk at h ⊢
        by_cases e : p.1 = k
        · rw [if_pos e] at h
          cases h
        · rw [if_neg e] at h
          by_cases e2 : p.1 = z
          · rw [if_pos e2, if_pos e2, if_neg fun e3 => e (e2.trans e3.symm)]
          · rw [if_neg e2, if_neg e2]
            exact ih h
    exact key h0
/-- what one arc does -/
theorem relaxA_cases {ws : List Str} {as : List Arc} {s : LS} {i : Nat} {a : Arc} (h : as[i]? = some a) (hf : FullS ws s) (ho : a.fr ∈ ws ∧ a.to ∈ ws) :
    (relaxA as s i = s ∧ valS s a.to ≤ valS s a.fr + a.wt) ∨ (valS s a.fr + a.wt < valS s a.to ∧ (relaxA as s i).low = some a.to ∧ FullS ws (relaxA as s i) ∧ ∀ v, valS (relaxA as s i) v = if a.to = v then valS s a.fr + a.wt else valS s v) := by
  obtain ⟨x, hx⟩ := hf a.fr ho.1
  obtain ⟨y, hy⟩ := hf a.to ho.2
  have vx : valS s a.fr = x := by unfold valS; rw [hx]; rfl
  have vy : valS s a.to = y := by unfold valS; rw [hy]; rfl
  have hb : better s a (x + a.wt) = decide (x + a.wt < y) := by unfold better; rw [hy]
  rw [vx, vy]
  by_cases hl : x + a.wt < y
  · refine .inr ⟨hl, ?_⟩
    rw [decide_eq_true hl] at hb
    rw [relaxA_yes h hx hb]
    refine ⟨rfl, fun v hv => ?_, fun v => ?_⟩
    · show ∃ z, lk (putM s.sums a.to (x + a.wt)) v = some z
      rw [lk_put]
      split
      · exact ⟨_, rfl⟩
      · exact hf v hv
    · show (lk (putM s.sums a.to (x + a.wt)) v).getD 0 = _
      rw [lk_put]
      split <;> rfl
  · rw [decide_eq_false hl] at hb
    exact .inl ⟨relaxA_no h hx hb, by omega⟩
/-- after some arcs of a round -/
theorem round_to {ws : List Str} {as : List Arc} (ho : ArcsOn ws as) {s : LS} (hf : FullS ws s) {B e : Str → Int} (hB : ∀ v ∈ ws, valS s v ≤ B v) (he : ∀ v ∈ ws, e v ≤ valS s v) (hp : Pot as e) : ∀ n, n ≤ as.length →
    FullS ws (roundN as s n) ∧ (∀ v ∈ ws, valS (roundN as s n) v ≤ B v) ∧ (∀ v ∈ ws, e v ≤ valS (roundN as s n) v) ∧ (∀ (j : Nat) (a : Arc), j < n → as[j]? = some a → valS (roundN as s n) a.to ≤ B a.fr + a.wt) ∧ ((roundN as s n).low = none → (roundN as s n).sums = s.sums ∧ ∀ (j : Nat) (a : Arc), j < n → as[j]? = some a → valS s a.to ≤ valS s a.fr + a.wt)
  | 0, _ => ⟨hf, hB, he, fun j a hj => absurd hj (Nat.not_lt_zero _), fun _ => ⟨rfl, fun j a hj => absurd hj (Nat.not_lt_zero _)⟩⟩
  | n + 1, hn => by
    obtain ⟨g1, g2, g3, g4, g5⟩ := round_to ho hf hB he hp n (by omega)
    have ha : as[n]? = some as[n] := List.getElem?_eq_getElem (by omega)
    have hm := ho as[n] (List.getElem_mem (by omega))
    have hpn := hp as[n] (List.getElem_mem (by omega))
    rw [round_next]
    rcases relaxA_cases ha g1 hm with ⟨e1, e2⟩ | ⟨e1, e2, e3, e4⟩
    · rw [e1]
      refine ⟨g1, g2, g3, fun j a hj h => ?_, fun hl => ?_⟩
      · by_cases ej : j = n
        · subst ej
          rw [ha] at h
          cases h
          have := g2 _ hm.1
          omega
        · exact g4 j a (by omega) h
      · obtain ⟨k1, k2⟩ := g5 hl
        refine ⟨k1, fun j a hj h => ?_⟩
        by_cases ej : j = n
        · subst ej
          rw [ha] at h
          cases h
          unfold valS at e2 ⊢
          rw [k1] at e2
          exact e2
        · exact k2 j a (by omega) h
    · have hB2 : ∀ v, v ∈ ws → valS (relaxA as (roundN as s n) n) v ≤ valS (roundN as s n) v := fun v hv => by
        rw [e4]
        split
        · rename_i ev
          rw [← ev]
          omega
        · exact Int.le_refl _
      refine ⟨e3, fun v hv => Int.le_trans (hB2 v hv) (g2 v hv), fun v hv => ?_, fun j a hj h => ?_, fun hl => ?_⟩
      · rw [e4]
        split
        · rename_i ev
          rw [← ev]
          have := g3 _ hm.1
          omega
        · exact g3 v hv
      · have hma := ho a (List.mem_of_getElem? h)
        by_cases ej : j = n
        · subst ej
          rw [ha] at h
          cases h
          rw [e4, if_pos rfl]
          have := g2 _ hm.1
          omega
        · exact Int.le_trans (hB2 _ hma.2) (g4 j a (by omega) h)
      · rw [e2] at hl
        cases hl
/-- numbers that show it: no sum is lowered for ever -/
theorem turns_none {ws : List Str} {as : List Arc} (ho : ArcsOn ws as) {y : Str → Int} (hy : Pot as y) {N : Nat} (hN : ws.length ≤ N + 1) : ∀ (r k : Nat) (s : LS), r + k = N + 1 → 1 ≤ r → FullS ws s → (∀ v ∈ ws, valS s v ≤ dmin as k v) → (∀ v ∈ ws, dmin as N v ≤ valS s v) → (turns as r s).low = none
  | 0, _, _, _, h, _, _, _ => absurd h (by omega)
  | r + 1, k, s, hrk, _, hf, hB, he => by
    have hfix := dmin_fix ho hy hN
    obtain ⟨g1, g2, g3, g4, g5⟩ := round_to ho hf hB he hfix as.length (Nat.le_refl _)
    unfold turns
    by_cases hl : (roundN as s as.length).low = none
    · rw [if_pos hl]
      exact hl
    · rw [if_neg hl]
      have hB1 : ∀ v ∈ ws, valS (roundN as s as.length) v ≤ dmin as (k + 1) v := fun v hv => by
        refine le_fmin (g2 v hv) fun x hx => ?_
        obtain ⟨a, ha, rfl⟩ := List.mem_map.mp hx
        obtain ⟨h1, h2⟩ := List.mem_filter.mp ha
        obtain ⟨j, hj, e⟩ := List.getElem_of_mem h1
        have := g4 j a hj (by rw [List.getElem?_eq_getElem hj, e])
        rw [of_decide_eq_true h2] at this
        exact this
      by_cases hr : r = 0
      · exfalso
        have hk : k = N := by omega
        subst hk
        apply hl
        have hv : ∀ v ∈ ws, valS s v = dmin as k v := fun v hv => Int.le_antisymm (hB v hv) (he v hv)
        have no : ∀ n, n ≤ as.length → roundN as s n = { s with low := none } := by
          intro n
          induction n with
          | zero => exact fun _ => rfl
          | succ n ih =>
            intro hn
            have ha : as[n]? = some as[n] := List.getElem?_eq_getElem (by omega)
            have hm := ho as[n] (List.getElem_mem (by omega))
            have hpn := hfix as[n] (List.getElem_mem (by omega))
            rw [round_next, ih (by omega)]
            have hf0 : FullS ws { s with low := none } := hf
            rcases relaxA_cases ha hf0 hm with ⟨e1, _⟩ | ⟨e1, _⟩
            · exact e1
            · have e1 : valS s as[n].fr + as[n].wt < valS s as[n].to := e1
              rw [hv _ hm.1, hv _ hm.2] at e1
              omega
        rw [no as.length (Nat.le_refl _)]
      · exact turns_none ho hy hN r (k + 1) _ (by omega) (by omega) g1 hB1 g3
/-- no sum lowered: the sums show it -/
theorem turns_pot {ws : List Str} {as : List Arc} (ho : ArcsOn ws as) : ∀ (r : Nat) (s : LS), FullS ws s → 1 ≤ r → (turns as r s).low = none → Pot as (valS (turns as r s)) ∧ FullS ws (turns as r s)
  | 0, _, _, h, _ => absurd h (by omega)
  | r + 1, s, hf, _, h => by
    unfold turns at h ⊢
    have key := fun (e : Str → Int) (he : ∀ v ∈ ws, e v ≤ valS s v) (hp : Pot as e) => round_to ho hf (B := valS s) (fun v _ => Int.le_refl _) he hp as.length (Nat.le_refl _)
    have full : ∀ n, n ≤ as.length → FullS ws (roundN as s n) ∧ ((roundN as s n).low = none → (roundN as s n).sums = s.sums ∧ ∀ (j : Nat) (a : Arc), j < n → as[j]? = some a → valS s a.to ≤ valS s a.fr + a.wt) := by
      intro n
      induction n with
      | zero => exact fun _ => ⟨hf, fun _ => ⟨rfl, fun j a hj => absurd hj (Nat.not_lt_zero _)⟩⟩
      | succ n ih =>
        intro hn
        obtain ⟨g1, g5⟩ := ih (by omega)
        have ha : as[n]? = some as[n] := List.getElem?_eq_getElem (by omega)
        have hm := ho as[n] (List.getElem_mem (by omega))
        rw [round_next]
        rcases relaxA_cases ha g1 hm with ⟨e1, e2⟩ | ⟨e1, e2, e3, e4⟩
        · rw [e1]
          refine ⟨g1, fun hl => ?_⟩
          obtain ⟨k1, k2⟩ := g5 hl
          refine ⟨k1, fun j a hj h => ?_⟩
          by_cases ej : j = n
          · subst ej
            rw [ha] at h
            cases h
            unfold valS at e2 ⊢
            rw [k1] at e2
            exact e2
          · exact k2 j a (by omega) h
        · refine ⟨e3, fun hl => ?_⟩
          rw [e2] at hl
          cases hl
    obtain ⟨f1, f2⟩ := full as.length (Nat.le_refl _)
    by_cases hl : (roundN as s as.length).low = none
    · rw [if_pos hl] at h ⊢
      obtain ⟨k1, k2⟩ := f2 hl
      refine ⟨fun a ha => ?_, f1⟩
      obtain ⟨j, hj, e⟩ := List.getElem_of_mem ha
      have := k2 j a hj (by rw [List.getElem?_eq_getElem hj, e])
      unfold valS at this ⊢
      rw [k1]
      exact this
    · rw [if_neg hl] at h ⊢
      by_cases hr : r = 0
      · subst hr
        exact absurd h hl
      · exact turns_pot ho r _ f1 (by omega) h
end Jl

set_option Elab.async false
set_option linter.all false
set_option maxRecDepth 100000
set_option maxHeartbeats 1000000
set_option pp.maxSteps 300
namespace Jl
open PySem PySem.Spec PyProof.Rows L2
open Evl (sz_of sz_lt)

/-! ### what the pile of rings comes to -/
inductive Ext (qs : List QD) : Gs → List Mk → Prop
  | close (a : Gs) (m : Mk) (hm : m ∈ touchN qs (lsG a) qs.length) (h1 : far qs m = hdG a) (h2 : a.row ≠ []) (h3 : m.1 ∉ a.row.map (·.1)) : Ext qs a (a.row ++ [m])
  | step (a : Gs) (m : Mk) (r : List Mk) (hm : m ∈ touchN qs (lsG a) qs.length) (h1 : far qs m ≠ hdG a) (h2 : gtS (far qs m) (hdG a) = true) (h3 : far qs m ∉ a.met) (h : Ext qs ⟨a.row ++ [m], a.met ++ [far qs m]⟩ r) : Ext qs a r
theorem one_mem {qs : List QD} {a : Gs} : ∀ {l : List Mk} {p : Ps},
    (∀ r, r ∈ (l.foldl (one qs a) p).1 ↔ r ∈ p.1 ∨ ∃ m ∈ l, far qs m = hdG a ∧ a.row ≠ [] ∧ m.1 ∉ a.row.map (·.1) ∧ r = a.row ++ [m]) ∧
    (∀ b, b ∈ (l.foldl (one qs a) p).2 ↔ b ∈ p.2 ∨ ∃ m ∈ l, far qs m ≠ hdG a ∧ gtS (far qs m) (hdG a) = true ∧ far qs m ∉ a.met ∧ b = ⟨a.row ++ [m], a.met ++ [far qs m]⟩)
  | [], p => ⟨fun r => ⟨.inl, fun h => h.elim id fun ⟨m, hm, _⟩ => absurd hm List.not_mem_nil⟩, fun b => ⟨.inl, fun h => h.elim id fun ⟨m, hm, _⟩ => absurd hm List.not_mem_nil⟩⟩
  | z :: l, p => by
    obtain ⟨g1, g2⟩ := one_mem (qs := qs) (a := a) (l := l) (p := one qs a p z)
    rw [List.foldl_cons]
    have h1 : ∀ r, r ∈ (one qs a p z).1 ↔ r ∈ p.1 ∨ (far qs z = hdG a ∧ a.row ≠ [] ∧ z.1 ∉ a.row.map (·.1) ∧ r = a.row ++ [z]) := fun r => by
      unfold one
      by_cases e : far qs z = hdG a
      · rw [if_pos e]
        by_cases c : a.row ≠ [] ∧ z.1 ∉ a.row.map (·.1)
        · rw [if_pos c, List.mem_append, List.mem_singleton]
          exact ⟨fun h => h.imp id fun h => ⟨e, c.1, c.2, h⟩, fun h => h.imp id fun h => h.2.2.2⟩
        · rw [if_neg c]
          exact ⟨.inl, fun h => h.elim id fun h => absurd ⟨h.2.1, h.2.2.1⟩ c⟩
      · rw [if_neg e]
        split
        · exact ⟨.inl, fun h => h.elim id fun h => absurd h.1 e⟩
        · exact ⟨.inl, fun h => h.elim id fun h => absurd h.1 e⟩
    have h2 : ∀ b, b ∈ (one qs a p z).2 ↔ b ∈ p.2 ∨ (far qs z ≠ hdG a ∧ gtS (far qs z) (hdG a) = true ∧ far qs z ∉ a.met ∧ b = ⟨a.row ++ [z], a.met ++ [far qs z]⟩) := fun b => by
      unfold one
      by_cases e : far qs z = hdG a
      · rw [if_pos e]
        split
        · exact ⟨.inl, fun h => h.elim id fun h => absurd e h.1⟩
        · exact ⟨.inl, fun h => h.elim id fun h => absurd e h.1⟩
      · rw [if_neg e]
        by_cases c : gtS (far qs z) (hdG a) = true ∧ far qs z ∉ a.met
        · rw [if_pos c, List.mem_append, List.mem_singleton]
          exact ⟨fun h => h.imp id fun h => ⟨e, c.1, c.2, h⟩, fun h => h.imp id fun h => h.2.2.2⟩
        · rw [if_neg c]
          exact ⟨.inl, fun h => h.elim id fun h => absurd ⟨h.2.1, h.2.2.1⟩ c⟩
    refine ⟨fun r => ?_, fun b => ?_⟩
    · rw [g1, h1]
      constructor
      · rintro ((h | h) | ⟨m, hm, h⟩)
        · exact .inl h
        · exact .inr ⟨z, List.mem_cons_self, h⟩
        · exact .inr ⟨m, List.mem_cons_of_mem _ hm, h⟩
      · rintro (h | ⟨m, hm, h⟩)
        · exact .inl (.inl h)
        · rcases List.mem_cons.mp hm with rfl | hm
          · exact .inl (.inr h)
          · exact .inr ⟨m, hm, h⟩
    · rw [g2, h2]
      constructor
      · rintro ((h | h) | ⟨m, hm, h⟩)
        · exact .inl h
        · exact .inr ⟨z, List.mem_cons_self, h⟩
        · exact .inr ⟨m, List.mem_cons_of_mem _ hm, h⟩
      · rintro (h | ⟨m, hm, h⟩)
        · exact .inl (.inl h)
        · rcases List.mem_cons.mp hm with rfl | hm
          · exact .inl (.inr h)
          · exact .inr ⟨m, hm, h⟩
theorem ext_iff {qs : List QD} {a : Gs} {r : List Mk} : Ext qs a r ↔ (∃ m ∈ touchN qs (lsG a) qs.length, far qs m = hdG a ∧ a.row ≠ [] ∧ m.1 ∉ a.row.map (·.1) ∧ r = a.row ++ [m]) ∨ ∃ m ∈ touchN qs (lsG a) qs.length, far qs m ≠ hdG a ∧ gtS (far qs m) (hdG a) = true ∧ far qs m ∉ a.met ∧ Ext qs ⟨a.row ++ [m], a.met ++ [far qs m]⟩ r := by
  constructor
  · intro h
    match h with
    | .close _ m hm h1 h2 h3 => exact .inl ⟨m, hm, h1, h2, h3, rfl⟩
    | .step _ m _ hm h1 h2 h3 h => exact .inr ⟨m, hm, h1, h2, h3, h⟩
  · rintro (⟨m, hm, h1, h2, h3, rfl⟩ | ⟨m, hm, h1, h2, h3, h⟩)
    · exact .close a m hm h1 h2 h3
    · exact .step a m r hm h1 h2 h3 h
theorem rn_mem {qs : List QD} {p : Ps} {g : List (List Mk)} (h : Rn qs p g) : ∀ r, r ∈ g ↔ r ∈ p.1 ∨ ∃ a ∈ p.2, Ext qs a r := by
  induction h with
  | done f => exact fun r => ⟨.inl, fun h => h.elim id fun ⟨a, ha, _⟩ => absurd ha List.not_mem_nil⟩
  | next f o a g _ ih =>
    intro r
    obtain ⟨s1, s2⟩ := one_mem (qs := qs) (a := a) (l := touchN qs (lsG a) qs.length) (p := (f, o))
    rw [ih]
    unfold stp
    rw [s1]
    constructor
    · rintro ((h | ⟨m, hm, h1, h2, h3, h4⟩) | ⟨b, hb, hx⟩)
      · exact .inl h
      · exact .inr ⟨a, List.mem_append_right _ (List.mem_singleton.mpr rfl), ext_iff.mpr (.inl ⟨m, hm, h1, h2, h3, h4⟩)⟩
      · rcases (s2 b).mp hb with hb | ⟨m, hm, h1, h2, h3, rfl⟩
        · exact .inr ⟨b, List.mem_append_left _ hb, hx⟩
        · exact .inr ⟨a, List.mem_append_right _ (List.mem_singleton.mpr rfl), ext_iff.mpr (.inr ⟨m, hm, h1, h2, h3, hx⟩)⟩
    · rintro (h | ⟨b, hb, hx⟩)
      · exact .inl (.inl h)
      · rcases List.mem_append.mp hb with hb | hb
        · exact .inr ⟨b, (s2 b).mpr (.inl hb), hx⟩
        · rw [List.mem_singleton] at hb
          subst hb
          rcases ext_iff.mp hx with h | ⟨m, hm, h1, h2, h3, hx⟩
          · exact .inl (.inr h)
          · exact .inr ⟨_, (s2 _).mpr (.inr ⟨m, hm, h1, h2, h3, rfl⟩), hx⟩
/-! ### rings as rows of workers -/
def fl (m : Mk) : Mk := (m.1, !m.2)
/-- along these workers -/
def path (qs : List QD) : List Str → List Mk → Prop
  | [_], [] => True
  | v :: u :: vs, m :: ms => link qs m v u ∧ path qs (u :: vs) ms
  | _, _ => False
theorem link_touch {qs : List QD} {m : Mk} {x y : Str} (hne : ∀ q ∈ qs, q.st ≠ q.en) (h : link qs m x y) : m ∈ touchN qs x qs.length ∧ far qs m = y := by
  obtain ⟨q, hq, h⟩ := h
  have hlt := (List.getElem?_eq_some_iff.mp hq).1
  have hn := hne q (List.mem_of_getElem? hq)
  obtain ⟨i, b⟩ := m
  refine ⟨List.mem_filterMap.mpr ⟨i, List.mem_range.mpr hlt, ?_⟩, ?_⟩
  · unfold tch
    rw [show qs[i]? = some q from hq]
    rcases h with ⟨h1, h2, _⟩ | ⟨h1, h2, _⟩
    · have h1 : b = true := h1
      subst h1
      exact if_pos h2
    · have h1 : b = false := h1
      subst h1
      show (if q.st = x then some (i, true) else if q.en = x then some (i, false) else none) = some (i, false)
      rw [if_neg (by rw [← h2]; exact hn), if_pos h2]
  · unfold far
    rw [show qs[(i, b).1]? = some q from hq]
    rcases h with ⟨h1, _, h2⟩ | ⟨h1, _, h2⟩
    · have h1 : b = true := h1
      subst h1
      exact h2
    · have h1 : b = false := h1
      subst h1
      exact h2
theorem link_fl {qs : List QD} {m : Mk} {x y : Str} (h : link qs m x y) : link qs (fl m) y x := by
  obtain ⟨q, hq, h⟩ := h
  refine ⟨q, hq, ?_⟩
  rcases h with ⟨h1, h2, h3⟩ | ⟨h1, h2, h3⟩
  · exact .inr ⟨by unfold fl; rw [h1]; rfl, h3, h2⟩
  · exact .inl ⟨by unfold fl; rw [h1]; rfl, h3, h2⟩
theorem link_same {qs : List QD} {m m' : Mk} {x y x' y' : Str} (e : m.1 = m'.1) (h : link qs m x y) (h' : link qs m' x' y') : (x = x' ∧ y = y') ∨ (x = y' ∧ y = x') := by
  obtain ⟨q, hq, h⟩ := h
  obtain ⟨q', hq', h'⟩ := h'
  rw [e, hq'] at hq
  cases hq
  rcases h with ⟨_, h2, h3⟩ | ⟨_, h2, h3⟩ <;> rcases h' with ⟨_, g2, g3⟩ | ⟨_, g2, g3⟩
  · exact .inl ⟨h2.symm.trans g2, h3.symm.trans g3⟩
  · exact .inr ⟨h2.symm.trans g3, h3.symm.trans g2⟩
  · exact .inr ⟨h2.symm.trans g3, h3.symm.trans g2⟩
  · exact .inl ⟨h2.symm.trans g2, h3.symm.trans g3⟩
theorem path_snoc {qs : List QD} {v u : Str} {m : Mk} (hm : link qs m v u) : ∀ {vs : List Str} {ms : List Mk}, path qs (vs ++ [v]) ms → path qs (vs ++ [v, u]) (ms ++ [m])
  | [], [], _ => ⟨hm, trivial⟩
  | [], _ :: _, h => absurd h id
  | [x], [], h => absurd h id
  | x :: y :: vs, [], h => absurd h id
  | [x], m0 :: ms, h => ⟨h.1, path_snoc hm (vs := []) h.2⟩
  | x :: y :: vs, m0 :: ms, h => ⟨h.1, path_snoc hm (vs := y :: vs) h.2⟩
theorem path_rev {qs : List QD} : ∀ {vs : List Str} {ms : List Mk}, path qs vs ms → path qs vs.reverse (ms.map fl).reverse
  | [v], [], _ => trivial
  | v :: u :: vs, m :: ms, h => by
    have h2 := path_rev h.2
    rw [List.reverse_cons] at h2
    have h3 := path_snoc (link_fl h.1) h2
    rw [List.map_cons, List.reverse_cons, List.reverse_cons, List.reverse_cons, List.append_assoc]
    exact h3
/-- a ring from w: the workers between, the steps -/
structure RingW (qs : List QD) (w : Str) (us : List Str) (r : List Mk) : Prop where
  pa : path qs (w :: us ++ [w]) r
  ne : us ≠ []
  nd : us.Nodup
  gt : ∀ u ∈ us, u ≠ w ∧ gtS u w = true
  la : ∀ (pre : List Mk) (m : Mk), r = pre ++ [m] → m.1 ∉ pre.map (·.1)
theorem ext_of {qs : List QD} (hne : ∀ q ∈ qs, q.st ≠ q.en) {w : Str} : ∀ (us : List Str) (ms : List Mk) (a : Gs), hdG a = w → path qs (lsG a :: us ++ [w]) ms → us.Nodup → (∀ u ∈ us, u ≠ w ∧ gtS u w = true ∧ u ∉ a.met) → (a.row = [] → us ≠ []) → (∀ (pre : List Mk) (m : Mk), a.row ++ ms = pre ++ [m] → m.1 ∉ pre.map (·.1)) → a.met ≠ [] → Ext qs a (a.row ++ ms)
  | [], [], a, _, h, _, _, _, _, _ => absurd h id
  | [], [m], a, hw, h, _, _, hr, hl, _ => by
    obtain ⟨h1, h2⟩ := link_touch hne h.1
    exact .close a m h1 (h2.trans hw.symm) (fun e => hr e rfl) (hl a.row m rfl)
  | [], m :: m' :: ms, a, _, h, _, _, _, _, _ => absurd h.2 id
  | u :: us, [], a, _, h, _, _, _, _, _ => absurd h id
  | u :: us, m :: ms, a, hw, h, hn, hg, hr, hl, hm => by
    obtain ⟨h1, h2⟩ := link_touch hne h.1
    obtain ⟨k1, k2, k3⟩ := hg u List.mem_cons_self
    rw [List.nodup_cons] at hn
    have hd2 : hdG ⟨a.row ++ [m], a.met ++ [u]⟩ = w := by
      rw [← hw]
      unfold hdG
      cases hmet : a.met with
      | nil => exact absurd hmet hm
      | cons x xs => rfl
    have ls2 : lsG ⟨a.row ++ [m], a.met ++ [u]⟩ = u := by
      unfold lsG
      simp
    have ih := ext_of hne us ms ⟨a.row ++ [m], a.met ++ [u]⟩ hd2 (by rw [ls2]; exact h.2) hn.2 (fun x hx => by
      obtain ⟨q1, q2, q3⟩ := hg x (List.mem_cons_of_mem _ hx)
      refine ⟨q1, q2, fun hz => ?_⟩
      rcases List.mem_append.mp hz with hz | hz
      · exact q3 hz
      · rw [List.mem_singleton] at hz
        rw [hz] at hx
        exact hn.1 hx) (fun e => absurd (congrArg List.length e) (by simp)) (fun pre m2 e => hl pre m2 (by rw [← e]; simp)) (by simp)
    have e : a.row ++ m :: ms = (a.row ++ [m]) ++ ms := by simp
    rw [e]
    refine .step a m _ h1 (by rw [h2, hw]; exact k1) (by rw [h2, hw]; exact k2) (by rw [h2]; exact k3) ?_
    rw [h2]
    exact ih
theorem ext_to {qs : List QD} {w : Str} {a : Gs} {r : List Mk} (h : Ext qs a r) : hdG a = w → a.met ≠ [] → ∃ us ms, r = a.row ++ ms ∧ path qs (lsG a :: us ++ [w]) ms ∧ us.Nodup ∧ (∀ u ∈ us, u ≠ w ∧ gtS u w = true ∧ u ∉ a.met) ∧ (a.row = [] → us ≠ []) ∧ (∀ (pre : List Mk) (m : Mk), r = pre ++ [m] → m.1 ∉ pre.map (·.1)) := by
  induction h with
  | close a m hm h1 h2 h3 =>
    intro hw _
    have hl := touch_link hm
    rw [h1, hw] at hl
    refine ⟨[], [m], rfl, ⟨hl, trivial⟩, List.nodup_nil, fun u hu => absurd hu List.not_mem_nil, fun e => absurd e h2, fun pre m2 e => ?_⟩
    obtain ⟨e1, e2⟩ := List.append_inj' e rfl
    cases e2
    rw [← e1]
    exact h3
  | step a m r hm h1 h2 h3 h ih =>
    intro hw hmet
    have hd2 : hdG ⟨a.row ++ [m], a.met ++ [far qs m]⟩ = w := by
      rw [← hw]
      unfold hdG
      cases hm2 : a.met with
      | nil => exact absurd hm2 hmet
      | cons x xs => rfl
    have ls2 : lsG ⟨a.row ++ [m], a.met ++ [far qs m]⟩ = far qs m := by
      unfold lsG
      simp
    obtain ⟨us, ms, e, hp, hn, hg, hr, hl⟩ := ih hd2 (by simp)
    rw [ls2] at hp
    refine ⟨far qs m :: us, m :: ms, by rw [e]; simp, ⟨touch_link hm, hp⟩, List.nodup_cons.mpr ⟨fun hz => ?_, hn⟩, fun u hu => ?_, fun _ => List.cons_ne_nil _ _, hl⟩
    · exact (hg _ hz).2.2 (List.mem_append_right _ (List.mem_singleton.mpr rfl))
    · rcases List.mem_cons.mp hu with rfl | hu
      · rw [hw] at h1 h2
        exact ⟨h1, h2, h3⟩
      · obtain ⟨q1, q2, q3⟩ := hg u hu
        exact ⟨q1, q2, fun z => q3 (List.mem_append_left _ z)⟩
/-- the rings that are listed -/
theorem ring_mem {ws : List Str} {qs : List QD} {g : List (List Mk)} (hne : ∀ q ∈ qs, q.st ≠ q.en) (h : Rn qs (startP ws) g) : ∀ r, r ∈ g ↔ ∃ w ∈ ws, ∃ us, RingW qs w us r := by
  intro r
  rw [rn_mem h]
  constructor
  · rintro (h | ⟨a, ha, hx⟩)
    · exact absurd h List.not_mem_nil
    · obtain ⟨w, hw, rfl⟩ := List.mem_map.mp ha
      obtain ⟨us, ms, e, hp, hn, hg, hr, hl⟩ := ext_to (w := w) hx rfl (List.cons_ne_nil _ _)
      have e : r = ms := e
      subst e
      exact ⟨w, hw, us, hp, hr rfl, hn, fun u hu => ⟨(hg u hu).1, (hg u hu).2.1⟩, hl⟩
  · rintro ⟨w, hw, us, hR⟩
    refine .inr ⟨⟨[], [w]⟩, List.mem_map.mpr ⟨w, hw, rfl⟩, ?_⟩
    exact ext_of hne us r ⟨[], [w]⟩ rfl hR.pa hR.nd (fun u hu => ⟨(hR.gt u hu).1, (hR.gt u hu).2, fun z => (hR.gt u hu).1 (List.mem_singleton.mp z)⟩) (fun _ => hR.ne) hR.la (List.cons_ne_nil _ _)
/-! ### rings the other way round -/
def revR (r : List Mk) : List Mk := (r.map fl).reverse
theorem fl_fl (m : Mk) : fl (fl m) = m := by
  obtain ⟨i, b⟩ := m
  cases b <;> rfl
theorem revR_revR (r : List Mk) : revR (revR r) = r := by
  unfold revR
  rw [List.map_reverse, List.reverse_reverse, List.map_map]
  have : fl ∘ fl = id := funext fl_fl
  rw [this, List.map_id]
/-- a later step of a ring over the queue of the first one -/
theorem path_in {qs : List QD} : ∀ {vs : List Str} {ms : List Mk} {m : Mk}, path qs vs ms → m ∈ ms → ∃ x y, link qs m x y ∧ x ∈ vs.dropLast ∧ y ∈ vs.tail
  | [_], [], _, _, h => absurd h List.not_mem_nil
  | v :: u :: vs, m0 :: ms, m, h, hm => by
    rcases List.mem_cons.mp hm with rfl | hm
    · exact ⟨v, u, h.1, by simp, by simp⟩
    · obtain ⟨x, y, h1, h2, h3⟩ := path_in h.2 hm
      refine ⟨x, y, h1, ?_, ?_⟩
      · rw [List.dropLast_cons₂]
        exact List.mem_cons_of_mem _ h2
      · exact List.mem_cons_of_mem _ h3
end Jl

set_option Elab.async false
set_option linter.all false
set_option maxRecDepth 100000
set_option maxHeartbeats 1000000
set_option pp.maxSteps 300
namespace Jl
open PySem PySem.Spec PyProof.Rows L2
open Evl (sz_of sz_lt)

theorem ring_rev {qs : List QD} {w : Str} {us : List Str} {r : List Mk} (h : RingW qs w us r) : RingW qs w us.reverse (revR r) := by
  refine ⟨?_, fun e => h.ne (List.reverse_eq_nil_iff.mp e), (List.reverse_perm us).nodup_iff.mpr h.nd, fun u hu => h.gt u (List.mem_reverse.mp hu), fun pre m e => ?_⟩
  · have h1 := path_rev h.pa
    have e1 : (w :: us ++ [w]).reverse = w :: us.reverse ++ [w] := by simp
    rw [e1] at h1
    exact h1
  · have er : r = fl m :: revR pre := by
      have := congrArg revR e
      rw [revR_revR] at this
      rw [this]
      unfold revR
      simp
    intro hm
    have hm2 : ∃ m2 ∈ revR pre, m2.1 = m.1 := by
      obtain ⟨m3, h3, e3⟩ := List.mem_map.mp hm
      refine ⟨fl m3, ?_, e3⟩
      unfold revR
      rw [List.mem_reverse]
      exact List.mem_map.mpr ⟨m3, h3, rfl⟩
    obtain ⟨m2, hm2, e2⟩ := hm2
    generalize revR pre = tl at er hm2
    subst er
    have hp := h.pa
    have hu := h.ne
    match us, hu, h, hp with
    | [v1], _, h, hp =>
      match tl, hm2, hp, h with
      | [m2'], hm2, hp, h =>
        rw [List.mem_singleton] at hm2
        subst hm2
        exact h.la [fl m] m2 rfl (by rw [e2]; exact List.mem_singleton.mpr rfl)
      | _ :: _ :: _, _, hp, _ => exact absurd hp.2.2 id
      | [], hm2, _, _ => exact absurd hm2 List.not_mem_nil
    | v1 :: v2 :: us', _, h, hp =>
      match tl, hm2, hp, h with
      | [], hm2, _, _ => exact absurd hm2 List.not_mem_nil
      | m3 :: tl', hm2, hp, h =>
        have k1 := (h.gt v1 List.mem_cons_self).1
        have k2 := (h.gt v2 (List.mem_cons_of_mem _ List.mem_cons_self)).1
        have hl1 : link qs (fl m) w v1 := hp.1
        have ef : (fl m).1 = m2.1 := e2.symm
        rcases List.mem_cons.mp hm2 with rfl | hm2
        · rcases link_same ef hl1 hp.2.1 with ⟨e4, _⟩ | ⟨e4, _⟩
          · exact k1 e4.symm
          · exact k2 e4.symm
        · obtain ⟨x, y, g1, g2, g3⟩ := path_in hp.2.2 hm2
          have g2 : x ∈ v2 :: us' := by
            have : (v2 :: us' ++ [w]).dropLast = v2 :: us' := List.dropLast_concat
            rw [← this]
            exact g2
          rcases link_same ef hl1 g1 with ⟨e4, _⟩ | ⟨_, e4⟩
          · exact (h.gt x (List.mem_cons_of_mem _ g2)).1 e4.symm
          · have hn := (List.nodup_cons.mp h.nd).1
            rw [e4] at hn
            exact hn g2
theorem rev_mem {ws : List Str} {qs : List QD} {g : List (List Mk)} (hne : ∀ q ∈ qs, q.st ≠ q.en) (h : Rn qs (startP ws) g) {r : List Mk} (hr : r ∈ g) : revR r ∈ g := by
  obtain ⟨w, hw, us, hR⟩ := (ring_mem hne h r).mp hr
  exact (ring_mem hne h _).mpr ⟨w, hw, _, ring_rev hR⟩
/-! ### starts and ends exchanged -/
def swQ (q : QD) : QD := ⟨q.nm, q.en, q.st, q.room, q.gap⟩
def sw (r : List Mk) : List Mk := r.map fl
def swG (a : Gs) : Gs := ⟨sw a.row, a.met⟩
def swP (p : Ps) : Ps := (p.1.map sw, p.2.map swG)
theorem sw_fst {r : List Mk} : (sw r).map (·.1) = r.map (·.1) := by
  unfold sw
  rw [List.map_map]
  rfl
theorem tch_sw {qs : List QD} (hne : ∀ q ∈ qs, q.st ≠ q.en) {v : Str} {i : Nat} : tch (qs.map swQ) v i = (tch qs v i).map fl := by
  unfold tch
  rw [List.getElem?_map]
  cases hq : qs[i]? with
  | none => rfl
  | some q =>
    have hn := hne q (List.mem_of_getElem? hq)
    show (if q.en = v then some (i, true) else if q.st = v then some (i, false) else none) = (if q.st = v then some (i, true) else if q.en = v then some (i, false) else none).map fl
    by_cases h1 : q.st = v
    · rw [if_pos h1, if_pos h1, if_neg (by rw [← h1]; exact fun e => hn e.symm)]
      rfl
    · rw [if_neg h1, if_neg h1]
      by_cases h2 : q.en = v
      · rw [if_pos h2, if_pos h2]
        rfl
      · rw [if_neg h2, if_neg h2]
        rfl
theorem touch_sw {qs : List QD} (hne : ∀ q ∈ qs, q.st ≠ q.en) {v : Str} {k : Nat} : touchN (qs.map swQ) v k = (touchN qs v k).map fl := by
  unfold touchN
  rw [List.map_filterMap]
  congr 1
  funext i
  exact tch_sw hne
theorem far_sw {qs : List QD} {m : Mk} : far (qs.map swQ) (fl m) = far qs m := by
  unfold far
  rw [show (fl m).1 = m.1 from rfl, List.getElem?_map]
  cases qs[m.1]? with
  | none => rfl
  | some q =>
    show (if (!m.2) = true then q.st else q.en) = if m.2 = true then q.en else q.st
    cases m.2 <;> rfl
theorem one_sw {qs : List QD} {a : Gs} {p : Ps} {m : Mk} : one (qs.map swQ) (swG a) (swP p) (fl m) = swP (one qs a p m) := by
  unfold one
  rw [far_sw, show hdG (swG a) = hdG a from rfl, show (swG a).met = a.met from rfl, show (swG a).row = sw a.row from rfl, sw_fst, show (fl m).1 = m.1 from rfl]
  have er : (sw a.row ≠ []) = (a.row ≠ []) := by
    unfold sw
    rw [ne_eq, List.map_eq_nil_iff]
  by_cases e : far qs m = hdG a
  · rw [if_pos e, if_pos e]
    by_cases c : a.row ≠ [] ∧ m.1 ∉ a.row.map (·.1)
    · rw [if_pos c, if_pos (by rw [er]; exact c)]
      unfold swP sw
      simp
    · rw [if_neg c, if_neg (by rw [er]; exact c)]
  · rw [if_neg e, if_neg e]
    by_cases c : gtS (far qs m) (hdG a) = true ∧ far qs m ∉ a.met
    · rw [if_pos c, if_pos c]
      unfold swP swG sw
      simp
    · rw [if_neg c, if_neg c]
theorem stp_sw {qs : List QD} (hne : ∀ q ∈ qs, q.st ≠ q.en) {f : List (List Mk)} {o : List Gs} {a : Gs} : stp (qs.map swQ) (f.map sw) (o.map swG) (swG a) = swP (stp qs f o a) := by
  unfold stp
  rw [List.length_map, show lsG (swG a) = lsG a from rfl, touch_sw hne, List.foldl_map]
  have : ∀ (l : List Mk) (p : Ps), l.foldl (fun x y => one (qs.map swQ) (swG a) x (fl y)) (swP p) = swP (l.foldl (one qs a) p) := by
    intro l
    induction l with
    | nil => exact fun _ => rfl
    | cons m l ih =>
      intro p
      rw [List.foldl_cons, List.foldl_cons, one_sw, ih]
  exact this _ (f, o)
theorem rn_sw {qs : List QD} (hne : ∀ q ∈ qs, q.st ≠ q.en) {p : Ps} {g : List (List Mk)} (h : Rn qs p g) : Rn (qs.map swQ) (swP p) (g.map sw) := by
  induction h with
  | done f => exact .done _
  | next f o a g _ ih =>
    have e : swP (f, o ++ [a]) = (f.map sw, o.map swG ++ [swG a]) := by
      unfold swP
      simp
    rw [e]
    refine .next _ _ _ _ ?_
    rw [stp_sw hne]
    exact ih
theorem start_sw {ws : List Str} : swP (startP ws) = startP ws := by
  unfold swP startP
  rw [List.map_map]
  rfl
theorem pr_sw {qs : List QD} {m : Mk} : prQ (qs.map swQ) m = prQ qs m := by
  unfold prQ
  rw [List.getElem?_map]
  cases qs[m.1]? <;> rfl
theorem isum_rev (l : List Int) : l.reverse.sum = l.sum := by
  have app : ∀ (a b : List Int), (a ++ b).sum = a.sum + b.sum := by
    intro a b
    induction a with
    | nil => rw [List.nil_append, List.sum_nil]; omega
    | cons x a ih => rw [List.cons_append, List.sum_cons, List.sum_cons, ih]; omega
  induction l with
  | nil => rfl
  | cons x l ih => rw [List.reverse_cons, app, ih, List.sum_cons, List.sum_cons, List.sum_nil]; omega
theorem cost_sw {qs : List QD} {r : List Mk} : costQ (qs.map swQ) (sw r) = costQ qs (revR r) := by
  unfold costQ sw revR
  rw [List.map_reverse, isum_rev]
  congr 1
  exact List.map_congr_left fun m _ => pr_sw
theorem slC_set {l1 l2 : List Int} (h : ∀ x, x ∈ l1 ↔ x ∈ l2) : minV l1 = minV l2 := by
  match l1, l2, h with
  | [], [], _ => rfl
  | [], y :: l2, h => exact absurd ((h y).mpr List.mem_cons_self) List.not_mem_nil
  | x :: l1, [], h => exact absurd ((h x).mp List.mem_cons_self) List.not_mem_nil
  | x :: l1, y :: l2, h =>
    have key : ∀ {a b : Int} {l m : List Int}, (∀ z, z ∈ a :: l → z ∈ b :: m) → m.foldl min b ≤ l.foldl min a := fun {a b l m} hs => by
      have hm : l.foldl min a ∈ a :: l := by
        rcases fmin_mem (l := l) (b := a) with e | e
        · rw [e]
          exact List.mem_cons_self
        · exact List.mem_cons_of_mem _ e
      rcases List.mem_cons.mp (hs _ hm) with e | e
      · rw [e]
        exact fmin_le.1
      · exact fmin_le.2 _ e
    show V.int _ = V.int _
    rw [Int.le_antisymm (key fun z hz => (h z).mpr hz) (key fun z hz => (h z).mp hz)]
theorem min_sw {ws : List Str} {qs : List QD} {g : List (List Mk)} (hne : ∀ q ∈ qs, q.st ≠ q.en) (h : Rn qs (startP ws) g) : minV ((g.map sw).map (costQ (qs.map swQ))) = minV (g.map (costQ qs)) := by
  refine slC_set fun x => ?_
  rw [List.map_map, List.mem_map, List.mem_map]
  constructor
  · rintro ⟨r, hr, rfl⟩
    exact ⟨revR r, rev_mem hne h hr, cost_sw.symm⟩
  · rintro ⟨r, hr, rfl⟩
    refine ⟨revR r, rev_mem hne h hr, ?_⟩
    show costQ (qs.map swQ) (sw (revR r)) = costQ qs r
    rw [cost_sw, revR_revR]
/-! ### nobody held, and numbers that show it -/
theorem ded_all : ∀ {xs acc : List Str}, (∀ x ∈ xs, x ∈ acc) → xs.foldl stepD acc = acc
  | [], _, _ => rfl
  | x :: xs, acc, h => by
    rw [List.foldl_cons]
    have e : stepD acc x = acc := if_pos (h x List.mem_cons_self)
    rw [e]
    exact ded_all fun y hy => h y (List.mem_cons_of_mem _ hy)
theorem ded_new : ∀ {xs acc : List Str}, (acc ++ xs).Nodup → xs.foldl stepD acc = acc ++ xs
  | [], acc, _ => (List.append_nil acc).symm
  | x :: xs, acc, h => by
    rw [List.foldl_cons]
    have hx : x ∉ acc := fun hx => by
      have := (List.nodup_append.mp h).2.2 x hx x List.mem_cons_self
      exact this rfl
    have e : stepD acc x = acc ++ [x] := if_neg hx
    rw [e, ded_new (by rw [List.append_assoc]; exact h), List.append_assoc]
    rfl
theorem arcs_on {ws : List Str} {qs : List QD} (g : NetG ws qs) {sc tl : Int} : ArcsOn ws (arcsF sc tl qs) := fun a ha => by
  obtain ⟨q, hq, h⟩ := List.mem_flatMap.mp ha
  obtain ⟨g1, g2, _⟩ := g.q1 q hq
  rcases mem2 h with rfl | rfl
  · exact ⟨g1, g2⟩
  · exact ⟨g2, g1⟩
theorem least_n {ws : List Str} {as : List Arc} (hn : ws.Nodup) (ho : ArcsOn ws as) : leastN as (zeroM ws) = ws.length := by
  unfold leastN zeroM dedS
  rw [List.map_map, show (fun p : Str × Int => p.1) ∘ (fun x => (x, (0 : Int))) = id from rfl, List.map_id, List.foldl_append, ded_new (acc := []) (by rw [List.nil_append]; exact hn), List.nil_append, ded_all fun x hx => by
    obtain ⟨a, ha, rfl⟩ := List.mem_map.mp hx
    exact (ho a ha).2]
theorem lk_zero {v : Str} : ∀ {ws : List Str}, v ∈ ws → lk (zeroM ws) v = some 0
  | x :: ws, h => by
    unfold zeroM
    rw [List.map_cons]
    unfold lk
    by_cases e : x = v
    · rw [if_pos e]
    · rw [if_neg e]
      rcases List.mem_cons.mp h with h | h
      · exact absurd h.symm e
      · exact lk_zero h
theorem grad_iff {ws : List Str} {qs : List QD} (hn : ws.Nodup) (hg : NetG ws qs) (h0 : ws ≠ []) (sc : Int) :
    ((gradF ws qs sc).low = none → Pot (arcsF sc 1 qs) (valS (gradF ws qs sc)) ∧ FullS ws (gradF ws qs sc)) ∧ ∀ y, Pot (arcsF sc 1 qs) y → (gradF ws qs sc).low = none := by
  have ho := arcs_on hg (sc := sc) (tl := 1)
  have hl : 1 ≤ ws.length := List.length_pos_iff.mpr h0
  have hf : FullS ws ⟨zeroM ws, [], none⟩ := fun v hv => ⟨0, lk_zero hv⟩
  have hv : ∀ v ∈ ws, valS ⟨zeroM ws, [], none⟩ v = 0 := fun v hv => by
    unfold valS
    rw [lk_zero hv]
    rfl
  unfold gradF leastF
  rw [least_n hn ho]
  refine ⟨turns_pot ho ws.length _ hf hl, fun y hy => ?_⟩
  refine turns_none ho hy (N := ws.length - 1) (by omega) ws.length 0 _ (by omega) hl hf (fun v h => by rw [hv v h]; exact Int.le_refl _) fun v h => ?_
  rw [hv v h]
  exact dmin_mono (as := arcsF sc 1 qs) (v := v) (Nat.zero_le _)
theorem pot_q {qs : List QD} {sc tl : Int} {y : Str → Int} : Pot (arcsF sc tl qs) y ↔ ∀ q ∈ qs, y q.en ≤ y q.st + (sc * q.room - tl) ∧ y q.st ≤ y q.en + (sc * (1 - q.gap) - tl) := by
  constructor
  · intro h q hq
    exact ⟨h _ (List.mem_flatMap.mpr ⟨q, hq, List.mem_cons_self⟩), h _ (List.mem_flatMap.mpr ⟨q, hq, List.mem_cons_of_mem _ List.mem_cons_self⟩)⟩
  · intro h a ha
    obtain ⟨q, hq, h2⟩ := List.mem_flatMap.mp ha
    rcases mem2 h2 with rfl | rfl
    · exact (h q hq).1
    · exact (h q hq).2
theorem pot_sw {qs : List QD} {sc tl : Int} {y : Str → Int} (h : Pot (arcsF sc tl qs) y) : Pot (arcsF sc tl (qs.map swQ)) fun v => -y v := by
  rw [pot_q] at h ⊢
  intro q hq
  obtain ⟨z, hz, rfl⟩ := List.mem_map.mp hq
  obtain ⟨h1, h2⟩ := h z hz
  show -y z.st ≤ -y z.en + _ ∧ -y z.en ≤ -y z.st + _
  exact ⟨by show -y z.st ≤ -y z.en + (sc * z.room - tl); omega, by show -y z.en ≤ -y z.st + (sc * (1 - z.gap) - tl); omega⟩
theorem netG_sw {ws : List Str} {qs : List QD} (g : NetG ws qs) : NetG ws (qs.map swQ) := by
  refine ⟨fun q hq => ?_, ?_⟩
  · obtain ⟨z, hz, rfl⟩ := List.mem_map.mp hq
    obtain ⟨g1, g2, g3⟩ := g.q1 z hz
    exact ⟨g2, g1, fun e => g3 e.symm⟩
  · rw [List.map_map]
    exact g.nn
theorem sw_sw {qs : List QD} : (qs.map swQ).map swQ = qs := by
  rw [List.map_map]
  exact List.map_id qs
theorem never_sw {ws : List Str} {qs : List QD} (hn : ws.Nodup) (hg : NetG ws qs) (h0 : ws ≠ []) : neverF ws (qs.map swQ) = neverF ws qs := by
  unfold neverF
  have key : ∀ qs, NetG ws qs → (gradF ws qs ws.length).low = none → (gradF ws (qs.map swQ) ws.length).low = none := fun qs hg h =>
    (grad_iff hn (netG_sw hg) h0 _).2 _ (pot_sw ((grad_iff hn hg h0 _).1 h).1)
  refine decide_eq_decide.mpr ⟨fun h => ?_, key qs hg⟩
  have := key _ (netG_sw hg) h
  rwa [sw_sw] at this
end Jl

set_option Elab.async false
set_option linter.all false
set_option maxRecDepth 100000
set_option maxHeartbeats 1000000
set_option pp.maxSteps 300
namespace Jl
open PySem PySem.Spec PyProof.Rows L2
open Evl (sz_of sz_lt)

/-! ### rings of arcs, and numbers that show that none comes below 0 -/
/-- arcs backwards: each one ends where the one ahead of it begins -/
def BackW : Str → List Arc → Prop
  | _, [] => True
  | v, a :: es => a.to = v ∧ BackW a.fr es
def endW : Str → List Arc → Str
  | v, [] => v
  | _, a :: es => endW a.fr es
def sumW (es : List Arc) : Int := (es.map (·.wt)).sum
/-- no simple ring of arcs comes below 0 -/
def NoNeg (as : List Arc) : Prop := ∀ (v : Str) (es : List Arc), es ≠ [] → (∀ a ∈ es, a ∈ as) → BackW v es → endW v es = v → (es.map (·.fr)).Nodup → 0 ≤ sumW es
theorem back_take : ∀ {es : List Arc} {v : Str} (k : Nat), BackW v es → BackW v (es.take k)
  | [], _, _, _ => by rw [List.take_nil]; trivial
  | a :: es, v, 0, _ => trivial
  | a :: es, v, k + 1, h => ⟨h.1, back_take k h.2⟩
theorem sum_cons {a : Arc} {es : List Arc} : sumW (a :: es) = a.wt + sumW es := List.sum_cons
/-- where one stands after so many arcs back -/
def nodeW (v : Str) (es : List Arc) (k : Nat) : Str := endW v (es.take k)
theorem chain_nn {ws : List Str} {as : List Arc} (ho : ArcsOn ws as) (hn : NoNeg as) : ∀ (m : Nat) (v : Str), v ∈ ws → (m = 0 ∨ dmin as m v < dmin as (m - 1) v) →
    ∃ es : List Arc, es.length = m ∧ (∀ a ∈ es, a ∈ as) ∧ BackW v es ∧ (v :: es.map (·.fr)).Nodup ∧ ∀ k, k ≤ m → dmin as m v = dmin as (m - k) (nodeW v es k) + sumW (es.take k)
  | 0, v, _, _ => ⟨[], rfl, fun a ha => absurd ha List.not_mem_nil, trivial, by simp, fun k hk => by
      have : k = 0 := by omega
      rw [this]
      show dmin as 0 v = dmin as 0 v + 0
      omega⟩
  | m + 1, v, hv, h => by
    have h : dmin as (m + 1) v < dmin as m v := h.resolve_left (by omega)
    obtain ⟨a, ha, hto, he⟩ := dmin_new h
    have hfr : m = 0 ∨ dmin as m a.fr < dmin as (m - 1) a.fr := by
      by_cases e : m = 0
      · exact .inl e
      · refine .inr ?_
        have h1 := dmin_arc (k := m - 1) ha
        rw [show m - 1 + 1 = m by omega, hto] at h1
        omega
    obtain ⟨es, l1, l2, l3, l4, l5⟩ := chain_nn ho hn m a.fr (ho a ha).1 hfr
    have h5 : ∀ k, k ≤ m + 1 → dmin as (m + 1) v = dmin as (m + 1 - k) (nodeW v (a :: es) k) + sumW ((a :: es).take k) := fun k hk => by
      cases k with
      | zero =>
        show dmin as (m + 1) v = dmin as (m + 1) v + 0
        omega
      | succ k =>
        have := l5 k (by omega)
        rw [List.take_succ_cons, sum_cons, show m + 1 - (k + 1) = m - k by omega]
        show dmin as (m + 1) v = dmin as (m - k) (nodeW a.fr es k) + _
        omega
    refine ⟨a :: es, by rw [List.length_cons, l1], fun x hx => ?_, ⟨hto, l3⟩, List.nodup_cons.mpr ⟨fun hv2 => ?_, l4⟩, h5⟩
    · rcases List.mem_cons.mp hx with rfl | hx
      · exact ha
      · exact l2 x hx
    · obtain ⟨j, hj, ej⟩ := List.getElem_of_mem hv2
      have hjl : j < m + 1 := by
        rw [List.length_map, List.length_cons, l1] at hj
        exact hj
      have nd : ∀ (es : List Arc) (v : Str) (j : Nat) (hj : j < es.length), nodeW v es (j + 1) = (es[j]).fr := by
        intro es
        induction es with
        | nil => exact fun _ _ hj => absurd hj (Nat.not_lt_zero _)
        | cons b es ih =>
          intro v j hj
          cases j with
          | zero => rfl
          | succ j => exact ih b.fr j (by simpa using hj)
      have hnode : nodeW v (a :: es) (j + 1) = v := by
        rw [nd (a :: es) v j (by rw [List.length_cons, l1]; omega)]
        rw [List.getElem_map] at ej
        exact ej
      have hk := h5 (j + 1) (by omega)
      rw [hnode] at hk
      have hmon := dmin_mono (as := as) (v := v) (j := m + 1 - (j + 1)) (k := m) (by omega)
      have hneg : sumW ((a :: es).take (j + 1)) < 0 := by omega
      have := hn v ((a :: es).take (j + 1)) (by simp) (fun x hx => by
        rcases List.mem_cons.mp (List.mem_of_mem_take hx) with rfl | hx
        · exact ha
        · exact l2 x hx) (back_take _ ⟨hto, l3⟩) hnode (by
        rw [List.map_take]
        exact l4.sublist (List.take_sublist _ _))
      omega
theorem dmin_nn {ws : List Str} {as : List Arc} (ho : ArcsOn ws as) (hn : NoNeg as) {m : Nat} (hm : ws.length ≤ m + 1) : Pot as (dmin as m) := fun a ha => by
  have h1 := dmin_arc (k := m) ha
  have hv := (ho a ha).2
  by_cases h : dmin as (m + 1) a.to < dmin as m a.to
  · obtain ⟨es, l1, l2, l3, l4, _⟩ := chain_nn ho hn (m + 1) a.to hv (.inr h)
    have hs : ∀ x ∈ a.to :: es.map (·.fr), x ∈ ws := fun x hx => by
      rcases List.mem_cons.mp hx with rfl | hx
      · exact hv
      · obtain ⟨b, hb, rfl⟩ := List.mem_map.mp hx
        exact (ho b (l2 b hb)).1
    have := nodup_le l4 hs
    rw [List.length_cons, List.length_map, l1] at this
    omega
  · omega
theorem pot_of_nn {ws : List Str} {as : List Arc} (ho : ArcsOn ws as) (hn : NoNeg as) : ∃ y, Pot as y := ⟨_, dmin_nn ho hn (m := ws.length) (by omega)⟩
/-- the other way round: a ring of arcs never comes below 0 -/
theorem pot_ring {as : List Arc} {y : Str → Int} (hy : Pot as y) : ∀ (es : List Arc) (v : Str), (∀ a ∈ es, a ∈ as) → BackW v es → y v ≤ y (endW v es) + sumW es
  | [], v, _, _ => by
    show y v ≤ y v + 0
    omega
  | a :: es, v, h, hb => by
    have h1 := hy a (h a List.mem_cons_self)
    have h2 := pot_ring hy es a.fr (fun b hb => h b (List.mem_cons_of_mem _ hb)) hb.2
    rw [hb.1] at h1
    rw [sum_cons]
    show y v ≤ y (endW a.fr es) + _
    omega
/-! ### rings of a net as rings of arcs -/
theorem back_app : ∀ {xs ys : List Arc} {v : Str}, BackW v (xs ++ ys) ↔ BackW v xs ∧ BackW (endW v xs) ys
  | [], ys, v => ⟨fun h => ⟨trivial, h⟩, fun h => h.2⟩
  | x :: xs, ys, v => by
    show x.to = v ∧ BackW x.fr (xs ++ ys) ↔ (x.to = v ∧ BackW x.fr xs) ∧ BackW (endW x.fr xs) ys
    rw [back_app, and_assoc]
theorem end_app : ∀ {xs ys : List Arc} {v : Str}, endW v (xs ++ ys) = endW (endW v xs) ys
  | [], _, _ => rfl
  | x :: xs, ys, v => end_app (xs := xs) (v := x.fr)
theorem isum_app (a b : List Int) : (a ++ b).sum = a.sum + b.sum := by
  induction a with
  | nil => rw [List.nil_append, List.sum_nil]; omega
  | cons x a ih => rw [List.cons_append, List.sum_cons, List.sum_cons, ih]; omega
theorem sumW_app {xs ys : List Arc} : sumW (xs ++ ys) = sumW xs + sumW ys := by
  unfold sumW
  rw [List.map_append, isum_app]
/-- a ring of arcs, begun elsewhere -/
theorem ring_rot {v : Str} {xs ys : List Arc} (hb : BackW v (xs ++ ys)) (he : endW v (xs ++ ys) = v) : BackW (endW v xs) (ys ++ xs) ∧ endW (endW v xs) (ys ++ xs) = endW v xs := by
  rw [back_app] at hb
  rw [end_app] at he
  refine ⟨back_app.mpr ⟨hb.2, ?_⟩, ?_⟩
  · rw [he]
    exact hb.1
  · rw [end_app, he]
/-- an arc of the net -/
theorem arc_link {qs : List QD} {sc tl : Int} {a : Arc} (h : a ∈ arcsF sc tl qs) : ∃ m : Mk, link qs m a.fr a.to ∧ a.wt = sc * prQ qs m - tl ∧ m.1 < qs.length := by
  obtain ⟨q, hq, h⟩ := List.mem_flatMap.mp h
  obtain ⟨i, hi, e⟩ := List.getElem_of_mem hq
  have hq' : qs[i]? = some q := by rw [List.getElem?_eq_getElem hi, e]
  rcases mem2 h with rfl | rfl
  · exact ⟨(i, true), ⟨q, hq', .inl ⟨rfl, rfl, rfl⟩⟩, by unfold prQ; rw [hq']; rfl, hi⟩
  · exact ⟨(i, false), ⟨q, hq', .inr ⟨rfl, rfl, rfl⟩⟩, by unfold prQ; rw [hq']; rfl, hi⟩
/-- arcs backwards as a path of the steps the other way round -/
theorem back_path {qs : List QD} {sc tl : Int} : ∀ {es : List Arc} {v : Str}, (∀ a ∈ es, a ∈ arcsF sc tl qs) → BackW v es → ∃ ms : List Mk, ms.length = es.length ∧ path qs (v :: es.map (·.fr)).reverse ms.reverse ∧ sumW es = sc * (ms.map (prQ qs)).sum - tl * es.length
  | [], v, _, _ => ⟨[], rfl, trivial, by show (0 : Int) = sc * 0 - tl * 0; omega⟩
  | a :: es, v, h, hb => by
    obtain ⟨ms, h1, h2, h3⟩ := back_path (fun b hb => h b (List.mem_cons_of_mem _ hb)) hb.2
    obtain ⟨m, hl, hw, _⟩ := arc_link (h a List.mem_cons_self)
    refine ⟨m :: ms, by rw [List.length_cons, List.length_cons, h1], ?_, ?_⟩
    · rw [hb.1] at hl
      rw [List.reverse_cons] at h2
      have := path_snoc hl h2
      rw [List.map_cons, List.reverse_cons, List.reverse_cons, List.reverse_cons, List.append_assoc]
      exact this
    · rw [sum_cons, h3, hw, List.map_cons, List.sum_cons, List.length_cons, Int.mul_add]
      have : tl * ((es.length + 1 : Nat) : Int) = tl * (es.length : Int) + tl := by
        rw [Int.natCast_add, Int.mul_add]
        omega
      rw [this]
      omega
end Jl

set_option Elab.async false
set_option linter.all false
set_option maxRecDepth 100000
set_option maxHeartbeats 1000000
set_option pp.maxSteps 300
namespace Jl
open PySem PySem.Spec PyProof.Rows L2
open Evl (sz_of sz_lt)

/-! ### no ring of arcs below 0: no bad ring -/
theorem first_not {qs : List QD} {w v1 v2 : Str} {us : List Str} {m : Mk} {tl : List Mk} (hp : path qs (w :: v1 :: v2 :: us ++ [w]) (m :: tl)) (hn : (v1 :: v2 :: us).Nodup) (hw : w ∉ v1 :: v2 :: us) : ∀ m2 ∈ tl, m2.1 ≠ m.1 := by
  intro m2 hm2 e2
  match tl, hm2, hp with
  | [], hm2, _ => exact absurd hm2 List.not_mem_nil
  | m3 :: tl', hm2, hp =>
    have k1 : v1 ≠ w := fun e => hw (by rw [e]; exact List.mem_cons_self)
    have k2 : v2 ≠ w := fun e => hw (by rw [e]; exact List.mem_cons_of_mem _ List.mem_cons_self)
    have hl1 : link qs m w v1 := hp.1
    have ef : m.1 = m2.1 := e2.symm
    rcases List.mem_cons.mp hm2 with rfl | hm2
    · rcases link_same ef hl1 hp.2.1 with ⟨e4, _⟩ | ⟨e4, _⟩
      · exact k1 e4.symm
      · exact k2 e4.symm
    · obtain ⟨x, y, g1, g2, g3⟩ := path_in hp.2.2 hm2
      have g2 : x ∈ v2 :: us := by
        have : (v2 :: us ++ [w]).dropLast = v2 :: us := List.dropLast_concat
        rw [← this]
        exact g2
      rcases link_same ef hl1 g1 with ⟨e4, _⟩ | ⟨_, e4⟩
      · exact hw (by rw [e4]; exact List.mem_cons_of_mem _ g2)
      · have hn := (List.nodup_cons.mp hn).1
        rw [e4] at hn
        exact hn g2
theorem str_ext' {a b : Str} (h : a.cps.toList = b.cps.toList) : a = b := by
  obtain ⟨x⟩ := a
  obtain ⟨y⟩ := b
  have : x = y := Array.toList_inj.mp h
  rw [this]
theorem gtS_tot {a b : Str} (h : a ≠ b) : gtS a b = true ∨ gtS b a = true := by
  unfold gtS
  rw [decide_eq_true_eq, decide_eq_true_eq]
  by_cases h1 : b.cps.toList < a.cps.toList
  · exact .inl h1
  · by_cases h2 : a.cps.toList < b.cps.toList
    · exact .inr h2
    · exact absurd (str_ext' (List.le_antisymm (List.not_lt.mp h1) (List.not_lt.mp h2))) h
theorem gtS_trans {a b c : Str} (h1 : gtS a b = true) (h2 : gtS b c = true) : gtS a c = true := by
  unfold gtS at *
  rw [decide_eq_true_eq] at *
  exact List.lt_trans h2 h1
theorem least_of : ∀ {l : List Str}, l ≠ [] → ∃ w ∈ l, ∀ u ∈ l, u = w ∨ gtS u w = true
  | [x], _ => ⟨x, List.mem_cons_self, fun u hu => .inl (List.mem_singleton.mp hu)⟩
  | x :: y :: l, _ => by
    obtain ⟨w, hw, h⟩ := least_of (l := y :: l) (List.cons_ne_nil _ _)
    by_cases e : x = w
    · refine ⟨w, List.mem_cons_of_mem _ hw, fun u hu => ?_⟩
      rcases List.mem_cons.mp hu with rfl | hu
      · exact .inl e
      · exact h u hu
    · rcases gtS_tot e with g | g
      · refine ⟨w, List.mem_cons_of_mem _ hw, fun u hu => ?_⟩
        rcases List.mem_cons.mp hu with rfl | hu
        · exact .inr g
        · exact h u hu
      · refine ⟨x, List.mem_cons_self, fun u hu => ?_⟩
        rcases List.mem_cons.mp hu with rfl | hu
        · exact .inl rfl
        · rcases h u hu with rfl | h
          · exact .inr g
          · exact .inr (gtS_trans h g)
/-- rings of arcs are rings of the net, or one queue there and back -/
theorem noneg_of {ws : List Str} {qs : List QD} {sc : Int} (hG : NetG ws qs) (hR : ∀ w us r, w ∈ ws → RingW qs w us r → (r.length : Int) ≤ sc * costQ qs r) (hQ : ∀ q ∈ qs, 2 ≤ sc * (q.room - q.gap + 1)) : NoNeg (arcsF sc 1 qs) := by
  intro v es hne ha hb he hn
  obtain ⟨w, hw, hleast⟩ := least_of (l := es.map (·.fr)) (fun e => hne (List.map_eq_nil_iff.mp e))
  obtain ⟨a, hae, hfr⟩ := List.mem_map.mp hw
  obtain ⟨xs0, ys, e0⟩ := List.append_of_mem hae
  have e1 : es = (xs0 ++ [a]) ++ ys := by rw [e0, List.append_assoc]; rfl
  have hend : endW v (xs0 ++ [a]) = w := by
    rw [end_app]
    exact hfr
  rw [e1] at hb he
  obtain ⟨hb2, he2⟩ := ring_rot hb he
  rw [hend] at hb2 he2
  have hsum : sumW (ys ++ (xs0 ++ [a])) = sumW es := by
    rw [e1, sumW_app, sumW_app, sumW_app, sumW_app]
    omega
  have hmap : (ys ++ (xs0 ++ [a])).map (·.fr) = (ys ++ xs0).map (·.fr) ++ [w] := by
    rw [← List.append_assoc, List.map_append, List.map_cons, List.map_nil, hfr]
  have hperm : (ys ++ (xs0 ++ [a])).Perm es := by
    rw [e1]
    exact List.perm_append_comm
  have hnd : ((ys ++ xs0).map (·.fr) ++ [w]).Nodup := by
    rw [← hmap]
    exact (hperm.map _).nodup_iff.mpr hn
  have hle : ∀ u ∈ (ys ++ xs0).map (·.fr), u = w ∨ gtS u w = true := fun u hu => hleast u ((hperm.map _).mem_iff.mp (by rw [hmap]; exact List.mem_append_left _ hu))
  have hmem : ∀ b ∈ ys ++ (xs0 ++ [a]), b ∈ arcsF sc 1 qs := fun b hb => ha b (hperm.mem_iff.mp hb)
  have hww : w ∈ ws := by
    rw [← hfr]
    exact (arcs_on hG (sc := sc) (tl := 1) a (ha a hae)).1
  rw [← hsum]
  obtain ⟨ms, l1, l2, l3⟩ := back_path hmem hb2
  have hlen : (ys ++ (xs0 ++ [a])).length = ((ys ++ xs0).map (·.fr)).length + 1 := by
    rw [← List.length_map (f := fun b : Arc => b.fr), hmap, List.length_append]
    rfl
  rw [l3]
  rw [hmap] at l2
  clear hmap l3 hsum hperm hmem hb2 he2
  generalize (ys ++ xs0).map (·.fr) = us at l2 hlen hnd hle
  rw [hlen] at l1 ⊢
  have hwu : w ∉ us := fun h => (List.nodup_append.mp hnd).2.2 w h w (List.mem_singleton.mpr rfl) rfl
  have hun : us.Nodup := (List.nodup_append.mp hnd).1
  have erev : (w :: (us ++ [w])).reverse = w :: us.reverse ++ [w] := by simp
  rw [erev] at l2
  have hcost : (ms.map (prQ qs)).sum = costQ qs ms.reverse := by
    unfold costQ
    rw [List.map_reverse, isum_rev]
  rw [hcost]
  generalize hr : ms.reverse = r at l2 hcost ⊢
  have hrl : r.length = us.length + 1 := by rw [← hr, List.length_reverse, l1]
  have goal : ((r.length : Nat) : Int) ≤ sc * costQ qs r → 0 ≤ sc * costQ qs r - 1 * ((us.length + 1 : Nat) : Int) := fun h => by
    rw [hrl] at h
    omega
  have hvn : us.reverse.Nodup := (List.reverse_perm us).nodup_iff.mpr hun
  have hvw : w ∉ us.reverse := fun h => hwu (List.mem_reverse.mp h)
  have hvg : ∀ u ∈ us.reverse, u ≠ w ∧ gtS u w = true := fun u hu => by
    have hu' := List.mem_reverse.mp hu
    have hne2 : u ≠ w := fun e => hwu (by rw [← e]; exact hu')
    exact ⟨hne2, (hle u hu').resolve_left hne2⟩
  have hvl : us.reverse.length = us.length := List.length_reverse ..
  generalize us.reverse = vs at l2 hvn hvw hvg hvl
  have hring : vs ≠ [] → (∀ (pre : List Mk) (m : Mk), r = pre ++ [m] → m.1 ∉ pre.map (·.1)) → 0 ≤ sc * costQ qs r - 1 * ((us.length + 1 : Nat) : Int) := fun h1 h2 =>
    goal (hR w vs r hww ⟨l2, h1, hvn, hvg, h2⟩)
  match vs, l2, hvl, hvn, hvw, hvg, hring with
  | [], l2, _, _, _, _, _ =>
    match r, l2 with
    | [m], l2 => exact absurd rfl (far_mem hG l2.1).2
    | _ :: _ :: _, l2 => exact absurd l2.2 id
    | [], l2 => exact absurd l2 id
  | [u], l2, hvl, _, hvw, _, hring =>
    match r, l2, hring with
    | [], l2, _ => exact absurd l2 id
    | [_], l2, _ => exact absurd l2.2 id
    | _ :: _ :: _ :: _, l2, _ => exact absurd l2.2.2 id
    | [m1, m2], l2, hring =>
      by_cases hd : m1.1 = m2.1
      · obtain ⟨q, hq, h1⟩ := l2.1
        obtain ⟨q', hq', h2⟩ := l2.2.1
        have eq' : q' = q := by
          rw [← hd, hq] at hq'
          exact (Option.some.inj hq').symm
        subst eq'
        have hqm := List.mem_of_getElem? hq
        have hn3 := (hG.q1 _ hqm).2.2
        have h5 := hQ _ hqm
        have hus1 : us.length = 1 := hvl.symm
        rw [hus1]
        have ec : costQ qs [m1, m2] = prQ qs m1 + prQ qs m2 := by
          unfold costQ
          rw [List.map_cons, List.map_cons, List.map_nil, List.sum_cons, List.sum_cons, List.sum_nil]
          omega
        have p1 : prQ qs m1 = if m1.2 = true then q'.room else 1 - q'.gap := by unfold prQ; rw [hq]
        have p2 : prQ qs m2 = if m2.2 = true then q'.room else 1 - q'.gap := by unfold prQ; rw [hq']
        rw [ec, p1, p2]
        have e6 : sc * (q'.room - q'.gap + 1) = sc * (q'.room + (1 - q'.gap)) := by congr 1; omega
        have e7 : sc * (q'.room - q'.gap + 1) = sc * (1 - q'.gap + q'.room) := by congr 1; omega
        rcases h1 with ⟨b1, s1, t1⟩ | ⟨b1, s1, t1⟩ <;> rcases h2 with ⟨b2, s2, t2⟩ | ⟨b2, s2, t2⟩
        · exact absurd (s1.trans t2.symm) hn3
        · rw [b1, b2, if_pos rfl, if_neg (by decide)]
          omega
        · rw [b1, b2, if_neg (by decide), if_pos rfl]
          omega
        · exact absurd (t1.trans s2.symm) hn3
      · refine hring (List.cons_ne_nil _ _) fun pre m e => ?_
        match pre, e with
        | [p], e =>
          cases e
          intro h
          rw [List.map_cons, List.map_nil, List.mem_singleton] at h
          exact hd h.symm
        | [], e => exact absurd (congrArg List.length e) (by simp)
        | _ :: _ :: _, e => exact absurd (congrArg List.length e) (by simp)
  | v1 :: v2 :: vs', l2, _, hvn, hvw, _, hring =>
    refine hring (List.cons_ne_nil _ _) fun pre m e => ?_
    intro hmp
    obtain ⟨m2, hm2, e2⟩ := List.mem_map.mp hmp
    have h1 := path_rev l2
    have e8 : (w :: v1 :: v2 :: vs' ++ [w]).reverse = w :: (v1 :: v2 :: vs').reverse ++ [w] := by simp
    have e9 : (r.map fl).reverse = fl m :: revR pre := by
      rw [e]
      unfold revR
      simp
    rw [e8, e9] at h1
    have hn2 : (v1 :: v2 :: vs').reverse.Nodup := (List.reverse_perm _).nodup_iff.mpr hvn
    have hw2 : w ∉ (v1 :: v2 :: vs').reverse := fun h => hvw (List.mem_reverse.mp h)
    have hl2 : (v1 :: v2 :: vs').reverse.length = vs'.length + 2 := by rw [List.length_reverse]; rfl
    generalize (v1 :: v2 :: vs').reverse = zs at h1 hn2 hw2 hl2
    match zs, hl2, h1, hn2, hw2 with
    | [], hl2, _, _, _ => exact absurd hl2 (by simp)
    | [_], hl2, _, _, _ => exact absurd hl2 (by simp)
    | z1 :: z2 :: zs', _, h1, hn2, hw2 =>
      refine first_not h1 hn2 hw2 (fl m2) ?_ e2
      unfold revR
      rw [List.mem_reverse]
      exact List.mem_map.mpr ⟨m2, hm2, rfl⟩
theorem pot_link {qs : List QD} {sc tl : Int} {y : Str → Int} (hy : Pot (arcsF sc tl qs) y) {m : Mk} {v u : Str} (h : link qs m v u) : y u ≤ y v + (sc * prQ qs m - tl) := by
  obtain ⟨q, hq, h⟩ := h
  obtain ⟨h1, h2⟩ := pot_q.mp hy q (List.mem_of_getElem? hq)
  have p1 : prQ qs m = if m.2 = true then q.room else 1 - q.gap := by unfold prQ; rw [hq]
  rw [p1]
  rcases h with ⟨b1, rfl, rfl⟩ | ⟨b1, rfl, rfl⟩
  · rw [b1, if_pos rfl]
    exact h1
  · rw [b1, if_neg (by decide)]
    exact h2
/-- and back: such numbers go round each ring -/
theorem pot_path {qs : List QD} {sc tl : Int} {y : Str → Int} (hy : Pot (arcsF sc tl qs) y) : ∀ {vs : List Str} {v : Str} {ms : List Mk} {u : Str}, path qs (v :: vs ++ [u]) ms → y u ≤ y v + (sc * costQ qs ms - tl * ms.length)
  | [], v, [], u, h => absurd h id
  | [], v, [m], u, h => by
    have := pot_link hy h.1
    have e : costQ qs [m] = prQ qs m := by
      unfold costQ
      rw [List.map_cons, List.map_nil, List.sum_cons, List.sum_nil]
      omega
    rw [e]
    show y u ≤ y v + (sc * prQ qs m - tl * 1)
    omega
  | [], v, m :: m' :: ms, u, h => absurd h.2 id
  | x :: vs, v, [], u, h => absurd h id
  | x :: vs, v, m :: ms, u, h => by
    have h1 := pot_link hy h.1
    have h2 := pot_path hy (vs := vs) (v := x) h.2
    have e : costQ qs (m :: ms) = prQ qs m + costQ qs ms := by
      unfold costQ
      rw [List.map_cons, List.sum_cons]
    have e2 : tl * ((ms.length + 1 : Nat) : Int) = tl * (ms.length : Int) + tl := by
      rw [Int.natCast_add, Int.mul_add]
      omega
    rw [e, Int.mul_add, List.length_cons, e2]
    omega
end Jl

set_option Elab.async false
set_option linter.all false
set_option maxRecDepth 100000
set_option maxHeartbeats 1000000
set_option pp.maxSteps 300
namespace Jl
open PySem PySem.Spec PyProof.Rows L2
open Evl (sz_of sz_lt)

/-! ### nobody is ever held just if no ring is bad -/
theorem ring_len {ws : List Str} {qs : List QD} (hG : NetG ws qs) {w : Str} {us : List Str} {r : List Mk} (hw : w ∈ ws) (h : RingW qs w us r) : r.length ≤ ws.length ∧ 2 ≤ r.length := by
  have len : ∀ {vs : List Str} {ms : List Mk}, path qs vs ms → vs.length = ms.length + 1 := by
    intro vs
    induction vs with
    | nil => exact fun h => absurd h id
    | cons v vs ih =>
      intro ms h
      match vs, ms, h with
      | [], [], _ => rfl
      | [], _ :: _, h => exact absurd h id
      | u :: vs, [], h => exact absurd h id
      | u :: vs, m :: ms, h =>
        have := ih h.2
        rw [List.length_cons, this, List.length_cons]
  have mem : ∀ {vs : List Str} {ms : List Mk} {v : Str}, path qs (v :: vs) ms → ∀ x ∈ vs, x ∈ ws := by
    intro vs
    induction vs with
    | nil => exact fun _ x hx => absurd hx List.not_mem_nil
    | cons u vs ih =>
      intro ms v h x hx
      match ms, h with
      | m :: ms, h =>
        rcases List.mem_cons.mp hx with rfl | hx
        · exact (far_mem hG h.1).1
        · exact ih h.2 x hx
      | [], h => exact absurd h id
  have h1 := len h.pa
  have h2 := List.length_pos_iff.mpr h.ne
  have e : (w :: us ++ [w]).length = us.length + 2 := by simp
  have hn : (w :: us).Nodup := List.nodup_cons.mpr ⟨fun hz => (h.gt w hz).1 rfl, h.nd⟩
  have hs : ∀ x ∈ w :: us, x ∈ ws := fun x hx => by
    rcases List.mem_cons.mp hx with rfl | hx
    · exact hw
    · exact mem h.pa x (List.mem_append_left _ hx)
  have := nodup_le hn hs
  rw [List.length_cons] at this
  omega
theorem two_ws {ws : List Str} {qs : List QD} (hG : NetG ws qs) {q : QD} (hq : q ∈ qs) : 2 ≤ ws.length := by
  obtain ⟨h1, h2, h3⟩ := hG.q1 q hq
  have := nodup_le (l := [q.st, q.en]) (ws := ws) (by simp [h3]) fun x hx => by
    rcases mem2 hx with rfl | rfl
    · exact h1
    · exact h2
  exact this
theorem low_rings {ws : List Str} {qs : List QD} {g : List (List Mk)} (hn : ws.Nodup) (hG : NetG ws qs) (h0 : ws ≠ []) (hg : Rn qs (startP ws) g) (sc : Int) : (gradF ws qs sc).low = none ↔ (∀ r ∈ g, (r.length : Int) ≤ sc * costQ qs r) ∧ ∀ q ∈ qs, 2 ≤ sc * (q.room - q.gap + 1) := by
  have hne : ∀ q ∈ qs, q.st ≠ q.en := fun q hq => (hG.q1 q hq).2.2
  obtain ⟨g1, g2⟩ := grad_iff hn hG h0 sc
  constructor
  · intro h
    obtain ⟨hy, _⟩ := g1 h
    refine ⟨fun r hr => ?_, fun q hq => ?_⟩
    · obtain ⟨w, hw, us, hR⟩ := (ring_mem hne hg r).mp hr
      have := pot_path hy hR.pa
      omega
    · obtain ⟨h1, h2⟩ := pot_q.mp hy q hq
      have e : sc * (q.room - q.gap + 1) = sc * q.room + sc * (1 - q.gap) := by
        rw [← Int.mul_add]
        congr 1
        omega
      rw [e]
      omega
  · rintro ⟨h1, h2⟩
    obtain ⟨y, hy⟩ := pot_of_nn (arcs_on hG (sc := sc) (tl := 1)) (noneg_of hG (fun w us r hw hR => h1 r ((ring_mem hne hg r).mpr ⟨w, hw, us, hR⟩)) h2)
    exact g2 y hy
end Jl

set_option Elab.async false
set_option linter.all false
set_option maxRecDepth 100000
set_option maxHeartbeats 1000000
set_option pp.maxSteps 300
namespace Jl
open PySem PySem.Spec PyProof.Rows L2
open Evl (sz_of sz_lt)
local macro_rules | `(tactic| walk_at "at") => `(tactic| first | exact box0 | exact box1 | exact box2)
local macro_rules | `(tactic| walk_at "sq") => `(tactic| first | (show SqL _ _ _ _; assumption) | (show SqT _ _ _ _; assumption) | (show _ = some _; assumption))
local macro_rules | `(tactic| walk_at "side") => `(tactic| first
  | (show (0 : Int) < _; decide)
  | (show (0 : Int) < _; omega)
  | exact ⟨by decide, by decide, by decide⟩
  | exact sz_of (Nat.le_of_ble_eq_true rfl)
  | exact rfl
  | exact Or.inl (by decide)
  | exact Or.inr (by decide)
  | exact Or.inr ⟨by omega, by omega⟩
  | exact Or.inl ⟨by omega, by omega⟩
  | exact ⟨by decide, by decide +kernel⟩)
local macro_rules | `(tactic| walk_at "ev1") => `(tactic| first
  | refine ⟨_, rfl, ?_⟩
  | refine ⟨_, _, rfl, rfl, ?_⟩
  | refine ⟨_, _, _, _, rfl, rfl, (by walk_at "sq"), (by walk_at "at"), ?_⟩
  | refine ⟨_, _, rfl, (by walk_at "sq"), ?_⟩
  | refine ⟨_, _, rfl, Or.inl (by walk_at "sq"), ?_⟩
  | refine ⟨_, _, rfl, Or.inr (by walk_at "sq"), ?_⟩
  | refine Or.inl ⟨_, rfl, ?_⟩
  | refine Or.inr ⟨_, rfl, ?_⟩
  | refine ⟨(by walk_at "side"), ?_⟩
  | refine ⟨.inl ⟨rfl, _, (by walk_at "sq")⟩, ?_⟩
  | refine ⟨_, _, rfl, ?_⟩)
local macro_rules | `(tactic| walk_at "nrm") => `(tactic| dsimp only [tNil, tCons, tC, tCB])
local macro_rules | `(tactic| walk_at "ev") => `(tactic| repeat (walk_at "ev1"))

abbrev sc_w_twin_web_N : List Str := ["_law_box_here", "_law_high", "_law_size_so", "_law_tags", "_law_found", "_law_quiet", "_law_k", "_law_least", "_law_space", "_law_gap"]
abbrev s_w_twin_web : Stmt := topS 26
theorem sc_w_twin_web : FnScope ["_law_box_here", "_law_high", "_law_size_so", "_law_tags", "_law_found", "_law_quiet", "_law_k", "_law_least", "_law_space", "_law_gap"] ["_law_box_here", "_law_high"] (defScope s_w_twin_web) := ⟨rfl, rfl, rfl, by decide +kernel, rfl, by decide +kernel, by decide +kernel⟩
def bdQ (q : QD) : Prop := 0 ≤ q.gap ∧ q.gap ≤ 10 ^ 60 ∧ 0 ≤ q.room ∧ q.room ≤ 10 ^ 60
theorem seq_byC {t u : TS} {D : Ends} {σ : L2.St} {H : Hp} (M : L2.St → Hp → Prop) (h1 : ∀ σ H, M σ H → u D σ H) (h2 : ∀ D' : Ends, (∀ σ H, M σ H → D'.nx σ H) → t D' σ H) : tSeq t u D σ H := h2 { D with nx := u D } h1
structure NW (ws : List Str) (qs : List QD) : Prop where
  wn : ws.Nodup
  w1 : 1 ≤ ws.length
  wl : ws.length ≤ 60
  ql : qs.length ≤ 60
  qw : ∀ q ∈ qs, q.st ∈ ws ∧ q.en ∈ ws
  ok : ∀ x ∈ ws, PyData.strOk x = true
  bd : ∀ q ∈ qs, bdQ q
def tgT : List Str := [Str.ofString "s", Str.ofString "m", Str.ofString "n", Str.ofString "o", Str.ofString "t"]
def nmT : List Str := [Str.ofString "m", Str.ofString "q1", Str.ofString "s"]
/-- the bounds of drawn rows -/
def bdT (h : Int) (q : QD) : Prop := 1 ≤ q.gap ∧ q.gap ≤ q.room ∧ q.room ≤ h
theorem tw_in {z i : Nat} (h : i < z) (hz : z ≤ 3) : tgT.getD i default ∈ Str.ofString "t" :: tgT.take z := by
  refine List.mem_cons_of_mem _ ?_
  have : (tgT.take z)[i]? = some (tgT.getD i default) := by
    rw [List.getElem?_take_of_lt h, List.getD_eq_getElem?_getD, List.getElem?_eq_getElem (show i < tgT.length by show i < 5; omega)]
    rfl
  exact List.mem_of_getElem? this
theorem tw_nd : ∀ z : Nat, 1 ≤ z → z ≤ 3 → (Str.ofString "t" :: tgT.take z).Nodup ∧ (∀ x ∈ Str.ofString "t" :: tgT.take z, PyData.strOk x = true) ∧ (Str.ofString "t" :: tgT.take z).length ≤ 4 ∧ Str.ofString "s" ∈ tgT.take z
  | 1, _, _ => by decide +kernel
  | 2, _, _ => by decide +kernel
  | 3, _, _ => by decide +kernel
  | 0, h, _ => absurd h (by decide)
  | n + 4, _, h => absurd h (by omega)
theorem q_alike {q2 : List QD} : PySem.W.AllAlike (q2.map (QD.d true)) := fun d hd d' hd' => by
  obtain ⟨r, _, rfl⟩ := List.mem_map.mp hd
  obtain ⟨r', _, rfl⟩ := List.mem_map.mp hd'
  simp [QD.d, seqD, PySem.W.alike, PySem.W.alikeAll]
theorem q_sortable {q2 : List QD} : PySem.W.Sortable (q2.map (QD.d true)) := .inl fun d hd => by
  obtain ⟨r, hr, rfl⟩ := List.mem_map.mp hd
  exact ⟨_, _, rfl⟩
theorem q_depth {q : QD} : (QD.d true q).depth ≤ 1 := by
  simp [QD.d, seqD, PyData.depth, PyData.depthAll]
theorem qd_inj {q q' : QD} (h : QD.d true q = QD.d true q') : q = q' := by
  cases q
  cases q'
  simp [QD.d, seqD] at h
  obtain ⟨h1, h2, h3, h4, h5⟩ := h
  subst h1 h2 h3 h4 h5
  rfl
theorem perm_rows {l : List PyData} {q2 : List QD} (h : l.Perm (q2.map (QD.d true))) : ∃ q3 : List QD, l = q3.map (QD.d true) ∧ q3.length = q2.length ∧ ∀ q ∈ q3, q ∈ q2 := by
  have hl : ∀ d ∈ l, ∃ q ∈ q2, QD.d true q = d := fun d hd => List.mem_map.mp (h.mem_iff.mp hd)
  have len := h.length_eq
  rw [List.length_map] at len
  rw [← len]
  clear h len
  induction l with
  | nil => exact ⟨[], rfl, rfl, fun q hq => absurd hq List.not_mem_nil⟩
  | cons d l ih =>
    obtain ⟨q, hq, e⟩ := hl d List.mem_cons_self
    obtain ⟨q3, h1, h2, h3⟩ := ih fun d hd => hl d (List.mem_cons_of_mem _ hd)
    refine ⟨q :: q3, by rw [List.map_cons, e, ← h1], by rw [List.length_cons, List.length_cons, h2], fun x hx => ?_⟩
    rcases List.mem_cons.mp hx with rfl | hx
    · exact hq
    · exact h3 x hx
/-- the rows of the one way, as they come -/
def TwQ (z : Nat) (qs : List QD) : Prop := (∀ q ∈ qs, (q.st ∈ Str.ofString "t" :: tgT.take z ∧ q.en ∈ Str.ofString "t" :: tgT.take z) ∧ bdT (10 ^ 6) q) ∧ (∀ q ∈ qs, q.st ≠ q.en) ∧ qs.map QD.nm = nmT.take qs.length
theorem tg_ne : ∀ i, i < 3 → tgT.getD i default ≠ tgT.getD (i + 1) default ∧ tgT.getD i default ≠ Str.ofString "t" := by decide +kernel
theorem st_ne : Str.ofString "s" ≠ Str.ofString "t" := by decide +kernel
theorem nm_nd : ∀ z, 1 ≤ z → z ≤ 3 → (nmT.take z ++ [Str.ofString "r"]).Nodup := by
  intro z h1 h2
  have h : z = 1 ∨ z = 2 ∨ z = 3 := by omega
  rcases h with rfl | rfl | rfl <;> decide +kernel
/-- a NAME that is sound and none of those that no drawn queue has -/
def nmOk (x : Str) : Bool := PyData.strOk x && !decide (x = Str.ofString "zz") && !decide (x = Str.ofString "e.") && !decide (x = Str.ofString "yy")
theorem nmT_ok : ∀ x ∈ nmT, nmOk x = true := by decide +kernel
theorem rs_ok : nmOk (Str.ofString "r") = true := by decide +kernel
theorem nm_sok {x : Str} (h : nmOk x = true) : PyData.strOk x = true ∧ x ≠ Str.ofString "zz" ∧ x ≠ Str.ofString "e." ∧ x ≠ Str.ofString "yy" := by
  unfold nmOk at h
  simp only [Bool.and_eq_true, Bool.not_eq_true', decide_eq_false_iff_not] at h
  exact ⟨h.1.1.1, h.1.1.2, h.1.2, h.2⟩
def nameD : PyData → Str
  | .tuple (.str x :: _) => x
  | _ => default
theorem name_d (q : QD) : nameD (QD.d true q) = q.nm := rfl
theorem TwQ.push {z i : Nat} {qs : List QD} {q : QD} (h : TwQ z qs) (hl : qs.length = i) (i3 : i < 3) (h1 : (q.st ∈ Str.ofString "t" :: tgT.take z ∧ q.en ∈ Str.ofString "t" :: tgT.take z) ∧ bdT (10 ^ 6) q) (h2 : q.st ≠ q.en) (h3 : q.nm = nmT.getD i default) : TwQ z (qs ++ [q]) := by
  refine ⟨fun x hx => ?_, fun x hx => ?_, ?_⟩
  · rcases List.mem_append.mp hx with hx | hx
    · exact h.1 x hx
    · rw [List.mem_singleton.mp hx]
      exact h1
  · rcases List.mem_append.mp hx with hx | hx
    · exact h.2.1 x hx
    · rw [List.mem_singleton.mp hx]
      exact h2
  · rw [List.map_append, List.length_append, h.2.2, hl]
    show nmT.take i ++ [q.nm] = nmT.take (i + 1)
    rw [h3, List.take_add_one, List.getElem?_eq_getElem (show i < nmT.length from i3), List.getD_eq_getElem?_getD, List.getElem?_eq_getElem (show i < nmT.length from i3)]
    rfl
section
variable {P : Program} {w : World} {K : PySem.W.Frag} {mg : Str → Option Value} {base : Heap}
def NWb (h : Int) (ws : List Str) (qs : List QD) : Prop := NW ws qs ∧ 1 ≤ qs.length ∧ (∀ q ∈ qs, bdT h q) ∧ sortedS ws = true ∧ NetG ws qs ∧ ws.length ≤ 4 ∧ qs.length ≤ 4 ∧ (∀ q ∈ qs, nmOk q.nm = true) ∧ Str.ofString "s" ∈ ws ∧ Str.ofString "t" ∈ ws
def spTwin (K : PySem.W.Frag) : Sp := fun vs H Q _ => ∃ (b : Addr) (h : Int) (bx : List V) (N : Nat), vs = [.ref b, .int h] ∧ H b = some (.lst bx) ∧ BoxL bx N ∧ N < 2 ^ 50 ∧ 1 ≤ h ∧ h ≤ 10 ^ 4 ∧
  ∀ (H' : Hp) (v : V) (ws : List Str) (qs : List QD) (bx' : List V), NWb (10 ^ 6) ws qs → Dp K (cutS [b] H') v (netD true ws qs) → TupW (cutS [b] H') v (ws.map V.str) → H' b = some (.lst bx') → BoxL bx' (N + 300) → Same (cutS [b] H) (cutS [b] H') → Q v H'
theorem ok_twin {f fT : Addr} {fd fdT : FuncData} {k : Nat} (F : Fun K "_law_twin_web" "_law_twin_web" s_w_twin_web f fd)
    (G_w_take : FnOk P w K mg base CX0 k fT fdT ["_law_box_here", "_law_below"] spTake2) (g_w_take : mg "_law_take" = some (.ref fT)) (F_w_take : Fun K "_law_take" "_law_take" s_w_take fT fdT) (b_w_take : Binds K fdT ["_law_box_here", "_law_below"] [])
    (m_range : mg "range" = none) (m_max : mg "max" = none) (m_sorted : mg "sorted" = none) (m_tuple : mg "tuple" = none) : FnOk P w K mg base CX0 (k + 1) f fd ["_law_box_here", "_law_high"] (spTwin K) := by
  refine F.ok sc_w_twin_web (fun vs H Q E h => ?_) (fun cdv A outer s0 H vs Q E hr h => ?_)
  · obtain ⟨b, h, bx, N, rfl, _⟩ := h
    rfl
  · obtain ⟨b, h, bx, N, rfl, hb, hB, hN, h1, h2, q⟩ := h
    refine ⟨_, (pss_cons (ps_par (i := 2) (j := 3) (by rfl) sc_w_twin_web.nd rfl rfl (by decide) rfl rfl (pa_cons (pe_op op_add pe_int (pe_call G_w_take hr (by rfl) g_w_take F_w_take.kp b_w_take .nil pass0 (pa_cons (pv 0) (pa_cons pe_int pa_nil)))) (pa_cons (pe_lst (pa_cons pe_str (pa_cons pe_str (pa_cons pe_str (pa_cons pe_str (pa_cons pe_str pa_nil)))))) pa_nil)) (by rfl)) 
    (pss_cons (ps_par (i := 4) (j := 5) (by rfl) sc_w_twin_web.nd rfl rfl (by decide) rfl rfl (pa_cons (pe_lst pa_nil) (pa_cons pe_int pa_nil)) (by rfl)) 
    (pss_cons (ps_forX (ps_for PassesOwn.never rfl (pi_range1 (by rfl) m_range (pa_cons (pv 2) pa_nil)) (pg_name (i := 6) sc_w_twin_web.nd rfl (Or.inl rfl)) 
      (pss_cons (ps_set (i := 8) sc_w_twin_web.nd rfl (Or.inl rfl) (pe_op op_add pe_int (pe_call G_w_take hr (by rfl) g_w_take F_w_take.kp b_w_take .nil pass0 (pa_cons (pv 0) (pa_cons (pv 1) pa_nil))))) 
      (pss_cons (ps_set (i := 9) sc_w_twin_web.nd rfl (Or.inl rfl) (pe_op op_add pe_int (pe_call G_w_take hr (by rfl) g_w_take F_w_take.kp b_w_take .nil pass0 (pa_cons (pv 0) (pa_cons (pv 8) pa_nil))))) 
      (pss_cons (ps_set (i := 5) sc_w_twin_web.nd rfl (Or.inl rfl) (pe_op op_sub (pe_op op_add (pv 5) (pv 9)) pe_int)) 
      (pss_one (ps_expr (pe_bm PySem.F.plainAttrs_list PySem.F.slot_list_append PySem.F.type_list_append mt_append (pv 4) (pa_cons (pe_tup (pa_cons (pe_ix ix_list (pe_lst (pa_cons pe_str (pa_cons pe_str (pa_cons pe_str pa_nil)))) (pv 6) (fun _ _ => rfl)) (pa_cons (pe_ix ix_list (pv 3) (pv 6) (fun _ _ => rfl)) (pa_cons (pe_ifExp (pt_cmpR op_lt (pe_op op_add (pv 6) pe_int) (pv 2) (nomark _)) (pe_ix ix_list (pv 3) (pe_op op_add (pv 6) pe_int) (fun _ _ => rfl)) pe_str) (pa_cons (pv 8) (pa_cons (pv 9) pa_nil)))))) pa_nil))))))))) 
    (pss_cons (ps_set (i := 7) sc_w_twin_web.nd rfl (Or.inl rfl) (pe_callB (call_max2 rfl) (by rfl) m_max (by decide +kernel) (pa_cons pe_int (pa_cons (pe_op op_sub (pe_op op_add (pv 5) (pe_call G_w_take hr (by rfl) g_w_take F_w_take.kp b_w_take .nil pass0 (pa_cons (pv 0) (pa_cons pe_int pa_nil)))) pe_int) pa_nil)))) 
    (pss_cons (ps_expr (pe_bm PySem.F.plainAttrs_list PySem.F.slot_list_append PySem.F.type_list_append mt_append (pv 4) (pa_cons (pe_tup (pa_cons pe_str (pa_cons pe_str (pa_cons pe_str (pa_cons (pv 7) (pa_cons (pe_op op_add pe_int (pe_call G_w_take hr (by rfl) g_w_take F_w_take.kp b_w_take .nil pass0 (pa_cons (pv 0) (pa_cons (pv 7) pa_nil)))) pa_nil)))))) pa_nil))) 
    (pss_one (ps_ret (pe_tup (pa_cons (pe_callTy call_tupF (by rfl) m_tuple (by decide +kernel) (pa_cons (pe_callB cr_sortedS (by rfl) m_sorted (by decide +kernel) (pa_cons (pe_op op_cat (pe_lst (pa_cons pe_str pa_nil)) (pe_slice sl_list (pv 3) po_none (po_some (pv 2)))) pa_nil)) pa_nil)) (pa_cons (pe_callTy call_tuple_of (by rfl) m_tuple (by decide +kernel) (pa_cons (pe_callB (cr_sortedD rfl hr.units) (by rfl) m_sorted (by decide +kernel) (pa_cons (pv 4) pa_nil)) pa_nil)) pa_nil)))))))))), ?_⟩
    walk_at "ev"
    refine ⟨b, 3, bx, N, rfl, hb, hB, by omega, by decide, small8000 ⟨by decide, by decide⟩, fun r bx1 r0 r1 hB1 => ?_⟩
    have hb1 : (upd H b (.lst bx1)) b = some (.lst bx1) := upd_same
    have S1 : Same (cutS [b] H) (cutS [b] (upd H b (.lst bx1))) := by
      rw [cutS_upd List.mem_cons_self]
      exact fun _ _ e => e
    generalize upd H b (.lst bx1) = H1 at hb1 S1 ⊢
    obtain ⟨z, hz⟩ : ∃ z : Nat, 1 + r = (z : Int) := ⟨(1 + r).toNat, by omega⟩
    have z1 : 1 ≤ z := by omega
    have z3 : z ≤ 3 := by omega
    walk_at "ev"
    intro p3 hp3
    have n3 : p3 ≠ b := fun z => by
      rw [z, hb1] at hp3
      cases hp3
    have hb3 : (upd H1 p3 (.lst (tgT.map V.str))) b = some (.lst bx1) := (Same.upd hp3) _ _ hb1
    have S3 := S1.trans (cutS_mono (.upd (o := .lst (tgT.map V.str)) hp3))
    have h3 : (upd H1 p3 (.lst (tgT.map V.str))) p3 = some (.lst (tgT.map V.str)) := upd_same
    show tNil _ (upd H1 p3 (.lst (tgT.map V.str))) _
    generalize upd H1 p3 (.lst (tgT.map V.str)) = H3 at hb3 S3 h3 ⊢
    clear hb1 S1 hp3
    dsimp only [tNil]
    rw [hz]
    walk_at "ev"
    intro p4 hp4
    have n4 : p4 ≠ b := fun z => by
      rw [z, hb3] at hp4
      cases hp4
    have w0 : WSt K b p4 p3 H (tgT.map V.str) [] [] (upd H3 p4 (.lst [])) bx1 (N + 1) :=
      ⟨(Same.upd hp4) _ _ hb3, hB1, upd_same, .nil, S3.trans (cutS_cons hp4), (cutS_cons (S := [b]) (o := .lst []) hp4) _ _ (cutS_at h3 (not1 n3))⟩
    show tCons _ _ _ (upd H3 p4 (.lst [])) _
    generalize upd H3 p4 (.lst []) = H4 at w0 ⊢
    clear hb3 S3 h3 hp4
    walk_at "ev"
    dsimp only [List.set]
    refine seq_byC (fun σ Hc => ∃ (x6 x8 x9 : Option V) (fs : List V) (qs : List QD) (bxc : List V) (u : Int), σ = [some (.ref b), some (.int h), some (.int (z : Int)), some (.ref p3), some (.ref p4), some (.int u), x6, none, x8, x9] ∧ WSt K b p4 p3 H (tgT.map V.str) fs (qs.map (QD.d true)) Hc bxc (N + 20) ∧ qs.length = z ∧ 0 ≤ u ∧ u ≤ 10 ^ 5 ∧ TwQ z qs) (fun σ Hc hh => ?_) (fun D' hD' => ?_)
    · obtain ⟨x6, x8, x9, fs, qs, bxc, u, rfl, w, hql, u0, u1, hqq⟩ := hh
      have hF2 : SqL K Hc p4 fs := sql_of w.hf
      walk_at "ev"
      refine ⟨b, 3, bxc, _, rfl, w.hb, w.hB, by omega, by decide, small8000 ⟨by decide, by decide⟩, fun r3 bx2 r30 r31 hB2 => ?_⟩
      have w1 := w.take n4 hB2
      generalize upd Hc b (.lst bx2) = Ha at w1 ⊢
      clear hF2 w hB2
      have hF3 : SqL K Ha p4 fs := sql_of w1.hf
      walk_at "ev"
      obtain ⟨L, hL, L1, L2⟩ : ∃ L : Int, (if u + r3 - 1 > 1 then u + r3 - 1 else 1) = L ∧ 1 ≤ L ∧ L ≤ 10 ^ 6 := ⟨_, rfl, by split <;> omega, by split <;> omega⟩
      rw [hL]
      clear hL u0 u1
      walk_at "ev"
      refine ⟨b, L, bx2, _, rfl, w1.hb, w1.hB, by omega, by omega, small8000 (by omega), fun r4 bx3 r40 r41 hB3 => ?_⟩
      have w2 := w1.take n4 hB3
      generalize upd Ha b (.lst bx3) = Hb at w2 ⊢
      clear hF3 w1 hB3
      walk_at "ev"
      intro pt hpt
      have w7 := w2.same (.upd (o := .tup [V.str (Str.ofString "r"), V.str (Str.ofString "s"), V.str (Str.ofString "t"), V.int L, V.int (1 + r4)]) hpt)
      have hpt2 : cutS [p4, b] (upd Hb pt (.tup [V.str (Str.ofString "r"), V.str (Str.ofString "s"), V.str (Str.ofString "t"), V.int L, V.int (1 + r4)])) pt = some (.tup [V.str (Str.ofString "r"), V.str (Str.ofString "s"), V.str (Str.ofString "t"), V.int L, V.int (1 + r4)]) :=
        cutS_new (Trk.cons (Trk.cons Trk.nil w2.hb) w2.hf) hpt
      have fl : fs.length = qs.length := by rw [dpa_len w7.hd, List.length_map]
      have w8 := w7.push n4 (v := .ref pt) (d := QD.d true ⟨Str.ofString "r", Str.ofString "s", Str.ofString "t", L, 1 + r4⟩) (.tup (sqt_of hpt2) (.cons (.str _) (.cons (.str _) (.cons (.str _) (.cons (.int _) (.cons (.int _) .nil))))))
      refine ⟨p4, fs, .ref pt, rfl, rfl, w7.hf, sz_lt (by omega), ?_⟩
      obtain ⟨tw1, tw2, tw3, tw4⟩ := tw_nd z z1 z3
      obtain ⟨q2, hq2, hq2l, hq2n, hq2e, hq2q⟩ : ∃ q2 : List QD, (qs.map (QD.d true)) ++ [QD.d true ⟨Str.ofString "r", Str.ofString "s", Str.ofString "t", L, 1 + r4⟩] = q2.map (QD.d true) ∧ q2.length = z + 1 ∧ (q2.map QD.nm).Nodup ∧ (∀ q ∈ q2, q.st ≠ q.en ∧ nmOk q.nm = true) ∧ ∀ q ∈ q2, (q.st ∈ Str.ofString "t" :: tgT.take z ∧ q.en ∈ Str.ofString "t" :: tgT.take z) ∧ bdT (10 ^ 6) q := by
        refine ⟨qs ++ [⟨Str.ofString "r", Str.ofString "s", Str.ofString "t", L, 1 + r4⟩], by rw [List.map_append]; rfl, by rw [List.length_append, hql]; rfl, ?_, fun x hx => ?_, fun x hx => ?_⟩
        · rw [List.map_append, hqq.2.2, hql]
          exact nm_nd z z1 z3
        · rcases List.mem_append.mp hx with hx | hx
          · refine ⟨hqq.2.1 x hx, nmT_ok _ ?_⟩
            have h0 : x.nm ∈ qs.map QD.nm := List.mem_map.mpr ⟨x, hx, rfl⟩
            rw [hqq.2.2] at h0
            exact List.mem_of_mem_take h0
          · rw [List.mem_singleton.mp hx]
            exact ⟨st_ne, rs_ok⟩
        rcases List.mem_append.mp hx with hx | hx
        · exact hqq.1 x hx
        · rw [List.mem_singleton.mp hx]
          exact ⟨⟨List.mem_cons_of_mem _ tw4, List.mem_cons_self⟩, by show 1 ≤ 1 + r4; omega, by show 1 + r4 ≤ L; omega, L2⟩
      rw [hq2] at w8
      clear hpt2 w7 hqq hq2
      dsimp only [List.set]
      generalize fs ++ [V.ref pt] = fs2 at w8 ⊢
      generalize upd (upd Hb pt (.tup [V.str (Str.ofString "r"), V.str (Str.ofString "s"), V.str (Str.ofString "t"), V.int L, V.int (1 + r4)])) p4 (.lst fs2) = Hc at w8 ⊢
      clear hpt w2
      walk_at "ev"
      intro p5 hp5
      have w9 := w8.same (.upd (o := .lst [V.str (Str.ofString "t")]) hp5)
      have h5 : (upd Hc p5 (.lst [V.str (Str.ofString "t")])) p5 = some (.lst [V.str (Str.ofString "t")]) := upd_same
      have hT9 : SqL K (upd Hc p5 (.lst [V.str (Str.ofString "t")])) p3 (tgT.map V.str) := sql_of (cutS_le _ _ w9.h9)
      walk_at "ev"
      intro p6 hp6
      rw [cutV_map]
      have wA := w9.same (.upd (o := .lst ((tgT.take z).map V.str)) hp6)
      have h6 : (upd (upd Hc p5 (.lst [V.str (Str.ofString "t")])) p6 (.lst ((tgT.take z).map V.str))) p6 = some (.lst ((tgT.take z).map V.str)) := upd_same
      have h5 := (Same.upd (o := .lst ((tgT.take z).map V.str)) hp6) _ _ h5
      have tl : (tgT.take z).length ≤ 4 := by
        rw [List.length_cons] at tw3
        omega
      refine ⟨p5, p6, _, _, rfl, rfl, h5, h6, by rw [List.length_map]; exact Nat.le_of_lt (szL (by show 1 + _ < _; omega)), fun p7 hp7 => ?_⟩
      have wB := wA.same (.upd (o := .lst ([V.str (Str.ofString "t")] ++ (tgT.take z).map V.str)) hp7)
      have h7 : (upd (upd (upd Hc p5 (.lst [V.str (Str.ofString "t")])) p6 (.lst ((tgT.take z).map V.str))) p7 (.lst ([V.str (Str.ofString "t")] ++ (tgT.take z).map V.str))) p7 = some (.lst ([V.str (Str.ofString "t")] ++ (tgT.take z).map V.str)) := upd_same
      refine ⟨p7, Str.ofString "t" :: tgT.take z, rfl, sql_of h7, by omega, fun us p10 hu1 hu2 hp10 => ?_⟩
      generalize upd (upd (upd Hc p5 (.lst [V.str (Str.ofString "t")])) p6 (.lst ((tgT.take z).map V.str))) p7 (.lst ([V.str (Str.ofString "t")] ++ (tgT.take z).map V.str)) = H9 at wB hp10 ⊢
      clear h7 hp7 h6 h5 wA hp6 hp5 w9 hT9 w8
      have w10 := wB.same (.upd (o := .lst (us.map V.str)) hp10)
      refine ⟨p10, _, rfl, sql_of upd_same, fun p11 ob hp11 hoc hod => ?_⟩
      have w11 := w10.same (.upd (o := .frz ob (.tup (us.map V.str))) hp11)
      have n11 : p11 ≠ b := fun z => by
        rw [z, w10.hb] at hp11
        cases hp11
      have g11 : cutS [b] _ p11 = some (.frz ob (.tup (us.map V.str))) := cutS_at (upd_same (H := upd H9 p10 (.lst (us.map V.str))) (a := p11) (o := .frz ob (.tup (us.map V.str)))) (not1 n11)
      generalize upd (upd H9 p10 (.lst (us.map V.str))) p11 (.frz ob (.tup (us.map V.str))) = H11 at w11 g11 ⊢
      have fl2 := dpa_len w11.hd
      have hall := all_of_dpa w11.hd
      generalize hzp : fs2.zip (q2.map (QD.d true)) = zp at hall
      have zf : zp.map (·.1) = fs2 := by rw [← hzp]; exact zip_fst fl2
      have zs : zp.map (·.2) = q2.map (QD.d true) := by rw [← hzp]; exact zip_snd fl2
      refine ⟨_, rfl, p4, zp, rfl, by rw [zf]; exact sql_of w11.hf, fun x hx => cutS_le.dp (hall x hx), ?_, ?_, ?_, fun p12 hp12 => ?_⟩
      · rw [zs]
        exact q_alike
      · rw [zs]
        exact q_sortable
      · intro x hx
        have : x.2 ∈ q2.map (QD.d true) := by
          rw [← zs]
          exact List.mem_map.mpr ⟨x, hx, rfl⟩
        obtain ⟨q', _, e⟩ := List.mem_map.mp this
        rw [← e]
        exact Nat.le_trans q_depth (by decide)
      · generalize hso : zp.mergeSort (PySem.W.dataLe false (·.2)) = so
        have hperm : so.Perm zp := by
          rw [← hso]
          exact List.mergeSort_perm _ _
        obtain ⟨q3, hq3⟩ : ∃ q3 : List QD, so.map (·.2) = q3.map (QD.d true) ∧ q3.length = q2.length ∧ ∀ q ∈ q3, q ∈ q2 := by
          have hp2 := hperm.map (·.2)
          rw [zs] at hp2
          exact perm_rows hp2
        obtain ⟨hq3, hq3l, hq3m⟩ := hq3
        have hq3n : (q3.map QD.nm).Nodup := by
          have hp2 := (hperm.map (·.2)).map nameD
          rw [zs, hq3, List.map_map, List.map_map] at hp2
          exact hp2.nodup_iff.mpr hq2n
        have hd3 : DpAll K (cutS [p4, b] H11) (so.map (·.1)) (q3.map (QD.d true)) := by
          rw [← hq3]
          exact dpa_of_all fun x hx => hall x (hperm.mem_iff.mp hx)
        refine ⟨p12, _, rfl, .inl ⟨sql_of upd_same, fun p13 hp13 => ?_⟩⟩
        have w12 := w11.same (.upd (o := .lst (so.map (·.1))) hp12)
        have w13 := w12.same (.upd (o := .tup (so.map (·.1))) hp13)
        have n13 : p13 ≠ b := fun z => by
          rw [z, w12.hb] at hp13
          cases hp13
        have s13 : Same H11 (upd (upd H11 p12 (.lst (so.map (·.1)))) p13 (.tup (so.map (·.1)))) := (Same.upd hp12).trans (.upd hp13)
        have g13 : cutS [b] (upd (upd H11 p12 (.lst (so.map (·.1)))) p13 (.tup (so.map (·.1)))) p13 = some (.tup (so.map (·.1))) := cutS_at upd_same (not1 n13)
        have g11' := cutS_mono (S := [b]) s13 _ _ g11
        have hd4 := (cutS_mono s13).dpa hd3
        generalize upd (upd H11 p12 (.lst (so.map (·.1)))) p13 (.tup (so.map (·.1))) = H13 at w13 g13 g11' hd4 ⊢
        refine ⟨by show 2 ≤ sizeLine; decide, fun p14 hp14 => ?_⟩
        have w14 := w13.same (.upd (o := .tup [.ref p11, .ref p13]) hp14)
        have n14 : p14 ≠ b := fun z => by
          rw [z, w13.hb] at hp14
          cases hp14
        have e14 : Same (cutS [b] H13) (cutS [b] (upd H13 p14 (.tup [.ref p11, .ref p13]))) := cutS_mono (.upd hp14)
        have hmem : ∀ x, x ∈ us ↔ x ∈ Str.ofString "t" :: tgT.take z := fun x => hu1.mem_iff
        have hul := hu1.length_eq
        refine q _ (.ref p14) us q3 bx3 ⟨⟨hu1.nodup_iff.mpr tw1, by rw [hul, List.length_cons]; omega, by omega, by omega, fun x hx => ?_, fun x hx => tw2 x ((hmem x).mp hx), fun x hx => ?_⟩, by omega, fun x hx => (hq2q x (hq3m x hx)).2, hu2, ⟨fun x hx => ⟨(hmem _).mpr (hq2q x (hq3m x hx)).1.1, (hmem _).mpr (hq2q x (hq3m x hx)).1.2, (hq2e x (hq3m x hx)).1⟩, hq3n⟩, by omega, by omega, fun x hx => (hq2e x (hq3m x hx)).2, (hmem _).mpr (tw_in (i := 0) (by omega) z3), (hmem _).mpr List.mem_cons_self⟩ ?_ ⟨p14, p11, p13, ob, rfl, cutS_at upd_same (not1 n14), e14 _ _ g11', hoc, hod⟩ w14.hb (w14.hB.mono (by omega)) (w14.hS.trans cutS_tail)
        · obtain ⟨q1, q2⟩ := (hq2q x (hq3m x hx)).1
          exact ⟨(hmem _).mpr q1, (hmem _).mpr q2⟩
        · obtain ⟨b1, b2, b3⟩ := (hq2q x (hq3m x hx)).2
          exact ⟨by omega, by omega, by omega, by omega⟩
        · exact .tup (sqt_of (cutS_at upd_same (not1 n14))) (.cons (.tup (.inl (.inr ⟨ob, e14 _ _ g11'⟩)) dpa_strs) (.cons (.tup (sqt_of (e14 _ _ g13)) (e14.dpa (cutS_tail.dpa hd4))) .nil))
    · refine for_of ?_
      walk_at "ev"
      refine ⟨by omega, by omega, ?_⟩
      rw [Int.toNat_natCast]
      refine forR_it (walk_range (lo := 0) (n := z)) (fun i σ Hc => ∃ (x6 x8 x9 : Option V) (fs : List V) (qs : List QD) (bxc : List V) (u : Int), σ = [some (.ref b), some (.int h), some (.int (z : Int)), some (.ref p3), some (.ref p4), some (.int u), x6, none, x8, x9] ∧ WSt K b p4 p3 H (tgT.map V.str) fs (qs.map (QD.d true)) Hc bxc (N + 1 + 2 * i) ∧ qs.length = i ∧ 0 ≤ u ∧ u ≤ i * 10 ^ 4 ∧ TwQ z qs) ⟨_, _, _, [], [], bx1, 0, rfl, w0, rfl, by decide, by decide, ⟨fun _ hx => absurd hx List.not_mem_nil, fun _ hx => absurd hx List.not_mem_nil, rfl⟩⟩ (fun _ _ _ _ _ => trivial) (fun i x σ Hc Hc' hi hh y => ?_) (fun σ Hc hh => ?_)
      · obtain ⟨x6, x8, x9, fs, qs, bxc, u, rfl, w, hql, u0, u1, hqq⟩ := hh
        obtain ⟨rfl, rfl⟩ := y
        have e0 : (0 + (i : Int)) = ((i : Nat) : Int) := Int.zero_add _
        dsimp only
        rw [e0]
        walk_at "ev"
        refine ⟨b, h, bxc, _, rfl, w.hb, w.hB, by omega, by omega, small8000 (by omega), fun r1 bx2 r10 r11 hB2 => ?_⟩
        have w1 := w.take n4 hB2
        generalize upd Hc' b (.lst bx2) = Ha at w1 ⊢
        walk_at "ev"
        refine ⟨b, 1 + r1, bx2, _, rfl, w1.hb, w1.hB, by omega, by omega, small8000 (by omega), fun r2 bx3 r20 r21 hB3 => ?_⟩
        have w2 := w1.take n4 hB3
        generalize upd Ha b (.lst bx3) = Hb at w2 ⊢
        have hF2 : SqL K Hb p4 fs := sql_of w2.hf
        walk_at "ev"
        intro p5 hp5
        have w3 := w2.same (.upd (o := .lst (nmT.map V.str)) hp5)
        have h5 : (upd Hb p5 (.lst (nmT.map V.str))) p5 = some (.lst (nmT.map V.str)) := upd_same
        have i3 : i < 3 := by omega
        have a1 : atI (nmT.map V.str) ((i : Nat) : Int) = some (.str (nmT.getD i default)) := atI_nat (by rw [List.getElem?_map, List.getD_eq_getElem?_getD, List.getElem?_eq_getElem (show i < nmT.length from i3)]; rfl)
        have a2 : ∀ j, j < 5 → atI (tgT.map V.str) ((j : Nat) : Int) = some (.str (tgT.getD j default)) := fun j hj => atI_nat (by rw [List.getElem?_map, List.getD_eq_getElem?_getD, List.getElem?_eq_getElem (show j < tgT.length from hj)]; rfl)
        refine ⟨_, rfl, p5, _, _, _, rfl, rfl, sql_of h5, a1, ?_⟩
        have hT3 : SqL K (upd Hb p5 (.lst (nmT.map V.str))) p3 (tgT.map V.str) := sql_of (cutS_le _ _ w3.h9)
        show tCons _ _ _ (upd Hb p5 (.lst (nmT.map V.str))) _
        generalize upd Hb p5 (.lst (nmT.map V.str)) = Hc at w3 hT3 ⊢
        clear h5 hp5 w2 w1 w hF2 hB2 hB3
        refine ⟨_, rfl, _, rfl, p3, _, _, _, rfl, rfl, hT3, a2 i (by omega), ?_⟩
        have fin : ∀ en : Str, en ∈ Str.ofString "t" :: tgT.take z → tgT.getD i default ≠ en → ∀ (pt : Addr), Hc pt = none → rAppend (.ref p4) [.ref pt] (upd Hc pt (.tup [.str (nmT.getD i default), .str (tgT.getD i default), .str en, .int (1 + r1), .int (1 + r2)])) fun _ H' => ∃ (x6 x8 x9 : Option V) (fs : List V) (qs : List QD) (bxc : List V) (u' : Int), [some (V.ref b), some (.int h), some (.int (z : Int)), some (.ref p3), some (.ref p4), some (.int (u + (1 + r2) - 1)), some (.int (i : Nat)), none, some (.int (1 + r1)), some (.int (1 + r2))] = [some (.ref b), some (.int h), some (.int (z : Int)), some (.ref p3), some (.ref p4), some (.int u'), x6, none, x8, x9] ∧ WSt K b p4 p3 H (tgT.map V.str) fs (qs.map (QD.d true)) H' bxc (N + 1 + 2 * (i + 1)) ∧ qs.length = i + 1 ∧ 0 ≤ u' ∧ u' ≤ ((i + 1 : Nat) : Int) * 10 ^ 4 ∧ TwQ z qs := fun en hen hne pt hpt => by
          have w7 := w3.same (.upd (o := .tup [V.str (nmT.getD i default), V.str (tgT.getD i default), V.str en, V.int (1 + r1), V.int (1 + r2)]) hpt)
          have hpt2 : cutS [p4, b] (upd Hc pt (.tup [V.str (nmT.getD i default), V.str (tgT.getD i default), V.str en, V.int (1 + r1), V.int (1 + r2)])) pt = some (.tup [V.str (nmT.getD i default), V.str (tgT.getD i default), V.str en, V.int (1 + r1), V.int (1 + r2)]) :=
            cutS_new (Trk.cons (Trk.cons Trk.nil w3.hb) w3.hf) hpt
          have fl : fs.length = qs.length := by rw [dpa_len w7.hd, List.length_map]
          have w8 := w7.push n4 (v := .ref pt) (d := QD.d true ⟨nmT.getD i default, tgT.getD i default, en, 1 + r1, 1 + r2⟩) (.tup (sqt_of hpt2) (.cons (.str _) (.cons (.str _) (.cons (.str _) (.cons (.int _) (.cons (.int _) .nil))))))
          refine ⟨p4, fs, .ref pt, rfl, rfl, w7.hf, sz_lt (by omega), ?_⟩
          refine ⟨_, _, _, fs ++ [.ref pt], qs ++ [⟨nmT.getD i default, tgT.getD i default, en, 1 + r1, 1 + r2⟩], bx3, _, rfl, ?_, ?_, by omega, by omega, ?_⟩
          · rw [List.map_append]
            exact w8.mono (by omega)
          · rw [List.length_append, hql]
            rfl
          · exact hqq.push hql i3 ⟨⟨tw_in hi z3, hen⟩, by show 1 ≤ 1 + r2; omega, by show 1 + r2 ≤ 1 + r1; omega, by show 1 + r1 ≤ 10 ^ 6; omega⟩ hne rfl
        walk_at "ev"
        by_cases hlt : i + 1 < z
        · rw [show decide ((i : Int) + 1 < (z : Int)) = true from decide_eq_true (by omega)]
          refine iteT ?_
          walk_at "ev"
          have a3 : atI (tgT.map V.str) ((i : Int) + 1) = some (.str (tgT.getD (i + 1) default)) := by
            have := a2 (i + 1) (by omega)
            rwa [show ((i + 1 : Nat) : Int) = (i : Int) + 1 by omega] at this
          refine ⟨p3, _, _, _, rfl, rfl, hT3, a3, ?_⟩
          walk_at "ev"
          intro pt hpt
          exact fin _ (tw_in hlt z3) (tg_ne i i3).1 pt hpt
        · rw [show decide ((i : Int) + 1 < (z : Int)) = false from decide_eq_false (by omega)]
          refine iteF ?_
          walk_at "ev"
          intro pt hpt
          exact fin _ List.mem_cons_self (tg_ne i i3).2 pt hpt
      · obtain ⟨x6, x8, x9, fs, qs, bxc, u, rfl, w, hql, u0, u1, hqq⟩ := hh
        exact hD' _ _ ⟨_, _, _, fs, qs, bxc, u, rfl, w.mono (by omega), hql, u0, by omega, hqq⟩
end
end Jl

set_option Elab.async false
set_option linter.all false
set_option maxRecDepth 100000
set_option maxHeartbeats 1000000
set_option pp.maxSteps 300
namespace Jl
open PySem PySem.Spec PyProof.Rows L2
open Evl (sz_of sz_lt)
local macro_rules | `(tactic| walk_at "at") => `(tactic| first | exact box0 | exact box1 | exact box2)
local macro_rules | `(tactic| walk_at "sq") => `(tactic| first | (show SqL _ _ _ _; assumption) | (show SqT _ _ _ _; assumption) | (show _ = some _; assumption))
local macro_rules | `(tactic| walk_at "side") => `(tactic| first
  | (show (0 : Int) < _; decide)
  | (show (0 : Int) < _; omega)
  | exact ⟨by decide, by decide, by decide⟩
  | exact sz_of (Nat.le_of_ble_eq_true rfl)
  | exact rfl
  | exact Or.inl (by decide)
  | exact Or.inr (by decide)
  | exact Or.inr ⟨by omega, by omega⟩
  | exact Or.inl ⟨by omega, by omega⟩
  | exact ⟨by decide, by decide +kernel⟩)
local macro_rules | `(tactic| walk_at "ev1") => `(tactic| first
  | refine ⟨_, rfl, ?_⟩
  | refine ⟨_, _, rfl, rfl, ?_⟩
  | refine ⟨_, _, _, _, rfl, rfl, (by walk_at "sq"), (by walk_at "at"), ?_⟩
  | refine ⟨_, _, rfl, (by walk_at "sq"), ?_⟩
  | refine ⟨_, _, rfl, Or.inl (by walk_at "sq"), ?_⟩
  | refine ⟨_, _, rfl, Or.inr (by walk_at "sq"), ?_⟩
  | refine Or.inl ⟨_, rfl, ?_⟩
  | refine Or.inr ⟨_, rfl, ?_⟩
  | refine ⟨(by walk_at "side"), ?_⟩
  | refine ⟨.inl ⟨rfl, _, (by walk_at "sq")⟩, ?_⟩
  | refine ⟨_, _, rfl, ?_⟩)
local macro_rules | `(tactic| walk_at "nrm") => `(tactic| dsimp only [tNil, tCons, tC, tCB])
local macro_rules | `(tactic| walk_at "ev") => `(tactic| repeat (walk_at "ev1"))
/-! ### a display of a tuple, tuple of a text: tuples whose object is known -/
section
variable {X : Cx} {es : List Expr} {t : TA} {pos : Pos}
def tTupF (t : TA) : TE := fun σ H Q => t σ H fun xs H1 => xs.length ≤ sizeLine ∧ ∀ (p : Addr) (ob : Obj), H1 p = none → ob.cls = .type "tuple" → ob.dict = none → Q (.ref p) (upd H1 p (.frz ob (.tup xs)))
theorem pe_tupF {x1} (h : PA X es t) : PE X (.Tuple es x1 pos) (tTupF t) := by
  refine ⟨fun pins s σ H Q I hq => ?_⟩
  refine wpAny_Tuple_spliced (thn (h.run pos pins s σ H _ I hq) fun us s1 ⟨xs, H1, I1, r, z, q⟩ => ⟨by rw [← r.length]; exact z, ?_⟩)
  have hf : H1 s1.heap.objs.size = none := I1.hok.fresh (Nat.le_refl _)
  have hget : (s1.heap.push { cls := .type "tuple", data := .seq us.toArray }).get? s1.heap.objs.size = some { cls := .type "tuple", data := .seq us.toArray } := Heap.get?_push_size _ rfl
  exact ⟨.ref s1.heap.objs.size, _, I1.laid (o := .frz { cls := .type "tuple", data := .seq us.toArray } (.tup xs)) (t' := s1.toks) (fun b u e => Heap.get?_push_of_some _ e) (Nat.le_refl _) ⟨hget, z, us, r, ⟨_, hget, rfl, _, rfl⟩⟩, rfl, q _ _ hf rfl rfl⟩
def chS (x : Str) : List Str := x.cps.toList.map fun c => ⟨#[c]⟩
def rTupS : List V → Hp → VK → Prop := fun xs H Q => ∃ x : Str, xs = [.str x] ∧ x.cps.size ≤ sizeLine ∧ ∀ (l : Addr) (ob : Obj), H l = none → ob.cls = .type "tuple" → ob.dict = none → Q (.ref l) (upd H l (.frz ob (.tup ((chS x).map V.str))))
theorem cr_tupS (hc : X.calm = true) : CallR X (.type "tuple") rTupS := fun pins s σ H xs us Q I r h => by
  obtain ⟨x, rfl, hz, q⟩ := h
  obtain ⟨u, rfl, rx⟩ := vals1 r
  obtain ⟨t, rfl⟩ := rx
  refine call_tuple_str (I.ok.hd hc) x t (fun h' tk acc hk hi => ?_) hz
  obtain ⟨h1, h2⟩ := hi
  have hl : acc.toList.length = x.cps.size := by rw [Array.length_toList]; exact h1
  have hv : Vals ((chS x).map V.str) acc.toList := by
    have g := vals_from (f := fun i => V.str ((chS x).getD i default)) (us := acc.toList) 0 fun i v hv => by
      rw [Nat.zero_add]
      obtain ⟨c, u, hc, e⟩ := h2 i v (by simpa using hv)
      refine ⟨u, ?_⟩
      rw [e]
      congr 1
      unfold chS
      rw [List.getD_eq_getElem?_getD, List.getElem?_map, show x.cps.toList[i]? = some c by simpa using hc]
      rfl
    have e : (List.range acc.toList.length).map (fun i => V.str ((chS x).getD (0 + i) default)) = (chS x).map V.str := by
      refine List.ext_getElem (by unfold chS; simp [hl]) fun i h1 h2 => ?_
      have h3 : i < (chS x).length := by rw [List.length_map] at h2; exact h2
      rw [List.getElem_map, List.getElem_map, List.getElem_range, Nat.zero_add, List.getD_eq_getElem?_getD, List.getElem?_eq_getElem h3]
      rfl
    rw [← e]
    exact g
  have hget : (h'.push { cls := .type "tuple", data := .seq acc }).get? h'.objs.size = some { cls := .type "tuple", data := .seq acc } := Heap.get?_push_size _ rfl
  have ez : (chS x).length = x.cps.size := by unfold chS; simp
  have I1 : L2.Inv X pins σ H { s with heap := h', toks := tk } := I.kept (t' := tk) hk
  exact ⟨.ref h'.objs.size, _, I1.laid (o := .frz { cls := .type "tuple", data := .seq acc } (.tup ((chS x).map V.str))) (t' := tk) (fun b o e => Heap.get?_push_of_some _ e) (Nat.le_refl _) ⟨hget, by rw [List.length_map, ez]; exact hz, acc.toList, hv, ⟨_, hget, rfl, 0, by simp⟩⟩, rfl, q _ _ (I1.hok.fresh (Nat.le_refl _)) rfl rfl⟩
end
/-! ### two rows side by side -/
inductive A2 {α β : Type} (R : α → β → Prop) : List α → List β → Prop
  | nil : A2 R [] []
  | cons {x y xs ys} (h : R x y) (t : A2 R xs ys) : A2 R (x :: xs) (y :: ys)
section
variable {α β : Type} {R R' : α → β → Prop}
theorem a2_len : ∀ {xs : List α} {ys : List β}, A2 R xs ys → xs.length = ys.length
  | _, _, .nil => rfl
  | _, _, .cons _ h => by rw [List.length_cons, List.length_cons, a2_len h]
theorem a2_app : ∀ {xs xs' : List α} {ys ys' : List β}, A2 R xs ys → A2 R xs' ys' → A2 R (xs ++ xs') (ys ++ ys')
  | _, _, _, _, .nil, h => h
  | _, _, _, _, .cons a b, h => .cons a (a2_app b h)
theorem a2_imp (i : ∀ x y, R x y → R' x y) : ∀ {xs : List α} {ys : List β}, A2 R xs ys → A2 R' xs ys
  | _, _, .nil => .nil
  | _, _, .cons a b => .cons (i _ _ a) (a2_imp i b)
theorem a2_get : ∀ {xs : List α} {ys : List β} {i : Nat} {x : α} {y : β}, A2 R xs ys → xs[i]? = some x → ys[i]? = some y → R x y
  | _, _, _, _, _, .nil, h, _ => by simp at h
  | _, _, 0, _, _, .cons a _, h, g => by
    simp at h g
    rw [← h, ← g]
    exact a
  | _, _, i + 1, _, _, .cons _ b, h, g => a2_get (i := i) b (by simpa using h) (by simpa using g)
end
theorem a2_dpa {K : PySem.W.Frag} {H : Hp} {α : Type} {h : α → PyData} : ∀ {xs : List V} {zs : List α}, A2 (fun u z => Dp K H u (h z)) xs zs → DpAll K H xs (zs.map h)
  | _, _, .nil => .nil
  | _, _, .cons a b => .cons a (a2_dpa b)
theorem dpa_a2 {K : PySem.W.Frag} {H : Hp} {α : Type} {h : α → PyData} : ∀ {xs : List V} {zs : List α}, DpAll K H xs (zs.map h) → A2 (fun u z => Dp K H u (h z)) xs zs
  | _, [], .nil => .nil
  | _, z :: zs, .cons a b => .cons a (dpa_a2 b)
/-- the cut is a list that is being made -/
def LstT (T : List Addr) (H : Hp) : Prop := ∃ (D : Addr) (acc : List V), T = [D] ∧ H D = some (.lst acc)
theorem LstT.same {T : List Addr} {H H' : Hp} (h : LstT T H) (e : Same H H') : LstT T H' := by
  obtain ⟨D, acc, e1, e2⟩ := h
  exact ⟨D, acc, e1, e _ _ e2⟩
mutual
def tupD : PyData → Bool
  | .list _ => false
  | .dict _ => false
  | .tuple ds => tupA ds
  | _ => true
def tupA : List PyData → Bool
  | [] => true
  | d :: ds => tupD d && tupA ds
end
theorem sqt_cutL {K : PySem.W.Frag} {H : Hp} {a : Addr} {T : List Addr} {xs : List V} (h : SqT K H a xs) (hF : LstT T H) : SqT K (cutS T H) a xs := by
  obtain ⟨F, fv, rfl, hF⟩ := hF
  rcases h with (h | ⟨o, h⟩) | h
  · refine .inl (.inl (cutS_at h (not1 fun z => ?_)))
    rw [z, hF] at h
    cases h
  · refine .inl (.inr ⟨o, cutS_at h (not1 fun z => ?_)⟩)
    rw [z, hF] at h
    cases h
  · exact .inr h
mutual
theorem dpT_cut {K : PySem.W.Frag} {H : Hp} {T : List Addr} (hF : LstT T H) : ∀ (d : PyData) (v : V), tupD d = true → Dp K H v d → Dp K (cutS T H) v d
  | .none, _, _, h => by cases h; exact .non
  | .bool b, _, _, h => by cases h; exact .bl b
  | .int i, _, _, h => by cases h; exact .int i
  | .str x, _, _, h => by cases h; exact .str x
  | .list ds, _, z, _ => by simp [tupD] at z
  | .dict ds, _, z, _ => by simp [tupD] at z
  | .tuple ds, _, z, h => by
    rw [tupD] at z
    cases h with
    | tup hs ha => exact .tup (sqt_cutL hs hF) (dpaT_cut hF ds _ z ha)
theorem dpaT_cut {K : PySem.W.Frag} {H : Hp} {T : List Addr} (hF : LstT T H) : ∀ (ds : List PyData) (vs : List V), tupA ds = true → DpAll K H vs ds → DpAll K (cutS T H) vs ds
  | [], _, _, h => by cases h; exact .nil
  | d :: ds, _, z, h => by
    rw [tupA, Bool.and_eq_true] at z
    cases h with
    | cons h1 h2 => exact .cons (dpT_cut hF d _ z.1 h1) (dpaT_cut hF ds _ z.2 h2)
end
theorem tupA_map {α : Type} {f : α → PyData} : ∀ {zs : List α}, (∀ z ∈ zs, tupD (f z) = true) → tupA (zs.map f) = true
  | [], _ => by simp [tupA]
  | z :: zs, h => by
    rw [List.map_cons, tupA, h z List.mem_cons_self, tupA_map fun y hy => h y (List.mem_cons_of_mem _ hy)]
    rfl
theorem tup_net {ws : List Str} {qs : List QD} : tupD (netD true ws qs) = true := by
  have e1 : tupA (ws.map PyData.str) = true := tupA_map fun z _ => by simp [tupD]
  have e2 : tupA (qs.map (QD.d true)) = true := tupA_map fun z _ => by simp [QD.d, seqD, tupD, tupA]
  show tupD (.tuple [.tuple (ws.map PyData.str), .tuple (qs.map (QD.d true))]) = true
  simp [tupD, tupA, e1, e2]
/-- a comprehension by any walk: what is made stands in R2 to what it is made of -/
theorem lcg {K : PySem.W.Frag} {J : It} {g : TG} {te : TE} {tt : TT} {vs : List Nat} {σ : L2.St} {H0 : Hp} {Q : VK} {n : Nat} {G : Hp → Prop} {Y : Nat → Hp → V → Hp → Prop} {α : Type} (zs : List α) (Rel : V → α → Prop) (R2 : Hp → V → α → Prop) (t : α → Bool) (B : α → L2.St → Prop)
    (w : Walk J n G Y) (hn : n = zs.length) (hG : ∀ H', Same H0 H' → G H') (hY : ∀ i H x H', Y i H x H' → H' = H ∧ ∀ z, zs[i]? = some z → Rel x z) (hl : zs.length ≤ 4000000) (hm : ∀ H H' u z, Same H H' → R2 H u z → R2 H' u z)
    (hg : ∀ (x : V) (z : α) (H1 : Hp) (R : L2.St → Hp → Prop), z ∈ zs → Same H0 H1 → Rel x z → (∀ σ2, B z σ2 → wipe σ2 vs = wipe σ vs → R σ2 H1) → g x (wipe σ vs) H1 R)
    (hte : ∀ (z : α) (H1 : Hp) (σ2 : L2.St), z ∈ zs → Same H0 H1 → B z σ2 → ∀ Q' : Bool → Hp → Prop, (∀ H2, Same H1 H2 → Q' (t z) H2) → tt σ2 H1 Q')
    (he : ∀ (z : α) (H2 : Hp) (σ2 : L2.St) (T : List Addr), z ∈ zs → t z = true → Same H0 H2 → Same H0 (cutS T H2) → Trk T H2 → B z σ2 → LstT T H2 → ∀ Q' : VK, (∀ H3 u, Same H2 H3 → R2 (cutS T H3) u z → Q' u H3) → te σ2 H2 Q')
    (q : ∀ D ys H', Same H0 H' → H0 D = none → H' D = some (.lst ys) → A2 (R2 (cutS [D] H')) ys (zs.filter t) → Q (.ref D) H') :
    ∀ D, H0 D = none → ∃ W : Nat → Nat → Hp → Prop, (∃ m, W 0 m (upd H0 D (.lst []))) ∧ ∀ i m H, W i m H →
      (J.stop i H ∧ Q (.ref D) H) ∨ (J.go i H ∧ ∃ Nx : Hp → Prop, (∀ H', Nx H' → ∃ m', m' < m ∧ W (i + 1) m' H') ∧ ∀ x H', J.yld i H x H' → g x (wipe σ vs) H' fun σ2 H2 => wipe σ2 vs = wipe σ vs ∧ tt σ2 H2 fun b H3 =>
        if b = true then te σ2 H3 fun y H4 => ∃ acc, H4 D = some (.lst acc) ∧ acc.length < sizeLine ∧ Nx (upd H4 D (.lst (acc ++ [y]))) else Nx H3) := fun D hD => by
  subst hn
  refine lc_it w (Qd := fun H => Q (.ref D) H) (fun i H1 => ∃ ys, Same H0 H1 ∧ H1 D = some (.lst ys) ∧ A2 (R2 (cutS [D] H1)) ys ((zs.take i).filter t)) ⟨[], .upd hD, upd_same, .nil⟩ (fun i H1 _ p => ?_) (fun i x H1 H1' hi p y => ?_) (fun H1 p => ?_)
  · obtain ⟨ys, e1, _⟩ := p
    exact hG _ e1
  · obtain ⟨ys, e1, e2, e3⟩ := p
    obtain ⟨rfl, hx⟩ := hY _ _ _ _ y
    have hz := List.getElem?_eq_getElem hi
    have hzm := List.getElem_mem hi
    have hxd := hx _ hz
    generalize zs[i] = z at hz hzm hxd
    refine hg x z H1' _ hzm e1 hxd fun σ2 hB hw => ⟨hw, ?_⟩
    refine hte z H1' σ2 hzm e1 hB _ fun H2 s12 => ?_
    have e2' := s12 _ _ e2
    have yl : ys.length ≤ i := by
      rw [a2_len e3]
      exact Nat.le_trans (List.length_filter_le _ _) (by rw [List.length_take]; omega)
    have ht2 : zs.take (i + 1) = zs.take i ++ [z] := by rw [List.take_add_one, hz]; rfl
    by_cases hg : t z = true
    · rw [if_pos hg]
      have eT : Same H0 (cutS [D] H2) := fun a o ha => by
        rw [cutS_out (not1 (ne_of_none ha hD))]
        exact (e1.trans s12) a o ha
      refine he z H2 σ2 [D] hzm hg (e1.trans s12) eT (Trk.cons Trk.nil e2') hB ⟨D, _, rfl, e2'⟩ _ fun H3 u s2 hy => ?_
      refine ⟨ys, s2 _ _ e2', szL (by omega), ys ++ [u], ((e1.trans s12).trans s2).mut hD, upd_same, ?_⟩
      rw [cutS_upd List.mem_cons_self, ht2, List.filter_append, show [z].filter t = [z] by simp [hg]]
      exact a2_app (a2_imp (fun _ _ => hm _ _ _ _ (cutS_mono (s12.trans s2))) e3) (.cons hy .nil)
    · rw [if_neg hg]
      refine ⟨ys, e1.trans s12, e2', ?_⟩
      rw [ht2, List.filter_append, show [z].filter t = [] by simp [hg], List.append_nil]
      exact a2_imp (fun _ _ => hm _ _ _ _ (cutS_mono s12)) e3
  · obtain ⟨ys, e1, e2, e3⟩ := p
    refine q D ys H1 e1 hD e2 ?_
    rw [List.take_length] at e3
    exact e3
/-! ### places of texts -/
def ixS : List Str → Str → Nat
  | [], _ => 0
  | x :: xs, z => if x = z then 0 else ixS xs z + 1
theorem ixS_get : ∀ {ws : List Str} {z : Str}, z ∈ ws → ws[ixS ws z]? = some z ∧ ∀ m, m < ixS ws z → ws[m]? ≠ some z
  | x :: ws, z, h => by
    unfold ixS
    by_cases e : x = z
    · rw [if_pos e, e]
      exact ⟨rfl, fun m hm => absurd hm (by omega)⟩
    · rw [if_neg e]
      rcases List.mem_cons.mp h with h | h
      · exact absurd h.symm e
      · obtain ⟨g1, g2⟩ := ixS_get h
        refine ⟨by rw [List.getElem?_cons_succ]; exact g1, fun m hm => ?_⟩
        cases m with
        | zero =>
          rw [List.getElem?_cons_zero]
          exact fun q => e (Option.some.inj q)
        | succ m =>
          rw [List.getElem?_cons_succ]
          exact g2 m (by omega)
theorem ixS_map {f : Str → Int} {ws : List Str} {z : Str} (h : z ∈ ws) : atI (ws.map fun w => V.int (f w)) ((ixS ws z : Nat) : Int) = some (.int (f z)) := atI_nat (by rw [List.getElem?_map, (ixS_get h).1]; rfl)
/-! ### a net whose workers are a tuple whose object is known -/
structure WebO (K : PySem.W.Frag) (H : Hp) (v : V) (ws : List Str) (qs : List QD) : Prop where
  dp : Dp K H v (netD true ws qs)
  tw : ∃ (a0 a1 : Addr) (v2 : V) (ob : Obj), v = .ref a0 ∧ SqT K H a0 [.ref a1, v2] ∧ H a1 = some (.frz ob (.tup (ws.map V.str))) ∧ ob.cls = .type "tuple" ∧ ob.dict = none
theorem WebO.same {K : PySem.W.Frag} {H H' : Hp} {v : V} {ws : List Str} {qs : List QD} (w : WebO K H v ws qs) (e : Same H H') : WebO K H' v ws qs := ⟨e.dp w.dp, by
  obtain ⟨a0, a1, v2, ob, h1, h2, h3, h4, h5⟩ := w.tw
  exact ⟨a0, a1, v2, ob, h1, e.sqT h2, e _ _ h3, h4, h5⟩⟩
theorem WebO.of {K : PySem.W.Frag} {H : Hp} {v : V} {ws : List Str} {qs : List QD} (h : Dp K H v (netD true ws qs)) (t : TupW H v (ws.map V.str)) : WebO K H v ws qs := ⟨h, by
  obtain ⟨a0, a1, a2, ob, h1, h2, h3, h4, h5⟩ := t
  exact ⟨a0, a1, _, ob, h1, sqt_of h2, h3, h4, h5⟩⟩
theorem yat_map {α : Type} {g : α → V} {zs : List α} {i : Nat} {x : V} {z : α} (h : (zs.map g)[i]? = some x) (hz : zs[i]? = some z) : x = g z := by
  rw [List.getElem?_map, hz] at h
  exact (Option.some.inj h).symm
/-- [e for x in a row if t] -/
theorem lcs {K : PySem.W.Frag} {tl te : TE} {tt : TT} {j : Nat} {vs : List Nat} {σ : L2.St} {H H0 : Hp} {Q : VK} {a : Addr} {fb : Bool} {xs : List V} {α : Type} (zs : List α) (Rel : V → α → Prop) (R2 : Hp → V → α → Prop) (t : α → Bool)
    (ht : ∀ R' : VK, R' (.ref a) H0 → tl σ H R') (hs : SqF fb K H0 a xs) (hx : ∀ (i : Nat) (x : V) (z : α), xs[i]? = some x → zs[i]? = some z → Rel x z) (hn : xs.length = zs.length) (hl : zs.length ≤ 4000000) (hm : ∀ H H' u z, Same H H' → R2 H u z → R2 H' u z)
    (hw : ∀ x, wipe ((wipe σ vs).set j (some x)) vs = wipe σ vs)
    (hte : ∀ (x : V) (z : α) (H1 : Hp), z ∈ zs → Same H0 H1 → Rel x z → ∀ Q' : Bool → Hp → Prop, (∀ H2, Same H1 H2 → Q' (t z) H2) → tt ((wipe σ vs).set j (some x)) H1 Q')
    (he : ∀ (x : V) (z : α) (H2 : Hp) (T : List Addr), z ∈ zs → t z = true → Same H0 H2 → Same H0 (cutS T H2) → Trk T H2 → Rel x z → LstT T H2 → ∀ Q' : VK, (∀ H3 u, Same H2 H3 → R2 (cutS T H3) u z → Q' u H3) → te ((wipe σ vs).set j (some x)) H2 Q')
    (q : ∀ D ys H', Same H0 H' → H0 D = none → H' D = some (.lst ys) → A2 (R2 (cutS [D] H')) ys (zs.filter t) → Q (.ref D) H') : tLcX (iSeq K tl) (gName j) tt te vs σ H Q := by
  refine lc_of ?_
  refine iSeq_at ht hs fun J w => ?_
  exact lcg (K := K) (Q := Q) zs Rel R2 t (fun z σ2 => ∃ x, σ2 = (wipe σ vs).set j (some x) ∧ Rel x z) w hn (fun H' e => e.sqF hs) (fun i H x H' y => ⟨y.1, fun z hz => hx i x z y.2 hz⟩) hl hm (fun x z H1 R hz e1 hr r => r _ ⟨x, rfl, hr⟩ (hw x)) (fun z H1 σ2 hz e1 hB Q' q' => by
    obtain ⟨x, rfl, hr⟩ := hB
    exact hte x z H1 hz e1 hr Q' q') (fun z H2 σ2 T hz ht e1 e2 tr hB hT Q' q' => by
    obtain ⟨x, rfl, hr⟩ := hB
    exact he x z H2 T hz ht e1 e2 tr hr hT Q' q') q
theorem a2_bl {α : Type} {tf : α → Bool} : ∀ {ys : List V} {zs : List α}, A2 (fun u z => u = V.bl (tf z)) ys zs → ys = (zs.map tf).map V.bl
  | _, _, .nil => rfl
  | _, _, .cons a b => by rw [a, a2_bl b]; rfl
/-- all([e for x in a row]) -/
theorem all_lcs {K : PySem.W.Frag} {tl te : TE} {j : Nat} {vs : List Nat} {σ : L2.St} {H H0 : Hp} {Q : VK} {a : Addr} {fb : Bool} {xs : List V} {α : Type} (zs : List α) (Rel : V → α → Prop) (tf : α → Bool)
    (ht : ∀ R' : VK, R' (.ref a) H0 → tl σ H R') (hs : SqF fb K H0 a xs) (hx : ∀ (i : Nat) (x : V) (z : α), xs[i]? = some x → zs[i]? = some z → Rel x z) (hn : xs.length = zs.length) (hl : zs.length ≤ 4000000)
    (hw : ∀ x, wipe ((wipe σ vs).set j (some x)) vs = wipe σ vs)
    (he : ∀ (x : V) (z : α) (H2 : Hp), z ∈ zs → Same H0 H2 → Rel x z → ∀ Q' : VK, (∀ H3, Same H2 H3 → Q' (.bl (tf z)) H3) → te ((wipe σ vs).set j (some x)) H2 Q')
    (q : ∀ H', Same H0 H' → Q (.bl (zs.all tf)) H') : tCB (rAll K) (tCons (tLcX (iSeq K tl) (gName j) tYes te vs) tNil) σ H Q := by
  refine lcs (K := K) zs Rel (fun _ u z => u = V.bl (tf z)) (fun _ => true) ht hs hx hn hl (fun _ _ _ _ _ h => h) hw (fun x z H1 hz e1 hr Q' q' => q' H1 fun _ _ e => e) (fun x z H2 T hz _ e1 e2 tr hr _ Q' q' => he x z H2 hz e1 hr Q' fun H3 e3 => q' H3 _ e3 rfl) fun D ys H' s1 h0 h1 h2 => ?_
  rw [List.filter_eq_self.mpr fun _ _ => rfl] at h2
  have e := a2_bl h2
  subst e
  refine ⟨D, _, rfl, sql_of h1, ?_⟩
  have e : (zs.map tf).all id = zs.all tf := by rw [List.all_map]; rfl
  rw [e]
  exact q H' s1
theorem asg_of {te : TE} {i : Nat} {u : TS} {D : Ends} {σ : L2.St} {H : Hp} (h : te σ H fun v H1 => u D (σ.set i (some v)) H1) : tSeq (tAsg te (gName i)) u D σ H := h
/-- [e for x in range(..) if t] -/
theorem lcr {K : PySem.W.Frag} {wi : TI} {te : TE} {tt : TT} {j : Nat} {vs : List Nat} {σ : L2.St} {H H0 : Hp} {Q : VK} (lo : Int) (n : Nat) (R2 : Hp → V → Nat → Prop) (t : Nat → Bool)
    (hgo : ∀ R : It → Hp → Prop, R (Itr lo n) H0 → wi σ H R) (hl : n ≤ 4000000) (hm : ∀ H H' u z, Same H H' → R2 H u z → R2 H' u z)
    (hw : ∀ x, wipe ((wipe σ vs).set j (some x)) vs = wipe σ vs)
    (hte : ∀ (i : Nat) (H1 : Hp), i < n → Same H0 H1 → ∀ Q' : Bool → Hp → Prop, (∀ H2, Same H1 H2 → Q' (t i) H2) → tt ((wipe σ vs).set j (some (.int (lo + (i : Nat))))) H1 Q')
    (he : ∀ (i : Nat) (H2 : Hp) (T : List Addr), i < n → t i = true → Same H0 H2 → Same H0 (cutS T H2) → Trk T H2 → LstT T H2 → ∀ Q' : VK, (∀ H3 u, Same H2 H3 → R2 (cutS T H3) u i → Q' u H3) → te ((wipe σ vs).set j (some (.int (lo + (i : Nat))))) H2 Q')
    (q : ∀ D ys H', Same H0 H' → H0 D = none → H' D = some (.lst ys) → A2 (R2 (cutS [D] H')) ys ((List.range n).filter t) → Q (.ref D) H') : tLcX wi (gName j) tt te vs σ H Q := by
  refine lc_of (hgo _ ?_)
  exact lcg (K := K) (Q := Q) (List.range n) (fun x (i : Nat) => x = .int (lo + (i : Nat))) R2 t (fun i σ2 => σ2 = (wipe σ vs).set j (some (.int (lo + (i : Nat))))) walk_range (by rw [List.length_range]) (fun _ _ => trivial) (fun i H x H' y => ⟨y.1, fun z hz => by
      have hi := (List.getElem?_eq_some_iff.mp hz).1
      rw [List.length_range] at hi
      rw [List.getElem?_range hi] at hz
      cases hz
      exact y.2⟩) (by rw [List.length_range]; exact hl) hm (fun x z H1 R hz e1 hr r => by
      subst hr
      exact r _ rfl (hw _)) (fun z H1 σ2 hz e1 hB Q' q' => by
      subst hB
      exact hte z H1 (List.mem_range.mp hz) e1 Q' q') (fun z H2 σ2 T hz ht e1 e2 tr hB hT Q' q' => by
      subst hB
      exact he z H2 T (List.mem_range.mp hz) ht e1 e2 tr hT Q' q') q
/-- [e for x in a new tuple if t] -/
theorem lcsD {K : PySem.W.Frag} {tl te : TE} {tt : TT} {j : Nat} {vs : List Nat} {σ : L2.St} {H : Hp} {Q : VK} {xs : List V} {α : Type} (zs : List α) (Rel : V → α → Prop) (R2 : Hp → V → α → Prop) (t : α → Bool)
    (ht : ∀ R' : VK, (∀ a H0, Same H H0 → SqT K H0 a xs → R' (.ref a) H0) → tl σ H R') (hx : ∀ (i : Nat) (x : V) (z : α), xs[i]? = some x → zs[i]? = some z → Rel x z) (hn : xs.length = zs.length) (hl : zs.length ≤ 4000000) (hm : ∀ H H' u z, Same H H' → R2 H u z → R2 H' u z)
    (hw : ∀ x, wipe ((wipe σ vs).set j (some x)) vs = wipe σ vs)
    (hte : ∀ (x : V) (z : α) (H1 : Hp), z ∈ zs → Same H H1 → Rel x z → ∀ Q' : Bool → Hp → Prop, (∀ H2, Same H1 H2 → Q' (t z) H2) → tt ((wipe σ vs).set j (some x)) H1 Q')
    (he : ∀ (x : V) (z : α) (H2 : Hp) (T : List Addr), z ∈ zs → t z = true → Same H H2 → Same H (cutS T H2) → Trk T H2 → Rel x z → LstT T H2 → ∀ Q' : VK, (∀ H3 u, Same H2 H3 → R2 (cutS T H3) u z → Q' u H3) → te ((wipe σ vs).set j (some x)) H2 Q')
    (q : ∀ D ys H', Same H H' → H D = none → H' D = some (.lst ys) → A2 (R2 (cutS [D] H')) ys (zs.filter t) → Q (.ref D) H') : tLcX (iSeq K tl) (gName j) tt te vs σ H Q := by
  refine lc_of (.inr (ht _ fun a H0 s h => ⟨a, rfl, ⟨xs, h⟩, ?_⟩))
  exact lcg (K := K) (Q := Q) zs Rel R2 t (fun z σ2 => ∃ x, σ2 = (wipe σ vs).set j (some x) ∧ Rel x z) (walk_tup (K := K) (a := a) (xs := xs)) hn (fun H' e => e.sqT h) (fun i H x H' y => ⟨y.1, fun z hz => hx i x z y.2 hz⟩) hl hm (fun x z H1 R hz e1 hr r => r _ ⟨x, rfl, hr⟩ (hw x)) (fun z H1 σ2 hz e1 hB Q' q' => by
    obtain ⟨x, rfl, hr⟩ := hB
    exact hte x z H1 hz (s.trans e1) hr Q' q') (fun z H2 σ2 T hz ht e1 e2 tr hB hT Q' q' => by
    obtain ⟨x, rfl, hr⟩ := hB
    exact he x z H2 T hz ht (s.trans e1) (s.trans e2) tr hr hT Q' q') fun D ys H' s1 h0 h1 h2 => q D ys H' (s.trans s1) (s.free h0) h1 h2
/-- all([e for x in a new tuple]) -/
theorem all_lcsD {K : PySem.W.Frag} {tl te : TE} {j : Nat} {vs : List Nat} {σ : L2.St} {H : Hp} {Q : VK} {xs : List V} {α : Type} (zs : List α) (Rel : V → α → Prop) (tf : α → Bool)
    (ht : ∀ R' : VK, (∀ a H0, Same H H0 → SqT K H0 a xs → R' (.ref a) H0) → tl σ H R') (hx : ∀ (i : Nat) (x : V) (z : α), xs[i]? = some x → zs[i]? = some z → Rel x z) (hn : xs.length = zs.length) (hl : zs.length ≤ 4000000)
    (hw : ∀ x, wipe ((wipe σ vs).set j (some x)) vs = wipe σ vs)
    (he : ∀ (x : V) (z : α) (H2 : Hp), z ∈ zs → Same H H2 → Rel x z → ∀ Q' : VK, (∀ H3, Same H2 H3 → Q' (.bl (tf z)) H3) → te ((wipe σ vs).set j (some x)) H2 Q')
    (q : ∀ H', Same H H' → Q (.bl (zs.all tf)) H') : tCB (rAll K) (tCons (tLcX (iSeq K tl) (gName j) tYes te vs) tNil) σ H Q := by
  refine lcsD (K := K) zs Rel (fun _ u z => u = V.bl (tf z)) (fun _ => true) ht hx hn hl (fun _ _ _ _ _ h => h) hw (fun x z H1 hz e1 hr Q' q' => q' H1 fun _ _ e => e) (fun x z H2 T hz _ e1 e2 tr hr _ Q' q' => he x z H2 hz e1 hr Q' fun H3 e3 => q' H3 _ e3 rfl) fun D ys H' s1 h0 h1 h2 => ?_
  rw [List.filter_eq_self.mpr fun _ _ => rfl] at h2
  have e := a2_bl h2
  subst e
  refine ⟨D, _, rfl, sql_of h1, ?_⟩
  have e : (zs.map tf).all id = zs.all tf := by rw [List.all_map]; rfl
  rw [e]
  exact q H' s1
section
variable {K : PySem.W.Frag} {σ : L2.St}
theorem asg_ic {te : TE} {i : Nat} {u : TS} {D : Ends} {H : Hp} {d : PyData} (h : IsC K [] H te d σ) (q : ∀ H' v, Same H H' → Dp K H' v d → u D (σ.set i (some v)) H') : tSeq (tAsg te (gName i)) u D σ H := h H _ (fun _ _ e => e) Trk.nil fun H' v s1 h1 => q H' v s1 (by rwa [cutS_nil] at h1)
theorem call_ac {t : TA} {ds : List PyData} {sp : Sp} {E : XK} {H : Hp} {Q : VK} (h : AreC K [] H t ds σ) (q : ∀ H' vs, Same H H' → DpAll K H' vs ds → sp (vs ++ []) H' Q E) : tCall sp [] E t σ H Q := h H _ (fun _ _ e => e) Trk.nil fun H' vs s1 h1 => q H' vs s1 (by rwa [cutS_nil] at h1)
theorem same_ac {E : XK} {H : Hp} {t : TA} {d : PyData} {Q : VK} (h : AreC K [] H t [d, d] σ) (ok : okD 5 d) (q : ∀ H', Same H H' → Q (.bl true) H') : tCall (spSame K 5) [] E t σ H Q := call_ac h fun H' vs s1 hd => by
  cases hd with
  | cons h1 hd =>
    cases hd with
    | cons h2 hd =>
      cases hd
      exact ⟨_, _, d, rfl, h1, h2, ok, fun H2 s2 => q H2 (s1.trans s2)⟩
end
theorem webO_cut {K : PySem.W.Frag} {H : Hp} {T : List Addr} {v : V} {ws : List Str} {qs : List QD} (w : WebO K H v ws qs) (hT : LstT T H) : WebO K (cutS T H) v ws qs := by
  refine ⟨dpT_cut hT _ _ tup_net w.dp, ?_⟩
  obtain ⟨a0, a1, v2, ob, h1, h2, h3, h4, h5⟩ := w.tw
  refine ⟨a0, a1, v2, ob, h1, sqt_cutL h2 hT, ?_, h4, h5⟩
  obtain ⟨D, acc, rfl, hD⟩ := hT
  refine cutS_at h3 (not1 fun z => ?_)
  rw [z, hD] at h3
  cases h3
end Jl

set_option Elab.async false
set_option linter.all false
set_option maxRecDepth 100000
set_option maxHeartbeats 1000000
set_option pp.maxSteps 300
namespace Jl
open PySem PySem.Spec PyProof.Rows L2
open Evl (sz_of sz_lt)
local macro_rules | `(tactic| walk_at "at") => `(tactic| first | exact box0 | exact box1 | exact box2)
local macro_rules | `(tactic| walk_at "sq") => `(tactic| first | (show SqL _ _ _ _; assumption) | (show SqT _ _ _ _; assumption) | (show _ = some _; assumption))
local macro_rules | `(tactic| walk_at "side") => `(tactic| first
  | (show (0 : Int) < _; decide)
  | (show (0 : Int) < _; omega)
  | exact ⟨by decide, by decide, by decide⟩
  | exact sz_of (Nat.le_of_ble_eq_true rfl)
  | exact rfl
  | exact Or.inl (by decide)
  | exact Or.inr (by decide)
  | exact Or.inr ⟨by omega, by omega⟩
  | exact Or.inl ⟨by omega, by omega⟩
  | exact ⟨by decide, by decide +kernel⟩)
local macro_rules | `(tactic| walk_at "ev1") => `(tactic| first
  | refine ⟨_, rfl, ?_⟩
  | refine ⟨_, _, rfl, rfl, ?_⟩
  | refine ⟨_, _, _, _, rfl, rfl, (by walk_at "sq"), (by walk_at "at"), ?_⟩
  | refine ⟨_, _, rfl, (by walk_at "sq"), ?_⟩
  | refine ⟨_, _, rfl, Or.inl (by walk_at "sq"), ?_⟩
  | refine ⟨_, _, rfl, Or.inr (by walk_at "sq"), ?_⟩
  | refine Or.inl ⟨_, rfl, ?_⟩
  | refine Or.inr ⟨_, rfl, ?_⟩
  | refine ⟨(by walk_at "side"), ?_⟩
  | refine ⟨.inl ⟨rfl, _, (by walk_at "sq")⟩, ?_⟩
  | refine ⟨_, _, rfl, ?_⟩)
local macro_rules | `(tactic| walk_at "nrm") => `(tactic| dsimp only [tNil, tCons, tC, tCB])
local macro_rules | `(tactic| walk_at "ev") => `(tactic| repeat (walk_at "ev1"))



/-- xs == [], xs != [] of a list of data -/
def OkE (d : PyData) : Prop := d.canLay0 = true ∧ d.depth ≤ 30
theorem okE_int {i : Int} : OkE (.int i) := ⟨by simp [PyData.canLay0], by simp [PyData.depth]⟩
theorem okE_q {q : QD} (h1 : PyData.strOk q.nm = true) (h2 : PyData.strOk q.st = true) (h3 : PyData.strOk q.en = true) : OkE (q.d true) := by
  refine ⟨can_seq (f := true) fun d hd => ?_, Nat.le_trans (dep_seq (f := true) (n := 0) fun d hd => ?_) (by decide)⟩
  · rcases mem5 hd with rfl | rfl | rfl | rfl | rfl
    · rw [PyData.canLay0]; exact h1
    · rw [PyData.canLay0]; exact h2
    · rw [PyData.canLay0]; exact h3
    · rw [PyData.canLay0]
    · rw [PyData.canLay0]
  · rcases mem5 hd with rfl | rfl | rfl | rfl | rfl <;> simp [PyData.depth]
theorem eq_nilD {K : PySem.W.Frag} {σ : L2.St} {H : Hp} {Q : VK} {i : Nat} {D : Addr} {ys : List V} {ds : List PyData} (hi : σ[i]? = some (some (.ref D))) (hD : SqL K H D ys) (hd : DpAll K H ys ds) (hs : ∀ d ∈ ds, OkE d) (q : ∀ H', Same H H' → Q (.bl ds.isEmpty) H') : tOp (rEqD K) (tVar i) (tLst tNil) σ H Q := by
  refine ⟨_, hi, ?_⟩
  refine ⟨by show 0 ≤ sizeLine; exact Nat.zero_le _, fun l hl => ?_⟩
  have s1 : Same H (upd H l (.lst [])) := .upd hl
  refine ⟨.list ds, .list [], .lst (s1.sqL hD) (s1.dpa hd), .lst (sql_of upd_same) .nil, shaped_of (can_seq (f := false) fun d hd => (hs d hd).1) (Nat.le_trans (dep_seq (f := false) (n := 30) fun d hd => (hs d hd).2) (by decide)), shaped_nil3, ?_⟩
  rw [eqv_nil3]
  exact q _ s1
theorem ne_nilD {K : PySem.W.Frag} {σ : L2.St} {H : Hp} {Q : VK} {i : Nat} {D : Addr} {ys : List V} {ds : List PyData} (hi : σ[i]? = some (some (.ref D))) (hD : SqL K H D ys) (hd : DpAll K H ys ds) (hs : ∀ d ∈ ds, OkE d) (q : ∀ H', Same H H' → Q (.bl (!ds.isEmpty)) H') : tOp (rNeD K) (tVar i) (tLst tNil) σ H Q := by
  refine ⟨_, hi, ?_⟩
  refine ⟨by show 0 ≤ sizeLine; exact Nat.zero_le _, fun l hl => ?_⟩
  have s1 : Same H (upd H l (.lst [])) := .upd hl
  refine ⟨.list ds, .list [], .lst (s1.sqL hD) (s1.dpa hd), .lst (sql_of upd_same) .nil, shaped_of (can_seq (f := false) fun d hd => (hs d hd).1) (Nat.le_trans (dep_seq (f := false) (n := 30) fun d hd => (hs d hd).2) (by decide)), shaped_nil3, ?_⟩
  rw [eqv_nil3]
  exact q _ s1
theorem dpa_ints {K : PySem.W.Frag} {H : Hp} : ∀ {is : List Int}, DpAll K H (is.map V.int) (is.map PyData.int)
  | [] => .nil
  | i :: is => .cons (.int i) dpa_ints
end Jl

set_option Elab.async false
set_option linter.all false
set_option maxRecDepth 100000
set_option maxHeartbeats 1000000
set_option pp.maxSteps 300
namespace Jl
open PySem PySem.Spec PyProof.Rows L2
open Evl (sz_of sz_lt)
local macro_rules | `(tactic| walk_at "at") => `(tactic| first | exact box0 | exact box1 | exact box2)
local macro_rules | `(tactic| walk_at "sq") => `(tactic| first | (show SqL _ _ _ _; assumption) | (show SqT _ _ _ _; assumption) | (show _ = some _; assumption))
local macro_rules | `(tactic| walk_at "side") => `(tactic| first
  | (show (0 : Int) < _; decide)
  | (show (0 : Int) < _; omega)
  | exact ⟨by decide, by decide, by decide⟩
  | exact sz_of (Nat.le_of_ble_eq_true rfl)
  | exact rfl
  | exact Or.inl (by decide)
  | exact Or.inr (by decide)
  | exact Or.inr ⟨by omega, by omega⟩
  | exact Or.inl ⟨by omega, by omega⟩
  | exact ⟨by decide, by decide +kernel⟩)
local macro_rules | `(tactic| walk_at "ev1") => `(tactic| first
  | refine ⟨_, rfl, ?_⟩
  | refine ⟨_, _, rfl, rfl, ?_⟩
  | refine ⟨_, _, _, _, rfl, rfl, (by walk_at "sq"), (by walk_at "at"), ?_⟩
  | refine ⟨_, _, rfl, (by walk_at "sq"), ?_⟩
  | refine ⟨_, _, rfl, Or.inl (by walk_at "sq"), ?_⟩
  | refine ⟨_, _, rfl, Or.inr (by walk_at "sq"), ?_⟩
  | refine Or.inl ⟨_, rfl, ?_⟩
  | refine Or.inr ⟨_, rfl, ?_⟩
  | refine ⟨(by walk_at "side"), ?_⟩
  | refine ⟨.inl ⟨rfl, _, (by walk_at "sq")⟩, ?_⟩
  | refine ⟨_, _, rfl, ?_⟩)
local macro_rules | `(tactic| walk_at "nrm") => `(tactic| dsimp only [tNil, tCons, tC, tCB])
local macro_rules | `(tactic| walk_at "ev") => `(tactic| repeat (walk_at "ev1"))
/-! ### least sums from one worker -/
theorem stepD_mem {acc : List Str} {x y : Str} : y ∈ stepD acc x ↔ y ∈ acc ∨ y = x := by
  unfold stepD
  split
  · rename_i h
    exact ⟨.inl, fun z => z.elim id fun e => by rw [e]; exact h⟩
  · rw [List.mem_append, List.mem_singleton]
theorem stepD_nd {acc : List Str} {x : Str} (h : acc.Nodup) : (stepD acc x).Nodup := by
  unfold stepD
  split
  · exact h
  · rename_i hx
    refine List.nodup_append.mpr ⟨h, List.nodup_cons.mpr ⟨List.not_mem_nil, List.nodup_nil⟩, fun a ha b hb e => hx ?_⟩
    rw [← List.mem_singleton.mp hb, ← e]
    exact ha
theorem dedF : ∀ {xs acc : List Str}, acc.Nodup → (xs.foldl stepD acc).Nodup ∧ ∀ y, y ∈ xs.foldl stepD acc ↔ y ∈ acc ∨ y ∈ xs
  | [], acc, h => ⟨h, fun y => by simp⟩
  | x :: xs, acc, h => by
    obtain ⟨h1, h2⟩ := dedF (xs := xs) (stepD_nd (x := x) h)
    refine ⟨h1, fun y => ?_⟩
    rw [List.foldl_cons, h2 y, stepD_mem, List.mem_cons, or_assoc]
theorem dedS_nd {xs : List Str} : (dedS xs).Nodup := (dedF List.nodup_nil).1
theorem mem_dedS {xs : List Str} {y : Str} : y ∈ dedS xs ↔ y ∈ xs := by
  have := (dedF (xs := xs) List.nodup_nil).2 y
  rw [show (y ∈ ([] : List Str) ∨ y ∈ xs) ↔ y ∈ xs by simp] at this
  exact this
theorem ded_le {xs U : List Str} (h : ∀ x ∈ xs, x ∈ U) : (dedS xs).length ≤ U.length := List.Nodup.length_le_of_subset dedS_nd fun x hx => h x (mem_dedS.mp hx)
theorem ded_ge {xs U : List Str} (hn : U.Nodup) (h : ∀ x ∈ U, x ∈ xs) : U.length ≤ (dedS xs).length := List.Nodup.length_le_of_subset hn fun x hx => mem_dedS.mpr (h x hx)
def AW (as : List Arc) : Str → List Arc → Str → Prop
  | x, [], y => x = y
  | x, a :: es, y => a ∈ as ∧ a.fr = x ∧ AW as a.to es y
def sumA (es : List Arc) : Int := (es.map Arc.wt).sum
theorem sumA_cons {a : Arc} {es : List Arc} : sumA (a :: es) = a.wt + sumA es := by
  unfold sumA
  rw [List.map_cons, List.sum_cons]
theorem sumA_app {a b : List Arc} : sumA (a ++ b) = sumA a + sumA b := by
  induction a with
  | nil =>
    rw [List.nil_append]
    show sumA b = 0 + sumA b
    omega
  | cons x a ih =>
    rw [List.cons_append, sumA_cons, sumA_cons, ih]
    omega
theorem aw_app {as : List Arc} {b : List Arc} {z : Str} : ∀ {a : List Arc} {x : Str}, AW as x (a ++ b) z ↔ ∃ y, AW as x a y ∧ AW as y b z
  | [], x => ⟨fun h => ⟨x, rfl, h⟩, fun ⟨y, h1, h2⟩ => by
    have h1 : x = y := h1
    rw [h1]
    exact h2⟩
  | e :: a, x => ⟨fun h => by
    obtain ⟨y, h1, h2⟩ := aw_app.mp h.2.2
    exact ⟨y, ⟨h.1, h.2.1, h1⟩, h2⟩, fun ⟨y, h1, h2⟩ => ⟨h1.1, h1.2.1, aw_app.mpr ⟨y, h1.2.2, h2⟩⟩⟩
/-- no closed walk earns anything -/
def NNC (as : List Arc) : Prop := ∀ x es, AW as x es x → 0 ≤ sumA es
theorem dup_split {α β : Type} {f : α → β} : ∀ {l : List α}, ¬ (l.map f).Nodup → ∃ a e1 b e2 c, l = a ++ e1 :: (b ++ e2 :: c) ∧ f e1 = f e2
  | [], h => absurd List.nodup_nil h
  | x :: l, h => by
    by_cases hx : f x ∈ l.map f
    · obtain ⟨y, hy, e⟩ := List.mem_map.mp hx
      obtain ⟨b, c, rfl⟩ := List.append_of_mem hy
      exact ⟨[], x, b, y, c, rfl, e.symm⟩
    · have h2 : ¬ (l.map f).Nodup := fun z => h (by rw [List.map_cons, List.nodup_cons]; exact ⟨hx, z⟩)
      obtain ⟨a, e1, b, e2, c, rfl, e⟩ := dup_split h2
      exact ⟨x :: a, e1, b, e2, c, rfl, e⟩
theorem simple_walk {as : List Arc} (hn : NNC as) : ∀ (n : Nat) (es : List Arc) (x v : Str), es.length ≤ n → AW as x es v → ∃ es', AW as x es' v ∧ sumA es' ≤ sumA es ∧ (es'.map Arc.fr ++ [v]).Nodup := by
  intro n
  induction n with
  | zero =>
    intro es x v hl h
    have : es = [] := List.length_eq_zero_iff.mp (by omega)
    subst this
    exact ⟨[], h, Int.le_refl _, by simp⟩
  | succ n ih =>
    intro es x v hl h
    by_cases hv : v ∈ es.map Arc.fr
    · obtain ⟨e, he, ev⟩ := List.mem_map.mp hv
      obtain ⟨a, c, rfl⟩ := List.append_of_mem he
      obtain ⟨y, h1, h2⟩ := aw_app.mp h
      have ey : y = v := h2.2.1.symm.trans ev
      subst ey
      obtain ⟨es', k1, k2, k3⟩ := ih a x y (by rw [List.length_append, List.length_cons] at hl; omega) h1
      refine ⟨es', k1, ?_, k3⟩
      have := hn y _ h2
      rw [sumA_app]
      omega
    · by_cases hd : (es.map Arc.fr).Nodup
      · refine ⟨es, h, Int.le_refl _, List.nodup_append.mpr ⟨hd, by simp, fun a ha b hb e => ?_⟩⟩
        rw [List.mem_singleton] at hb
        rw [e, hb] at ha
        exact hv ha
      · obtain ⟨a, e1, b, e2, c, rfl, ee⟩ := dup_split hd
        obtain ⟨y, h1, h2⟩ := aw_app.mp h
        have h2' : AW as y ((e1 :: b) ++ (e2 :: c)) v := h2
        obtain ⟨z, h3, h4⟩ := aw_app.mp h2'
        have ez : z = y := by
          rw [← h4.2.1, ← h3.2.1, ee]
        subst ez
        obtain ⟨es', k1, k2, k3⟩ := ih (a ++ e2 :: c) x v (by simp at hl ⊢; omega) (aw_app.mpr ⟨z, h1, h4⟩)
        refine ⟨es', k1, ?_, k3⟩
        have := hn z _ h3
        have e9 : a ++ e1 :: (b ++ e2 :: c) = a ++ ((e1 :: b) ++ (e2 :: c)) := rfl
        rw [e9, sumA_app, sumA_app]
        rw [sumA_app] at k2
        omega
theorem fr_in {as : List Arc} : ∀ {es : List Arc} {x v : Str}, AW as x es v → ∀ u ∈ es.map Arc.fr, u = x ∨ u ∈ as.map Arc.to
  | [], _, _, _, u, hu => nomatch hu
  | a :: es, x, v, h, u, hu => by
    rcases List.mem_cons.mp hu with rfl | hu
    · exact .inl h.2.1
    · rcases fr_in h.2.2 u hu with rfl | hu
      · exact .inr (List.mem_map_of_mem h.1)
      · exact .inr hu
section
variable {as : List Arc} {w : Str}
def Snd (as : List Arc) (w : Str) (s : LS) : Prop := ∀ v x, lk s.sums v = some x → ∃ es, AW as w es v ∧ sumA es = x
theorem relax_snd {s : LS} {i : Nat} (h : Snd as w s) : Snd as w (relaxA as s i) := by
  cases ha : as[i]? with
  | none =>
    unfold relaxA
    rw [ha]
    exact h
  | some a =>
    cases hx : lk s.sums a.fr with
    | none => rw [relaxA_none ha hx]; exact h
    | some x =>
      cases hb : better s a (x + a.wt) with
      | false => rw [relaxA_no ha hx hb]; exact h
      | true =>
        rw [relaxA_yes ha hx hb]
        intro v y hy
        have hy : lk (putM s.sums a.to (x + a.wt)) v = some y := hy
        rw [lk_put] at hy
        by_cases e : a.to = v
        · rw [if_pos e] at hy
          cases hy
          obtain ⟨es, h1, h2⟩ := h _ _ hx
          refine ⟨es ++ [a], aw_app.mpr ⟨a.fr, h1, List.mem_of_getElem? ha, rfl, e⟩, ?_⟩
          rw [sumA_app, h2]
          show x + (a.wt + 0) = _
          omega
        · rw [if_neg e] at hy
          exact h v y hy
theorem relax_mono {s : LS} {i : Nat} {v : Str} {x : Int} (h : lk s.sums v = some x) : ∃ y, lk (relaxA as s i).sums v = some y ∧ y ≤ x := by
  cases ha : as[i]? with
  | none =>
    unfold relaxA
    rw [ha]
    exact ⟨x, h, Int.le_refl _⟩
  | some a =>
    cases hx : lk s.sums a.fr with
    | none => rw [relaxA_none ha hx]; exact ⟨x, h, Int.le_refl _⟩
    | some z =>
      cases hb : better s a (z + a.wt) with
      | false => rw [relaxA_no ha hx hb]; exact ⟨x, h, Int.le_refl _⟩
      | true =>
        rw [relaxA_yes ha hx hb]
        show ∃ y, lk (putM s.sums a.to (z + a.wt)) v = some y ∧ y ≤ x
        rw [lk_put]
        by_cases e : a.to = v
        · rw [if_pos e]
          refine ⟨_, rfl, ?_⟩
          unfold better at hb
          rw [e, h] at hb
          have : z + a.wt < x := of_decide_eq_true hb
          omega
        · rw [if_neg e]
          exact ⟨x, h, Int.le_refl _⟩
theorem round_snd {s : LS} (h : Snd as w s) : ∀ n, Snd as w (roundN as s n)
  | 0 => h
  | n + 1 => by
    rw [round_next]
    exact relax_snd (round_snd h n)
theorem round_mono {s : LS} {v : Str} {x : Int} {m : Nat} (h : lk (roundN as s m).sums v = some x) : ∀ d, ∃ y, lk (roundN as s (m + d)).sums v = some y ∧ y ≤ x
  | 0 => ⟨x, h, Int.le_refl _⟩
  | d + 1 => by
    obtain ⟨y, h1, h2⟩ := round_mono h d
    rw [show m + (d + 1) = (m + d) + 1 from rfl, round_next]
    obtain ⟨z, h3, h4⟩ := relax_mono (as := as) (i := m + d) h1
    exact ⟨z, h3, by omega⟩
theorem round_arc {s : LS} {a : Arc} (ha : a ∈ as) {x : Int} (h : lk s.sums a.fr = some x) : ∃ y, lk (roundN as s as.length).sums a.to = some y ∧ y ≤ x + a.wt := by
  obtain ⟨i, hi, e⟩ := List.mem_iff_getElem.mp ha
  have hia : as[i]? = some a := by rw [List.getElem?_eq_getElem hi, e]
  have h0 : lk (roundN as s 0).sums a.fr = some x := h
  obtain ⟨x', h1, h2⟩ := round_mono h0 i
  rw [Nat.zero_add] at h1
  have h3 : ∃ y, lk (roundN as s (i + 1)).sums a.to = some y ∧ y ≤ x' + a.wt := by
    rw [round_next]
    cases hb : better (roundN as s i) a (x' + a.wt) with
    | true =>
      rw [relaxA_yes hia h1 hb]
      show ∃ y, lk (putM _ a.to _) a.to = some y ∧ _
      rw [lk_put, if_pos rfl]
      exact ⟨_, rfl, Int.le_refl _⟩
    | false =>
      rw [relaxA_no hia h1 hb]
      unfold better at hb
      cases hy : lk (roundN as s i).sums a.to with
      | none =>
        rw [hy] at hb
        cases hb
      | some y =>
        rw [hy] at hb
        have : ¬ x' + a.wt < y := of_decide_eq_false hb
        exact ⟨y, rfl, by omega⟩
  obtain ⟨y, h4, h5⟩ := h3
  obtain ⟨z, h6, h7⟩ := round_mono h4 (as.length - (i + 1))
  rw [show i + 1 + (as.length - (i + 1)) = as.length by omega] at h6
  exact ⟨z, h6, by omega⟩
theorem round_quiet {s : LS} : ∀ n, (roundN as s n).low = none → (roundN as s n).sums = s.sums
  | 0, _ => rfl
  | n + 1, h => by
    rw [round_next] at h ⊢
    have ih := round_quiet (s := s) n
    generalize roundN as s n = r at h ih ⊢
    cases ha : as[n]? with
    | none =>
      have e : relaxA as r n = r := by
        unfold relaxA
        rw [ha]
      rw [e] at h ⊢
      exact ih h
    | some a =>
      cases hx : lk r.sums a.fr with
      | none => rw [relaxA_none ha hx] at h ⊢; exact ih h
      | some x =>
        cases hb : better r a (x + a.wt) with
        | false => rw [relaxA_no ha hx hb] at h ⊢; exact ih h
        | true =>
          rw [relaxA_yes ha hx hb] at h
          cases h
def Upp (as : List Arc) (w : Str) (k : Nat) (s : LS) : Prop := ∀ es v, AW as w es v → es.length ≤ k → ∃ y, lk s.sums v = some y ∧ y ≤ sumA es
def UppA (as : List Arc) (w : Str) (s : LS) : Prop := ∀ es v, AW as w es v → ∃ y, lk s.sums v = some y ∧ y ≤ sumA es
theorem upp_round {k : Nat} {s : LS} (h : Upp as w k s) : Upp as w (k + 1) (roundN as s as.length) := by
  intro es v he hl
  rcases List.eq_nil_or_concat es with e0 | ⟨es0, a, e0⟩
  · obtain ⟨y, h1, h2⟩ := h es v he (by rw [e0]; exact Nat.zero_le _)
    have h0 : lk (roundN as s 0).sums v = some y := h1
    obtain ⟨z, h3, h4⟩ := round_mono h0 as.length
    rw [Nat.zero_add] at h3
    exact ⟨z, h3, by omega⟩
  · rw [List.concat_eq_append] at e0
    subst e0
    obtain ⟨u, h1, h2⟩ := aw_app.mp he
    rw [List.length_append, List.length_singleton] at hl
    obtain ⟨y, h3, h4⟩ := h es0 u h1 (by omega)
    have e1 : a.fr = u := h2.2.1
    have e2 : a.to = v := h2.2.2
    obtain ⟨z, h5, h6⟩ := round_arc h2.1 (by rw [e1]; exact h3)
    rw [e2] at h5
    refine ⟨z, h5, ?_⟩
    rw [sumA_app]
    show z ≤ sumA es0 + (a.wt + 0)
    omega
theorem upp_fix {k : Nat} {s : LS} (h : Upp as w k s) (hl : (roundN as s as.length).low = none) : UppA as w (roundN as s as.length) := by
  have eq := round_quiet _ hl
  have key : ∀ (n : Nat) (es : List Arc) (v : Str), es.length = n → AW as w es v → ∃ y, lk s.sums v = some y ∧ y ≤ sumA es := fun n => by
    induction n with
    | zero =>
      intro es v hn he
      exact h es v he (by omega)
    | succ n ih =>
      intro es v hn he
      rcases List.eq_nil_or_concat es with e0 | ⟨es0, a, e0⟩
      · rw [e0] at hn
        cases hn
      · rw [List.concat_eq_append] at e0
        subst e0
        obtain ⟨u, h1, h2⟩ := aw_app.mp he
        rw [List.length_append, List.length_singleton] at hn
        obtain ⟨y, h3, h4⟩ := ih es0 u (by omega) h1
        have e1 : a.fr = u := h2.2.1
        have e2 : a.to = v := h2.2.2
        obtain ⟨z, h5, h6⟩ := round_arc (s := s) h2.1 (by rw [e1]; exact h3)
        rw [e2, eq] at h5
        refine ⟨z, h5, ?_⟩
        rw [sumA_app]
        show z ≤ sumA es0 + (a.wt + 0)
        omega
  intro es v he
  rw [eq]
  exact key _ es v rfl he
theorem turns_both : ∀ (n k : Nat) (s : LS), Upp as w k s → Snd as w s → Snd as w (turns as n s) ∧ (Upp as w (k + n) (turns as n s) ∨ UppA as w (turns as n s))
  | 0, k, s, h, hs => ⟨hs, .inl h⟩
  | n + 1, k, s, h, hs => by
    unfold turns
    have h2 := round_snd hs as.length
    by_cases hl : (roundN as s as.length).low = none
    · rw [if_pos hl]
      exact ⟨h2, .inr (upp_fix h hl)⟩
    · rw [if_neg hl]
      have := turns_both n (k + 1) _ (upp_round h) h2
      rw [show k + (n + 1) = k + 1 + n by omega]
      exact this
/-- the least sums are the least costs of walks -/
theorem one_exact (hn : NNC as) : (∀ v x, lk (leastF as [(w, 0)]).sums v = some x → ∃ es, AW as w es v ∧ sumA es = x) ∧ ∀ es v, AW as w es v → ∃ y, lk (leastF as [(w, 0)]).sums v = some y ∧ y ≤ sumA es := by
  have one : ∀ v x, lk [(w, (0 : Int))] v = some x → v = w ∧ x = 0 := fun v x h => by
    have h : (if w = v then some (0 : Int) else none) = some x := h
    by_cases e : w = v
    · rw [if_pos e] at h
      cases h
      exact ⟨e.symm, rfl⟩
    · rw [if_neg e] at h
      cases h
  have s0 : Snd as w ⟨[(w, 0)], [], none⟩ := fun v x h => by
    obtain ⟨rfl, rfl⟩ := one v x h
    exact ⟨[], rfl, rfl⟩
  have u0 : Upp as w 0 ⟨[(w, 0)], [], none⟩ := fun es v he hl => by
    have : es = [] := List.length_eq_zero_iff.mp (by omega)
    subst this
    have he : w = v := he
    refine ⟨0, ?_, Int.le_refl _⟩
    show (if w = v then some (0 : Int) else none) = some 0
    rw [if_pos he]
  obtain ⟨h1, h2⟩ := turns_both (leastN as [(w, 0)]) 0 _ u0 s0
  refine ⟨h1, fun es v he => ?_⟩
  rcases h2 with h2 | h2
  · obtain ⟨es', k1, k2, k3⟩ := simple_walk hn _ es w v (Nat.le_refl _) he
    have nd := (List.nodup_append.mp k3).1
    have hlen : es'.length ≤ leastN as [(w, 0)] := by
      unfold leastN
      have := ded_ge (xs := [(w, (0 : Int))].map (·.1) ++ as.map (·.to)) nd fun u hu => by
        rcases fr_in k1 u hu with rfl | h
        · exact List.mem_append_left _ List.mem_cons_self
        · exact List.mem_append_right _ h
      rw [List.length_map] at this
      exact this
    obtain ⟨y, h3, h4⟩ := h2 es' v k1 (by omega)
    exact ⟨y, h3, by omega⟩
  · exact h2 es v he
end
end Jl

set_option Elab.async false
set_option linter.all false
set_option maxRecDepth 100000
set_option maxHeartbeats 1000000
set_option pp.maxSteps 300
namespace Jl
open PySem PySem.Spec PyProof.Rows L2
open Evl (sz_of sz_lt)
local macro_rules | `(tactic| walk_at "at") => `(tactic| first | exact box0 | exact box1 | exact box2)
local macro_rules | `(tactic| walk_at "sq") => `(tactic| first | (show SqL _ _ _ _; assumption) | (show SqT _ _ _ _; assumption) | (show _ = some _; assumption))
local macro_rules | `(tactic| walk_at "side") => `(tactic| first
  | (show (0 : Int) < _; decide)
  | (show (0 : Int) < _; omega)
  | exact ⟨by decide, by decide, by decide⟩
  | exact sz_of (Nat.le_of_ble_eq_true rfl)
  | exact rfl
  | exact Or.inl (by decide)
  | exact Or.inr (by decide)
  | exact Or.inr ⟨by omega, by omega⟩
  | exact Or.inl ⟨by omega, by omega⟩
  | exact ⟨by decide, by decide +kernel⟩)
local macro_rules | `(tactic| walk_at "ev1") => `(tactic| first
  | refine ⟨_, rfl, ?_⟩
  | refine ⟨_, _, rfl, rfl, ?_⟩
  | refine ⟨_, _, _, _, rfl, rfl, (by walk_at "sq"), (by walk_at "at"), ?_⟩
  | refine ⟨_, _, rfl, (by walk_at "sq"), ?_⟩
  | refine ⟨_, _, rfl, Or.inl (by walk_at "sq"), ?_⟩
  | refine ⟨_, _, rfl, Or.inr (by walk_at "sq"), ?_⟩
  | refine Or.inl ⟨_, rfl, ?_⟩
  | refine Or.inr ⟨_, rfl, ?_⟩
  | refine ⟨(by walk_at "side"), ?_⟩
  | refine ⟨.inl ⟨rfl, _, (by walk_at "sq")⟩, ?_⟩
  | refine ⟨_, _, rfl, ?_⟩)
local macro_rules | `(tactic| walk_at "nrm") => `(tactic| dsimp only [tNil, tCons, tC, tCB])
local macro_rules | `(tactic| walk_at "ev") => `(tactic| repeat (walk_at "ev1"))
/-! ### a net with one queue more -/
theorem arc_base {qs : List QD} {sc tl : Int} {a : Arc} (h : a ∈ arcsF sc tl qs) : ∃ b ∈ arcsF 1 0 qs, b.fr = a.fr ∧ b.to = a.to ∧ a.wt = sc * b.wt - tl := by
  obtain ⟨q, hq, h2⟩ := List.mem_flatMap.mp h
  rcases mem2 h2 with rfl | rfl
  · refine ⟨⟨q.st, q.en, 1 * q.room - 0, q.nm, true⟩, List.mem_flatMap.mpr ⟨q, hq, List.mem_cons_self⟩, rfl, rfl, ?_⟩
    show sc * q.room - tl = sc * (1 * q.room - 0) - tl
    rw [Int.one_mul, Int.sub_zero]
  · refine ⟨⟨q.en, q.st, 1 * (1 - q.gap) - 0, q.nm, false⟩, List.mem_flatMap.mpr ⟨q, hq, List.mem_cons_of_mem _ List.mem_cons_self⟩, rfl, rfl, ?_⟩
    show sc * (1 - q.gap) - tl = sc * (1 * (1 - q.gap) - 0) - tl
    rw [Int.one_mul, Int.sub_zero]
theorem pot_base {qs : List QD} {sc tl : Int} {y : Str → Int} (h : Pot (arcsF sc tl qs) y) {a : Arc} (ha : a ∈ arcsF 1 0 qs) : y a.to ≤ y a.fr + (sc * a.wt - tl) := by
  obtain ⟨q, hq, h2⟩ := List.mem_flatMap.mp ha
  obtain ⟨h3, h4⟩ := pot_q.mp h q hq
  rcases mem2 h2 with rfl | rfl
  · show y q.en ≤ y q.st + (sc * (1 * q.room - 0) - tl)
    rw [Int.one_mul, Int.sub_zero]
    exact h3
  · show y q.st ≤ y q.en + (sc * (1 * (1 - q.gap) - 0) - tl)
    rw [Int.one_mul, Int.sub_zero]
    exact h4
theorem walk_pot {qs : List QD} {sc tl : Int} {y : Str → Int} (h : Pot (arcsF sc tl qs) y) : ∀ {es : List Arc} {x v : Str}, AW (arcsF 1 0 qs) x es v → y v ≤ y x + (sc * sumA es - tl * es.length)
  | [], x, v, e => by
    have e : x = v := e
    rw [e]
    show y v ≤ y v + (sc * 0 - tl * 0)
    omega
  | a :: es, x, v, hw => by
    have h1 := pot_base h hw.1
    have h2 := walk_pot h hw.2.2
    have e : a.fr = x := hw.2.1
    rw [e] at h1
    rw [sumA_cons, List.length_cons, Int.mul_add, Int.natCast_add, Int.mul_add, show tl * ((1 : Nat) : Int) = tl from Int.mul_one _]
    omega
theorem back_walk {qs : List QD} {sc tl : Int} : ∀ {es : List Arc} {v : Str}, (∀ a ∈ es, a ∈ arcsF sc tl qs) → BackW v es → ∃ es', AW (arcsF 1 0 qs) (endW v es) es' v ∧ sumW es = sc * sumA es' - tl * es'.length ∧ es'.length = es.length ∧ es'.map Arc.fr = (es.map Arc.fr).reverse
  | [], v, _, _ => ⟨[], rfl, by show (0 : Int) = sc * 0 - tl * 0; omega, rfl, rfl⟩
  | a :: es, v, h1, h2 => by
    obtain ⟨es', k1, k2, k3, k4⟩ := back_walk (fun b hb => h1 b (List.mem_cons_of_mem _ hb)) h2.2
    obtain ⟨b, hb, e1, e2, e3⟩ := arc_base (h1 a List.mem_cons_self)
    refine ⟨es' ++ [b], aw_app.mpr ⟨a.fr, k1, hb, e1, e2.trans h2.1⟩, ?_, by rw [List.length_append, k3]; rfl, ?_⟩
    · rw [sum_cons, k2, sumA_app, List.length_append, e3]
      show sc * b.wt - tl + (sc * sumA es' - tl * es'.length) = sc * (sumA es' + (b.wt + 0)) - tl * ((es'.length + 1 : Nat) : Int)
      rw [Int.add_zero, Int.mul_add, Int.natCast_add, Int.mul_add, show tl * ((1 : Nat) : Int) = tl from Int.mul_one _]
      omega
    · rw [List.map_append, k4, List.map_cons, List.map_cons, List.reverse_cons, ← e1]
      rfl
theorem aw_sub {as as' : List Arc} : ∀ {es : List Arc} {x v : Str}, AW as x es v → (∀ e ∈ es, e ∈ as') → AW as' x es v
  | [], _, _, h, _ => h
  | _ :: _, _, _, h, k => ⟨k _ List.mem_cons_self, h.2.1, aw_sub h.2.2 fun e he => k e (List.mem_cons_of_mem _ he)⟩
theorem aw_mem {as : List Arc} : ∀ {es : List Arc} {x v : Str}, AW as x es v → ∀ e ∈ es, e ∈ as
  | _ :: _, _, _, h, e, he => by
    rcases List.mem_cons.mp he with rfl | he
    · exact h.1
    · exact aw_mem h.2.2 e he
theorem aw_turn {as : List Arc} {a b : List Arc} {e : Arc} {x : Str} (h : AW as x (a ++ e :: b) x) (hn : ((a ++ e :: b).map Arc.fr).Nodup) : AW as e.to (b ++ a) e.fr ∧ sumA (a ++ e :: b) = e.wt + sumA (b ++ a) ∧ ((b ++ a).map Arc.fr).Nodup ∧ ∀ d ∈ b ++ a, d.fr ≠ e.fr := by
  obtain ⟨y, h1, h2⟩ := aw_app.mp h
  have e1 : e.fr = y := h2.2.1
  subst e1
  have hp : (a ++ e :: b).Perm (e :: (b ++ a)) := List.perm_middle.trans (List.perm_append_comm.cons e)
  have hn2 := (hp.map Arc.fr).nodup_iff.mp hn
  rw [List.map_cons, List.nodup_cons] at hn2
  refine ⟨aw_app.mpr ⟨x, h2.2.2, h1⟩, ?_, hn2.2, fun d hd z => hn2.1 (by rw [← z]; exact List.mem_map_of_mem hd)⟩
  rw [sumA_app, sumA_app, sumA_cons]
  omega
theorem wide_pos {A : List Arc} {al ag : Arc} {one two : Str} {p g : Int} (hc : ∀ x es, AW A x es x → es ≠ [] → 1 ≤ sumA es) (a1 : al.fr = one) (a2 : al.to = two) (a3 : al.wt = p) (g1 : ag.fr = two) (g2 : ag.to = one) (g3 : ag.wt = 1 - g) (hg : g ≤ p)
    (h1 : ∀ es, AW A one es two → g - 1 < sumA es) (h2 : ∀ es, AW A two es one → -sumA es < p) {x : Str} {es : List Arc} (hw : AW (A ++ [al, ag]) x es x) (hn : (es.map Arc.fr).Nodup) (he : es ≠ []) : 1 ≤ sumA es := by
  have nn : ∀ x es, AW A x es x → 0 ≤ sumA es := fun x es h => by
    by_cases e : es = []
    · rw [e]
      exact Int.le_refl _
    · have := hc x es h e
      omega
  have inA : ∀ {es : List Arc} {x v : Str}, AW (A ++ [al, ag]) x es v → (∀ d ∈ es, d ≠ al) → (∀ d ∈ es, d ≠ ag) → AW A x es v := fun h k1 k2 => aw_sub h fun e he => by
    rcases List.mem_append.mp (aw_mem h e he) with h | h
    · exact h
    · rcases mem2 h with h | h
      · exact absurd h (k1 e he)
      · exact absurd h (k2 e he)
  by_cases m1 : al ∈ es
  · obtain ⟨a, b, rfl⟩ := List.append_of_mem m1
    obtain ⟨t1, t2, t3, t4⟩ := aw_turn hw hn
    rw [t2, a3]
    have k1 : ∀ d ∈ b ++ a, d ≠ al := fun d hd z => t4 d hd (by rw [z])
    rw [a1, a2] at t1
    generalize b ++ a = R at t1 t3 k1 ⊢
    by_cases m2 : ag ∈ R
    · obtain ⟨c, d, rfl⟩ := List.append_of_mem m2
      obtain ⟨y, u1, u2⟩ := aw_app.mp t1
      have u3 : ag.fr = y := u2.2.1
      have u4 := u2.2.2
      rw [g2] at u4
      rw [← u3, g1] at u1
      have hp : (c ++ ag :: d).Perm (ag :: (c ++ d)) := List.perm_middle
      have hn2 := (hp.map Arc.fr).nodup_iff.mp t3
      rw [List.map_cons, List.nodup_cons] at hn2
      have k2 : ∀ e ∈ c ++ d, e ≠ ag := fun e he z => hn2.1 (by rw [← z]; exact List.mem_map_of_mem he)
      have v1 := nn _ _ (inA u1 (fun e he => k1 e (List.mem_append_left _ he)) fun e he => k2 e (List.mem_append_left _ he))
      have v2 := nn _ _ (inA u4 (fun e he => k1 e (List.mem_append_right _ (List.mem_cons_of_mem _ he))) fun e he => k2 e (List.mem_append_right _ he))
      rw [sumA_app, sumA_cons, g3]
      omega
    · have := h2 _ (inA t1 k1 fun d hd z => m2 (by rw [← z]; exact hd))
      omega
  · by_cases m2 : ag ∈ es
    · obtain ⟨a, b, rfl⟩ := List.append_of_mem m2
      obtain ⟨t1, t2, t3, t4⟩ := aw_turn hw hn
      rw [t2, g3]
      have k1 : ∀ d ∈ b ++ a, d ≠ ag := fun d hd z => t4 d hd (by rw [z])
      rw [g1, g2] at t1
      have k2 : ∀ d ∈ b ++ a, d ≠ al := fun d hd z => m1 (by
        rw [← z]
        rcases List.mem_append.mp hd with h | h
        · exact List.mem_append_right _ (List.mem_cons_of_mem _ h)
        · exact List.mem_append_left _ h)
      have := h1 _ (inA t1 k2 k1)
      omega
    · exact hc _ _ (inA hw (fun d hd z => m1 (by rw [← z]; exact hd)) fun d hd z => m2 (by rw [← z]; exact hd)) he
theorem never_pot {ws : List Str} {qs : List QD} (hn : ws.Nodup) (hG : NetG ws qs) (h0 : ws ≠ []) : neverF ws qs = true ↔ ∃ y, Pot (arcsF ws.length 1 qs) y := by
  unfold neverF
  rw [decide_eq_true_eq]
  exact ⟨fun h => ⟨_, ((grad_iff hn hG h0 _).1 h).1⟩, fun ⟨y, h⟩ => (grad_iff hn hG h0 _).2 y h⟩
theorem pos_of {n s : Int} {l : Nat} (hn : 0 ≤ n) (hl : 1 ≤ l) (h : (l : Int) ≤ n * s) : 1 ≤ s := by
  by_cases hs : s ≤ 0
  · have : n * s ≤ 0 := Int.mul_nonpos_of_nonneg_of_nonpos hn hs
    omega
  · omega
theorem closed_pos {ws : List Str} {qs : List QD} (hn : ws.Nodup) (hG : NetG ws qs) (h0 : ws ≠ []) (hv : neverF ws qs = true) : ∀ x es, AW (arcsF 1 0 qs) x es x → es ≠ [] → 1 ≤ sumA es := fun x es h he => by
  obtain ⟨y, hy⟩ := (never_pot hn hG h0).mp hv
  have := walk_pot hy h
  have hl := List.length_pos_iff.mpr he
  exact pos_of (n := (ws.length : Int)) (by omega) hl (by omega)
theorem nnc_of {as : List Arc} (h : ∀ x es, AW as x es x → es ≠ [] → 1 ≤ sumA es) : NNC as := fun x es k => by
  by_cases e : es = []
  · rw [e]
    exact Int.le_refl _
  · have := h x es k e
    omega
theorem arcs_snoc {sc tl : Int} {qs : List QD} {z : QD} : arcsF sc tl (qs ++ [z]) = arcsF sc tl qs ++ arcsQ sc tl z := by
  unfold arcsF
  rw [List.flatMap_append, List.flatMap_singleton]
theorem fr_ws {ws : List Str} {qs : List QD} (hG : NetG ws qs) : ∀ {es : List Arc} {x v : Str}, AW (arcsF 1 0 qs) x es v → ∀ u ∈ es.map Arc.fr, u ∈ ws
  | a :: es, x, v, h, u, hu => by
    rcases List.mem_cons.mp hu with rfl | hu
    · exact (arcs_on hG a h.1).1
    · exact fr_ws hG h.2.2 u hu
theorem wide {ws : List Str} {qs : List QD} {z : QD} (hn : ws.Nodup) (hG : NetG ws qs) (hG' : NetG ws (qs ++ [z])) (h0 : ws ≠ []) (hr : z.gap ≤ z.room) (hv : neverF ws qs = true) :
    neverF ws (qs ++ [z]) = true ↔ (∀ es, AW (arcsF 1 0 qs) z.st es z.en → z.gap - 1 < sumA es) ∧ ∀ es, AW (arcsF 1 0 qs) z.en es z.st → -sumA es < z.room := by
  have hc := closed_pos hn hG h0 hv
  have sub : ∀ {x v : Str} {es : List Arc}, AW (arcsF 1 0 qs) x es v → AW (arcsF 1 0 (qs ++ [z])) x es v := fun h => aw_sub h fun e he => by
    rw [arcs_snoc]
    exact List.mem_append_left _ (aw_mem h e he)
  have m1 : (⟨z.st, z.en, 1 * z.room - 0, z.nm, true⟩ : Arc) ∈ arcsF 1 0 (qs ++ [z]) := by
    rw [arcs_snoc]
    exact List.mem_append_right _ List.mem_cons_self
  have m2 : (⟨z.en, z.st, 1 * (1 - z.gap) - 0, z.nm, false⟩ : Arc) ∈ arcsF 1 0 (qs ++ [z]) := by
    rw [arcs_snoc]
    exact List.mem_append_right _ (List.mem_cons_of_mem _ List.mem_cons_self)
  constructor
  · intro hv'
    have hc' := closed_pos hn hG' h0 hv'
    refine ⟨fun es he => ?_, fun es he => ?_⟩
    · have := hc' z.st (es ++ [_]) (aw_app.mpr ⟨z.en, sub he, m2, rfl, rfl⟩) (fun h => by cases es <;> cases h)
      rw [sumA_app] at this
      have e : sumA [(⟨z.en, z.st, 1 * (1 - z.gap) - 0, z.nm, false⟩ : Arc)] = 1 * (1 - z.gap) - 0 + 0 := rfl
      omega
    · have := hc' z.en (es ++ [_]) (aw_app.mpr ⟨z.st, sub he, m1, rfl, rfl⟩) (fun h => by cases es <;> cases h)
      rw [sumA_app] at this
      have e : sumA [(⟨z.st, z.en, 1 * z.room - 0, z.nm, true⟩ : Arc)] = 1 * z.room - 0 + 0 := rfl
      omega
  · rintro ⟨h1, h2⟩
    refine (never_pot hn hG' h0).mpr (pot_of_nn (arcs_on hG') fun v es ne hin hb he hnd => ?_)
    obtain ⟨es', k1, k2, k3, k4⟩ := back_walk hin hb
    rw [he] at k1
    have hnd' : (es'.map Arc.fr).Nodup := by
      rw [k4]
      exact (List.reverse_perm _).nodup_iff.mpr hnd
    have hne : es' ≠ [] := fun z => ne (List.length_eq_zero_iff.mp (by rw [← k3, z]; rfl))
    have hall := fr_ws hG' k1
    have hlen : es'.length ≤ ws.length := by
      have := nodup_le hnd' hall
      rw [List.length_map] at this
      exact this
    have hpos : 1 ≤ sumA es' := by
      rw [arcs_snoc] at k1
      exact wide_pos (one := z.st) (two := z.en) (p := z.room) (g := z.gap) hc rfl rfl (show 1 * z.room - 0 = z.room by omega) rfl rfl (show 1 * (1 - z.gap) - 0 = 1 - z.gap by omega) hr h1 h2 k1 hnd' hne
    rw [k2]
    have : (ws.length : Int) * 1 ≤ (ws.length : Int) * sumA es' := Int.mul_le_mul_of_nonneg_left hpos (by omega)
    omega
def highF (qs : List QD) (a b : Str) : Option Int := lk (leastF (arcsF 1 0 qs) [(a, 0)]).sums b
theorem high_lt {qs : List QD} (hn : NNC (arcsF 1 0 qs)) {a b : Str} {k : Int} : (∀ es, AW (arcsF 1 0 qs) a es b → k < sumA es) ↔ ∀ x, highF qs a b = some x → k < x := by
  obtain ⟨h1, h2⟩ := one_exact (w := a) hn
  constructor
  · intro h x hx
    obtain ⟨es, k1, k2⟩ := h1 b x hx
    rw [← k2]
    exact h es k1
  · intro h es he
    obtain ⟨y, k1, k2⟩ := h2 es b he
    have := h y k1
    omega
theorem aw_back {qs : List QD} : ∀ {es : List Arc} {x v : Str}, AW (arcsF 1 0 qs) x es v → ∃ es', AW (arcsF 1 0 qs) v es' x
  | [], x, v, h => ⟨[], (show x = v from h).symm⟩
  | a :: es, x, v, h => by
    obtain ⟨es', k⟩ := aw_back h.2.2
    obtain ⟨q, hq, h2⟩ := List.mem_flatMap.mp h.1
    have e : a.fr = x := h.2.1
    rcases mem2 h2 with rfl | rfl
    · exact ⟨es' ++ [_], aw_app.mpr ⟨_, k, List.mem_flatMap.mpr ⟨q, hq, List.mem_cons_of_mem _ List.mem_cons_self⟩, rfl, e⟩⟩
    · exact ⟨es' ++ [_], aw_app.mpr ⟨_, k, List.mem_flatMap.mpr ⟨q, hq, List.mem_cons_self⟩, rfl, e⟩⟩
theorem high_both {qs : List QD} (hn : NNC (arcsF 1 0 qs)) {a b : Str} {x : Int} (h : highF qs a b = some x) : ∃ y, highF qs b a = some y := by
  obtain ⟨es, k1, _⟩ := (one_exact (w := a) hn).1 b x h
  obtain ⟨es', k2⟩ := aw_back k1
  obtain ⟨y, h3, _⟩ := (one_exact (w := b) hn).2 es' a k2
  exact ⟨y, h3⟩
/-- when a net with a queue more is never held -/
theorem wide_due {ws : List Str} {qs : List QD} {z : QD} (hn : ws.Nodup) (hG : NetG ws qs) (hG' : NetG ws (qs ++ [z])) (h0 : ws ≠ []) (hr : z.gap ≤ z.room) (hv : neverF ws qs = true) :
    neverF ws (qs ++ [z]) = true ↔ (∀ x, highF qs z.st z.en = some x → z.gap - 1 < x) ∧ ∀ x, highF qs z.en z.st = some x → -x < z.room := by
  have hN := nnc_of (closed_pos hn hG h0 hv)
  rw [wide hn hG hG' h0 hr hv, high_lt hN]
  have e : (∀ es, AW (arcsF 1 0 qs) z.en es z.st → -sumA es < z.room) ↔ ∀ es, AW (arcsF 1 0 qs) z.en es z.st → -z.room < sumA es :=
    ⟨fun h es he => by have := h es he; omega, fun h es he => by have := h es he; omega⟩
  rw [e, high_lt hN]
  have e2 : (∀ x, highF qs z.en z.st = some x → -z.room < x) ↔ ∀ x, highF qs z.en z.st = some x → -x < z.room :=
    ⟨fun h es he => by have := h es he; omega, fun h es he => by have := h es he; omega⟩
  rw [e2]
def badR (qs : List QD) (g : List (List Mk)) : List (List Mk) := g.filter fun r => decide (costQ qs r ≤ 0)
theorem never_rings {ws : List Str} {qs : List QD} {g : List (List Mk)} (hn : ws.Nodup) (hG : NetG ws qs) (h0 : ws ≠ []) (hg : Rn qs (startP ws) g) (hb : ∀ q ∈ qs, q.gap ≤ q.room) : neverF ws qs = (badR qs g).isEmpty := by
  have hne : ∀ q ∈ qs, q.st ≠ q.en := fun q hq => (hG.q1 q hq).2.2
  have hl : 1 ≤ ws.length := List.length_pos_iff.mpr h0
  unfold neverF
  rw [Bool.eq_iff_iff, decide_eq_true_eq, low_rings hn hG h0 hg, List.isEmpty_iff]
  unfold badR
  rw [List.filter_eq_nil_iff]
  constructor
  · rintro ⟨h1, _⟩ r hr hc
    obtain ⟨w, hw, us, hR⟩ := (ring_mem hne hg r).mp hr
    have h2 := (ring_len hG hw hR).2
    have h3 := h1 r hr
    have hc : costQ qs r ≤ 0 := of_decide_eq_true hc
    have h4 : (ws.length : Int) * costQ qs r ≤ 0 := Int.mul_nonpos_of_nonneg_of_nonpos (by omega) hc
    omega
  · intro h
    refine ⟨fun r hr => ?_, fun q hq => ?_⟩
    · obtain ⟨w, hw, us, hR⟩ := (ring_mem hne hg r).mp hr
      have h2 := (ring_len hG hw hR).1
      have hc : ¬ costQ qs r ≤ 0 := fun hc => h r hr (decide_eq_true hc)
      have h4 : (ws.length : Int) * 1 ≤ (ws.length : Int) * costQ qs r := Int.mul_le_mul_of_nonneg_left (by omega) (by omega)
      omega
    · have h2 := two_ws hG hq
      have h3 := hb q hq
      have h4 : (ws.length : Int) * 1 ≤ (ws.length : Int) * (q.room - q.gap + 1) := Int.mul_le_mul_of_nonneg_left (by omega) (by omega)
      omega
end Jl

set_option Elab.async false
set_option linter.all false
set_option maxRecDepth 100000
set_option maxHeartbeats 1000000
set_option pp.maxSteps 300
namespace Jl
open PySem PySem.Spec PyProof.Rows L2
open Evl (sz_of sz_lt)
local macro_rules | `(tactic| walk_at "at") => `(tactic| first | exact box0 | exact box1 | exact box2)
local macro_rules | `(tactic| walk_at "sq") => `(tactic| first | (show SqL _ _ _ _; assumption) | (show SqT _ _ _ _; assumption) | (show _ = some _; assumption))
local macro_rules | `(tactic| walk_at "side") => `(tactic| first
  | (show (0 : Int) < _; decide)
  | (show (0 : Int) < _; omega)
  | exact ⟨by decide, by decide, by decide⟩
  | exact sz_of (Nat.le_of_ble_eq_true rfl)
  | exact rfl
  | exact Or.inl (by decide)
  | exact Or.inr (by decide)
  | exact Or.inr ⟨by omega, by omega⟩
  | exact Or.inl ⟨by omega, by omega⟩
  | exact ⟨by decide, by decide +kernel⟩)
local macro_rules | `(tactic| walk_at "ev1") => `(tactic| first
  | refine ⟨_, rfl, ?_⟩
  | refine ⟨_, _, rfl, rfl, ?_⟩
  | refine ⟨_, _, _, _, rfl, rfl, (by walk_at "sq"), (by walk_at "at"), ?_⟩
  | refine ⟨_, _, rfl, (by walk_at "sq"), ?_⟩
  | refine ⟨_, _, rfl, Or.inl (by walk_at "sq"), ?_⟩
  | refine ⟨_, _, rfl, Or.inr (by walk_at "sq"), ?_⟩
  | refine Or.inl ⟨_, rfl, ?_⟩
  | refine Or.inr ⟨_, rfl, ?_⟩
  | refine ⟨(by walk_at "side"), ?_⟩
  | refine ⟨.inl ⟨rfl, _, (by walk_at "sq")⟩, ?_⟩
  | refine ⟨_, _, rfl, ?_⟩)
local macro_rules | `(tactic| walk_at "nrm") => `(tactic| dsimp only [tNil, tCons, tC, tCB])
local macro_rules | `(tactic| walk_at "ev") => `(tactic| repeat (walk_at "ev1"))
abbrev sc_least_cost_N : List Str := ["net", "worker", "other", "sums", "_"]
abbrev s_least_cost : Stmt := topS 9
theorem sc_least_cost : FnScope ["net", "worker", "other", "sums", "_"] ["net", "worker", "other"] (defScope s_least_cost) := ⟨rfl, rfl, rfl, by decide +kernel, rfl, by decide +kernel, by decide +kernel⟩
section
variable {P : Program} {w : World} {K : PySem.W.Frag} {mg : Str → Option Value} {base : Heap}
def optI : Option Int → V
  | none => .non
  | some i => .int i
def optD : Option Int → PyData
  | none => .none
  | some i => .int i
def spCost (K : PySem.W.Frag) : Sp := fun vs H Q _ => ∃ (v : V) (ws : List Str) (qs : List QD) (a b : Str), vs = [v, .str a, .str b] ∧ NetV K H v ws qs ∧ NetN ws qs ∧ ∀ H', Same H H' → Q (optI (highF qs a b)) H'
theorem ok_least_cost {f fA fL : Addr} {fd fdA fdL : FuncData} {k : Nat} (F : Fun K "least_cost" "least_cost" s_least_cost f fd)
    (G_arcs_of : FnOk P w K mg base CX0 k fA fdA ["net", "scale", "toll"] (spArcs K)) (g_arcs_of : mg "arcs_of" = some (.ref fA)) (F_arcs_of : Fun K "arcs_of" "arcs_of" s_arcs_of fA fdA) (b_arcs_of : Binds K fdA ["net", "scale", "toll"] [])
    (G_least_sums : FnOk P w K mg base CX0 k fL fdL ["arcs", "first"] (spLeast K)) (g_least_sums : mg "least_sums" = some (.ref fL)) (F_least_sums : Fun K "least_sums" "least_sums" s_least_sums fL fdL) (b_least_sums : Binds K fdL ["arcs", "first"] []) : FnOk P w K mg base CX0 (k + 1) f fd ["net", "worker", "other"] (spCost K) := by
  refine F.ok sc_least_cost (fun vs H Q E h => ?_) (fun cdv A outer s0 H vs Q E hr h => ?_)
  · obtain ⟨v, ws, qs, a, b, rfl, _⟩ := h
    rfl
  · obtain ⟨v, ws, qs, a, b, rfl, hD, hN, q⟩ := h
    have hu := hu_of hr
    have q1 := hN.q1
    refine ⟨_, (pss_cons (ps_asg (pe_call G_least_sums hr (by rfl) g_least_sums F_least_sums.kp b_least_sums .nil pass0 (pa_cons (pe_call G_arcs_of hr (by rfl) g_arcs_of F_arcs_of.kp b_arcs_of .nil pass0 (pa_cons (pv 0) (pa_cons pe_int (pa_cons pe_int pa_nil)))) (pa_cons (pe_disp (pps_cons (pv 1) pe_int pps_nil) (by rfl) (by rfl) (by simp) (by decide)) pa_nil))) (pg_tup rfl (pgs_cons (pg_name (i := 3) sc_least_cost.nd rfl (Or.inl rfl)) (pgs_cons (pg_name (i := 4) sc_least_cost.nd rfl (Or.inl rfl)) (pgs_cons (pg_name (i := 4) sc_least_cost.nd rfl (Or.inl rfl)) pgs_nil))))) 
    (pss_one (ps_ret (pe_dget1 hu (pv 3) (pv 2) ⟨by rfl, by rfl, by rfl, by rfl⟩)))), ?_⟩
    walk_at "ev"
    refine ⟨v, ws, qs, 1, 0, rfl, hD, hN.ne, by omega, by decide, by decide, fun H1 l ys s1 hl h1 hy => ?_⟩
    intro p hp
    have hp0 : (upd H1 p (.dK [])) p = some (.dK []) := upd_same
    refine ⟨_, rfl, ?_⟩
    dsimp only [tC, tPairs]
    refine ⟨hp0, [(.inr a, .int 0)], rfl, (show (1 : Nat) ≤ 15 by decide), ?_⟩
    have np : l ≠ p := fun z => by
      rw [z, hp] at h1
      cases h1
    have h2 : (upd (upd H1 p (.dK [])) p (.dK (mergeK [] [(.inr a, .int 0)]))) p = some (.dK (kvM V.int [(a, 0)])) := upd_same
    have s2 : Same H1 (upd (upd H1 p (.dK [])) p (.dK (mergeK [] [(.inr a, .int 0)]))) := by
      rw [upd_upd]
      exact .upd hp
    generalize upd (upd H1 p (.dK [])) p (.dK (mergeK [] [(.inr a, .int 0)])) = H2 at h2 s2 ⊢
    have hl2 := s2 _ _ h1
    have hy2 := ((cutS_mono s2).dpa hy)
    clear hp0
    walk_at "nrm"
    refine ⟨l, p, ys, arcsF 1 0 qs, [(a, 0)], rfl, sql_of hl2, cutS_le.dpa hy2, h2, by simp, (show (1 : Nat) ≤ 1000 by decide), by rw [arcs_len]; omega, fun H3 t S L s3 ht hS hL g1 g2 g3 => ?_⟩
    refine ⟨t, _, rfl, sqt_of g1, rfl, _, _, rfl, _, _, rfl, _, _, rfl, rfl, ?_⟩
    have dg : DGet H3 S (.str b) ((highF qs a b).map V.int) := by
      have := DGet.k (k := .inr b) g2
      rw [val_kvM] at this
      exact this
    refine ⟨_, rfl, S, rfl, .inl ⟨_, .inl g2⟩, _, rfl, _, dg, ?_⟩
    have := q H3 (s1.trans (s2.trans s3))
    cases hz : highF qs a b with
    | none =>
      rw [hz] at this
      exact this
    | some i =>
      rw [hz] at this
      exact this
end
end Jl

set_option Elab.async false
set_option linter.all false
set_option maxRecDepth 100000
set_option maxHeartbeats 1000000
set_option pp.maxSteps 300
namespace Jl
open PySem PySem.Spec PyProof.Rows L2
open Evl (sz_of sz_lt)
local macro_rules | `(tactic| walk_at "at") => `(tactic| first | exact box0 | exact box1 | exact box2)
local macro_rules | `(tactic| walk_at "sq") => `(tactic| first | (show SqL _ _ _ _; assumption) | (show SqT _ _ _ _; assumption) | (show _ = some _; assumption))
local macro_rules | `(tactic| walk_at "side") => `(tactic| first
  | (show (0 : Int) < _; decide)
  | (show (0 : Int) < _; omega)
  | exact ⟨by decide, by decide, by decide⟩
  | exact sz_of (Nat.le_of_ble_eq_true rfl)
  | exact rfl
  | exact Or.inl (by decide)
  | exact Or.inr (by decide)
  | exact Or.inr ⟨by omega, by omega⟩
  | exact Or.inl ⟨by omega, by omega⟩
  | exact ⟨by decide, by decide +kernel⟩)
local macro_rules | `(tactic| walk_at "ev1") => `(tactic| first
  | refine ⟨_, rfl, ?_⟩
  | refine ⟨_, _, rfl, rfl, ?_⟩
  | refine ⟨_, _, _, _, rfl, rfl, (by walk_at "sq"), (by walk_at "at"), ?_⟩
  | refine ⟨_, _, rfl, (by walk_at "sq"), ?_⟩
  | refine ⟨_, _, rfl, Or.inl (by walk_at "sq"), ?_⟩
  | refine ⟨_, _, rfl, Or.inr (by walk_at "sq"), ?_⟩
  | refine Or.inl ⟨_, rfl, ?_⟩
  | refine Or.inr ⟨_, rfl, ?_⟩
  | refine ⟨(by walk_at "side"), ?_⟩
  | refine ⟨.inl ⟨rfl, _, (by walk_at "sq")⟩, ?_⟩
  | refine ⟨_, _, rfl, ?_⟩)
local macro_rules | `(tactic| walk_at "nrm") => `(tactic| dsimp only [tNil, tCons, tC, tCB])
local macro_rules | `(tactic| walk_at "ev") => `(tactic| repeat (walk_at "ev1"))
/-! ### the limits of one queue -/
theorem never_sub {ws : List Str} {qs qs' : List QD} (hn : ws.Nodup) (h0 : ws ≠ []) (hG : NetG ws qs) (hG' : NetG ws qs') (h : ∀ q ∈ qs', q ∈ qs) (hv : neverF ws qs = true) : neverF ws qs' = true := by
  obtain ⟨y, hy⟩ := (never_pot hn hG h0).mp hv
  exact (never_pot hn hG' h0).mpr ⟨y, pot_q.mpr fun q hq => pot_q.mp hy q (h q hq)⟩
def restQ (qs : List QD) (x : Str) : List QD := qs.filter fun q => decide (q.nm ≠ x)
def putQ (q : QD) (sp gp : Int) : QD := ⟨q.nm, q.st, q.en, sp, gp⟩
def madeQ (qs : List QD) (x : Str) (sp gp : Int) : List QD := qs.map fun q => if q.nm = x then putQ q sp gp else q
theorem nm_eq {ws : List Str} {qs : List QD} (hG : NetG ws qs) {a b : QD} (ha : a ∈ qs) (hb : b ∈ qs) (h : a.nm = b.nm) : a = b := by
  obtain ⟨i, hi, hqi⟩ := List.mem_iff_getElem.mp ha
  obtain ⟨j, hj, hqj⟩ := List.mem_iff_getElem.mp hb
  have := nodup_ix hG.nn (x := a.nm) (i := i) (j := j) (by rw [List.getElem?_map, List.getElem?_eq_getElem hi, hqi]; rfl) (by rw [List.getElem?_map, List.getElem?_eq_getElem hj, hqj, h]; rfl)
  subst this
  exact hqi.symm.trans hqj
theorem rest_G {ws : List Str} {qs : List QD} (hG : NetG ws qs) (x : Str) : NetG ws (restQ qs x) :=
  ⟨fun q hq => hG.q1 q (List.mem_filter.mp hq).1, hG.nn.sublist (List.filter_sublist.map _)⟩
theorem made_nm {qs : List QD} {x : Str} {sp gp : Int} : (madeQ qs x sp gp).map QD.nm = qs.map QD.nm := by
  unfold madeQ
  rw [List.map_map]
  refine List.map_congr_left fun q _ => ?_
  show QD.nm (if q.nm = x then putQ q sp gp else q) = q.nm
  split <;> rfl
theorem made_G {ws : List Str} {qs : List QD} (hG : NetG ws qs) {x : Str} {sp gp : Int} : NetG ws (madeQ qs x sp gp) := by
  refine ⟨fun q hq => ?_, by rw [made_nm]; exact hG.nn⟩
  obtain ⟨o, ho, e⟩ := List.mem_map.mp hq
  have h := hG.q1 o ho
  by_cases c : o.nm = x
  · rw [if_pos c] at e
    rw [← e]
    exact h
  · rw [if_neg c] at e
    rw [← e]
    exact h
theorem made_mem {ws : List Str} {qs : List QD} (hG : NetG ws qs) {z : QD} (hz : z ∈ qs) {sp gp : Int} {q : QD} : q ∈ madeQ qs z.nm sp gp ↔ q ∈ restQ qs z.nm ++ [putQ z sp gp] := by
  constructor
  · intro h
    obtain ⟨o, ho, e⟩ := List.mem_map.mp h
    by_cases c : o.nm = z.nm
    · rw [if_pos c, nm_eq hG ho hz c] at e
      rw [← e]
      exact List.mem_append_right _ List.mem_cons_self
    · rw [if_neg c] at e
      rw [← e]
      exact List.mem_append_left _ (List.mem_filter.mpr ⟨ho, decide_eq_true c⟩)
  · intro h
    rcases List.mem_append.mp h with h | h
    · obtain ⟨h1, h2⟩ := List.mem_filter.mp h
      exact List.mem_map.mpr ⟨q, h1, if_neg (of_decide_eq_true h2)⟩
    · rw [List.mem_singleton.mp h]
      exact List.mem_map.mpr ⟨z, hz, if_pos rfl⟩
def limF (ws : List Str) (qs : List QD) (z : QD) : Option (Option Int × Int) :=
  if neverF ws (restQ qs z.nm) = false then none else match highF (restQ qs z.nm) z.st z.en with
    | none => some (none, 1)
    | some n => if n < 1 then none else some (some n, max 1 (1 - (highF (restQ qs z.nm) z.en z.st).getD 0))
/-- what the limits of a queue say of rooms and notices -/
def fitsF (o : Option (Option Int × Int)) (sp gp : Int) : Prop := match o with
  | none => False
  | some (n, l) => (∀ x, n = some x → gp ≤ x) ∧ l ≤ sp
theorem lim_fits {ws : List Str} {qs : List QD} {z : QD} (hn : ws.Nodup) (hG : NetG ws qs) (h0 : ws ≠ []) (hz : z ∈ qs) {sp gp : Int} (h1 : 1 ≤ gp) (h2 : gp ≤ sp) : neverF ws (madeQ qs z.nm sp gp) = true ↔ fitsF (limF ws qs z) sp gp := by
  have hR := rest_G hG z.nm
  have hM : NetG ws (madeQ qs z.nm sp gp) := made_G hG
  have hW : NetG ws (restQ qs z.nm ++ [putQ z sp gp]) := by
    refine ⟨fun q hq => hM.q1 q ((made_mem hG hz).mpr hq), ?_⟩
    rw [List.map_append, List.nodup_append]
    refine ⟨hR.nn, List.nodup_cons.mpr ⟨List.not_mem_nil, List.nodup_nil⟩, fun a ha c hc e => ?_⟩
    obtain ⟨q, hq, rfl⟩ := List.mem_map.mp ha
    rw [show c = z.nm from List.mem_singleton.mp hc] at e
    exact of_decide_eq_true (List.mem_filter.mp hq).2 e
  have eM : neverF ws (madeQ qs z.nm sp gp) = true ↔ neverF ws (restQ qs z.nm ++ [putQ z sp gp]) = true :=
    ⟨never_sub hn h0 hM hW fun q hq => (made_mem hG hz).mpr hq, never_sub hn h0 hW hM fun q hq => (made_mem hG hz).mp hq⟩
  rw [eM]
  unfold limF
  cases hv : neverF ws (restQ qs z.nm) with
  | false =>
    rw [if_pos rfl]
    refine ⟨fun h => ?_, fun h => absurd h id⟩
    have := never_sub hn h0 hW hR (fun q hq => List.mem_append_left _ hq) h
    rw [hv] at this
    cases this
  | true =>
    rw [if_neg (by decide)]
    rw [wide_due (z := putQ z sp gp) hn hR hW h0 h2 hv]
    have hN := nnc_of (closed_pos hn hR h0 hv)
    show (∀ x, highF (restQ qs z.nm) z.st z.en = some x → gp - 1 < x) ∧ (∀ x, highF (restQ qs z.nm) z.en z.st = some x → -x < sp) ↔ _
    cases ha : highF (restQ qs z.nm) z.st z.en with
    | none =>
      have hb : highF (restQ qs z.nm) z.en z.st = none := by
        cases hb : highF (restQ qs z.nm) z.en z.st with
        | none => rfl
        | some y =>
          obtain ⟨u, hu⟩ := high_both hN hb
          rw [ha] at hu
          cases hu
      rw [hb]
      show _ ↔ (∀ x, (none : Option Int) = some x → gp ≤ x) ∧ (1 : Int) ≤ sp
      exact ⟨fun _ => ⟨(fun x hx => nomatch hx), by omega⟩, fun _ => ⟨(fun x hx => nomatch hx), fun x hx => nomatch hx⟩⟩
    | some n =>
      obtain ⟨y, hb⟩ := high_both hN ha
      rw [hb]
      dsimp only
      by_cases c : n < 1
      · rw [if_pos c]
        refine ⟨fun h => ?_, fun h => absurd h id⟩
        have := h.1 n rfl
        omega
      · rw [if_neg c]
        show _ ↔ (∀ x, some n = some x → gp ≤ x) ∧ max 1 (1 - y) ≤ sp
        constructor
        · intro h
          refine ⟨fun x hx => ?_, ?_⟩
          · have := h.1 x hx
            omega
          · have := h.2 y rfl
            omega
        · intro h
          refine ⟨fun x hx => ?_, fun x hx => ?_⟩
          · have := h.1 x hx
            omega
          · cases hx
            have := h.2
            omega
end Jl

set_option Elab.async false
set_option linter.all false
set_option maxRecDepth 100000
set_option maxHeartbeats 1000000
set_option pp.maxSteps 300
namespace Jl
open PySem PySem.Spec PyProof.Rows L2
open Evl (sz_of sz_lt)
local macro_rules | `(tactic| walk_at "at") => `(tactic| first | exact box0 | exact box1 | exact box2)
local macro_rules | `(tactic| walk_at "sq") => `(tactic| first | (show SqL _ _ _ _; assumption) | (show SqT _ _ _ _; assumption) | (show _ = some _; assumption))
local macro_rules | `(tactic| walk_at "side") => `(tactic| first
  | (show (0 : Int) < _; decide)
  | (show (0 : Int) < _; omega)
  | exact ⟨by decide, by decide, by decide⟩
  | exact sz_of (Nat.le_of_ble_eq_true rfl)
  | exact rfl
  | exact Or.inl (by decide)
  | exact Or.inr (by decide)
  | exact Or.inr ⟨by omega, by omega⟩
  | exact Or.inl ⟨by omega, by omega⟩
  | exact ⟨by decide, by decide +kernel⟩)
local macro_rules | `(tactic| walk_at "ev1") => `(tactic| first
  | refine ⟨_, rfl, ?_⟩
  | refine ⟨_, _, rfl, rfl, ?_⟩
  | refine ⟨_, _, _, _, rfl, rfl, (by walk_at "sq"), (by walk_at "at"), ?_⟩
  | refine ⟨_, _, rfl, (by walk_at "sq"), ?_⟩
  | refine ⟨_, _, rfl, Or.inl (by walk_at "sq"), ?_⟩
  | refine ⟨_, _, rfl, Or.inr (by walk_at "sq"), ?_⟩
  | refine Or.inl ⟨_, rfl, ?_⟩
  | refine Or.inr ⟨_, rfl, ?_⟩
  | refine ⟨(by walk_at "side"), ?_⟩
  | refine ⟨.inl ⟨rfl, _, (by walk_at "sq")⟩, ?_⟩
  | refine ⟨_, _, rfl, ?_⟩)
local macro_rules | `(tactic| walk_at "nrm") => `(tactic| dsimp only [tNil, tCons, tC, tCB])
local macro_rules | `(tactic| walk_at "ev") => `(tactic| repeat (walk_at "ev1"))
/-! ### exceptions of own classes over any built-in class: made with one field -/
section
variable {prog : Program} {w : World} {A : Around} {R : Result → Shared → Prop} {hq : Heap} {g : Array GenState} {dr : Drawn} {t0 : Nat} {os : OsState}
open PySem.W PySem.Calls PySem.HandSPX Builtin Builtin.ObjectAttr in
/-- the first field of an exception that has no dict yet -/
theorem xb_osa {K : PySem.W.Frag} {B : String} {bmB : List Value} {fn : Str} {tk : Tok} {u : Value} {x C : Addr} {fv : Array Value} {cd : ClassData} (SF : StoreFacts B bmB "object.__setattr__" "object") (hob : bmB.contains (.type "object") = true)
    (kin : K.In hq) (hx : hq.get? x = some { cls := .ref C, data := .fields fv }) (hcd : clsIn K C = some cd) (hm : excTail bmB cd.mro = true) (hne : cd.mro.isEmpty = false) (hh : cd.hasDict = true) (ha : findIn K (.ref C) fn = some none)
    (q : ∀ h' tk' dx, (∀ b o, b ≠ x → hq.get? b = some o → h'.get? b = some o) → hq.objs.size ≤ dx → dx ≠ x → h'.get? x = some { cls := .ref C, dict := some dx, data := .fields fv } → h'.Ns1 dx (fun y => if y = fn then some u else none) → R (.ok (.ret .none)) ⟨h', g, dr, tk', os⟩) :
    codeAny (model prog w) A (.call (.builtin "object.__setattr__") ⟨[.ref x, .str fn tk, u], []⟩) R ⟨hq, g, dr, t0, os⟩ := by
  have J : InstAt hq x { cls := .ref C, data := .fields fv } C none := ⟨hx, rfl, rfl, trivial⟩
  have S0 := F.store_object
  have h1 : cd.mro.contains (.type "object") = true := (excTail_contains "object" _ hm).trans hob
  have nx : x ≠ hq.objs.size := Nat.ne_of_lt (Heap.lt_size hx)
  have sb : Looks (model prog w) hq (isInstance (.ref x) (.type "object")) true := J.type.andThen (looks_mroIn kin (by unfold mroIn; rw [hcd, Option.bind_some, if_neg (by rw [hne]; decide), h1]))
  refine codeAny_call_builtin S0.slot.plain S0.entry (@check_slot (model prog w) _ _ ⟨hq, g, dr, t0, os⟩ "object.__setattr__" "object" "__setattr__" (.ref x) [.str fn tk, u] [] _ S0.kind S0.split sb (S0.args (.ref x) (.str fn tk) u) ?_)
  have lm : Looks (model prog w) hq (mroOf (.ref C)) cd.mro := (looks_clsIn kin hcd).andThen .now
  have l3 : Looks (model prog w) hq (storeTaker? none) none := .now
  have lc : Looks (model prog w) hq (classData C) cd := looks_clsIn kin hcd
  rw [osa_eq, refuse_eq]
  refine wpAny_bind (wpAny_bind (J.type.at (wpAny_bind (lm.at ?_))))
  rw [excTail_pass _ (SF.passes _) _ hm]
  refine wpAny_pure (wpAny_bind (J.type.at (wpAny_bind ((looks_findIn kin ha).at (wpAny_bind (l3.at ?_))))))
  show wpAny _ _ (Builtin.ObjectAttr.storeInOwnDict (.ref x) (.ref C) (.str fn tk) fn u false) _ _ _
  obtain ⟨nm, bs, mro, ns, qn, hd, sn, sb2, ab, col, del⟩ := cd
  dsimp only at hh
  subst hh
  unfold Builtin.ObjectAttr.storeInOwnDict Builtin.ObjectAttr.ownDictForStores
  repeat (first | with_reducible refine store_in_new ?_ ?_ | with_reducible refine wpAny_loadPart_at hx ?_ | with_reducible refine lc.at ?_ | wp_step)
  · exact ⟨_, #[], _, (Heap.get?_update_ne _ _ _ _ nx.symm).trans (Heap.get?_push_at rfl rfl), rfl, fun e he => absurd he (by simp), fun _ => rfl⟩
  · intro h' tk' hn hs
    have hx1 : (hq.push { cls := .type "dict", data := .dict #[] }).get? x = some { cls := .ref C, data := .fields fv } := Heap.get?_push_of_some _ hx
    exact q h' tk' hq.objs.size (fun b o hb ho => (hs.2 b (Nat.ne_of_lt (Heap.lt_size ho))).trans ((Heap.get?_update_ne _ _ _ _ hb).trans (Heap.get?_push_of_some _ ho))) (Nat.le_refl _) nx.symm ((hs.2 x nx).trans (Heap.get?_update_self _ hx1 rfl)) hn
end
/-- what the written part says of such a class -/
structure XcB (K : PySem.W.Frag) (C : Addr) (newId : String) (bmB : List Value) : Prop where
  ini : PySem.W.excInitIn K C bmB newId = true
  hd : PySem.W.hasDictIn K C = true
  sa : PySem.W.findIn K (.ref C) "__setattr__" = some (some (.builtin "object.__setattr__"))
  exC : PySem.W.subIn K (.ref C) (.type "BaseException") = some true
  tyC : PySem.W.typeIn K (.ref C) = some (.type "type")
  kC : PySem.W.keepIn K (.ref C) = true
theorem cls_of {K : PySem.W.Frag} {C : Addr} {newId : String} {bmB : List Value} (h : PySem.W.excInitIn K C bmB newId = true) : ∃ cd, PySem.W.clsIn K C = some cd ∧ PySem.W.excTail bmB cd.mro = true ∧ cd.mro.isEmpty = false := by
  unfold PySem.W.excInitIn at h
  split at h
  · rename_i dd cd sl ho
    refine ⟨cd, by unfold PySem.W.clsIn; rw [ho] <;> rfl, ?_⟩
    split at h
    · rename_i C' bm k0 k1 k2 k3 n k5 hm hs
      simp only [Bool.and_eq_true] at h
      rw [hm]
      exact ⟨h.2, rfl⟩
    · cases h
  · cases h
section
variable {X : Cx} {pins : List (Addr × Obj)} {σ : L2.St} {H : Hp} {s : Shared} {a C dx : Addr} {fn : Str} {y : V} {u : Value} {B newId initId : String} {bmB : List Value} {Q : Unit → Shared → Prop} {E : Value → Shared → Prop} {A : Around}
/-- self.f = y, the first field -/
theorem xb_new (SF : StoreFacts B bmB "object.__setattr__" "object") (hob : bmB.contains (.type "object") = true) (T : XcB X.K C newId bmB) (I : L2.Inv X pins σ H s) (e : H a = some (exo a C none)) (hno : PySem.W.findIn X.K (.ref C) fn = some none) (ry : RelV y u)
    (h : ∀ dx s', H dx = none → dx ≠ a → L2.Inv X pins σ (upd (upd H dx (exd dx [(fn, y)])) a (exo a C (some dx))) s' → Q () s') : wpAny (model X.prog X.w) A (setAttr (.ref a) fn u) Q E s := by
  obtain ⟨cd, hc, hm, hne⟩ := cls_of T.ini
  have hh : cd.hasDict = true := by
    have z := T.hd
    unfold PySem.W.hasDictIn at z
    rw [hc] at z
    simpa using z
  obtain ⟨t1, ho⟩ := exo_at I.hok e
  obtain ⟨hq, g, dr, t, os⟩ := s
  refine PySem.W.set_plain I.kIn (ox := { cls := .ref C, dict := none, data := .fields #[.ref t1, .none, .none, .none, .bool false, .none] }) (od := none) ⟨ho, rfl, rfl, trivial⟩ T.sa ?_
  refine xb_osa SF hob I.kIn ho hc hm hne hh hno (fun h' tk' dx k dn dne hx hn => ?_)
  have nd0 : H dx = none := I.hok.fresh dn
  have nb : ∀ {b : Addr} {o : Obj}, hq.get? b = some o → b ≠ dx := fun {b o} z => Nat.ne_of_lt (Nat.lt_of_lt_of_le (Heap.lt_size z) dn)
  have na : ∀ {b : Addr}, H b = none → b ≠ a := fun {b} n z => by
    rw [z, e] at n
    cases n
  have u1 : Un X.fs [] H (upd (upd H dx (exd dx [(fn, y)])) a (exo a C (some dx))) hq h' :=
    ⟨fun b o z n _ _ => k b o (na n) z, fun b o z n _ _ => ⟨o.slots, k b o (na n) z⟩, fun b o z n _ => by rw [upd_ne (na n), upd_ne (nb z)]; exact n, fun b o z _ => by
      by_cases hb : b = a
      · exact ⟨_, by rw [hb]; exact hx⟩
      · exact ⟨o, k b o hb z⟩, fun b xs z => by rw [upd_ne (at_ne e z exo_tup), upd_ne (ne_of_none z nd0)]; exact z, fun b o v z => by rw [upd_ne (at_ne e z exo_frz), upd_ne (ne_of_none z nd0)]; exact z,
      fun b ps z => ⟨#[], by rw [upd_ne (at_ne e z exo_tbl), upd_ne (ne_of_none z nd0), z]; simp⟩⟩
  refine h dx _ nd0 dne (I.un (t' := tk') u1 fun b o z => ?_)
  by_cases hb : b = a
  · subst hb
    rw [upd_same] at z
    cases z
    exact exo_ok hx
  · rw [upd_ne hb] at z
    by_cases hd : b = dx
    · subst hd
      rw [upd_same] at z
      cases z
      exact exd_ok hn (relO_put (fs := []) ry fun g => True.intro)
    · rw [upd_ne hd] at z
      exact (I.hok b o z).stay (fun c v hc' z' => k c v (by
          rcases hc' with hc' | hc'
          · rw [hc']
            exact hb
          · exact at_ne e hc' exo_own) z') (fun c hc' => by rw [upd_ne (at_ne e hc' exo_own), upd_ne (ne_of_none hc' nd0)]; exact hc') (fun c xs hc' => by rw [upd_ne (at_ne e hc' exo_tup), upd_ne (ne_of_none hc' nd0)]; exact hc')
end
/-- self.f = e in the __init__ of the class at C -/
def tOst1 (C : Addr) (fn : Str) (to te : TE) : TS := fun D σ H => te σ H fun y H1 => to σ H1 fun x H2 => ∃ a, x = .ref a ∧ H2 a = some (exo a C none) ∧ ∀ dx, H2 dx = none → dx ≠ a → D.nx σ (upd (upd H2 dx (exd dx [(fn, y)])) a (exo a C (some dx)))
section
variable {X : Cx} {o e : Expr} {es : List Expr} {to te : TE} {ta : TA} {fn : Str} {p p' pos : Pos} {C : Addr} {B newId initId : String} {bmB : List Value}
theorem ps_ost1 (SF : StoreFacts B bmB "object.__setattr__" "object") (hob : bmB.contains (.type "object") = true) (T : XcB X.K C newId bmB) (hno : PySem.W.findIn X.K (.ref C) fn = some none) (ho : PE X o to) (he : PE X e te) (hs : swapsWith e (some (.Attribute o fn p')) pos.line X.env = pure false := by rfl) :
    PS X (.Assign [.Attribute o fn p'] e pos) (tOst1 C fn to te) := by
  refine ⟨fun pins s σ H D I h => ?_⟩
  refine plainObj_wpAny_Assign_Attribute (thn (he.run pins s σ H _ I h) fun v s1 ⟨y, H1, I1, r1, q1⟩ => thn (ho.run pins s1 σ H1 _ I1 q1) fun u s2 ⟨x, H2, I2, r2, a, ex, ea, q⟩ => ?_) hs
  subst ex
  obtain rfl : u = Value.ref a := r2
  exact xb_new SF hob T I2 ea hno r1 fun dx s' n ne J => ⟨σ, _, J, q dx n ne⟩
/-- C(e, ..) of such a class -/
theorem pmk_xb {CX : CXT} {x : Str} {fI : Addr} {k : Nat} {fd : FuncData} {ps : List Str} {sp : Sp} (FB : ExcBaseFacts B newId initId bmB) (T : XcB X.K C newId bmB) (iC : PySem.W.findIn X.K (.ref C) "__init__" = some (some (.ref fI))) (tI : PySem.W.isFn X.K (.ref fI) = true)
    (G : FnOk X.prog X.w X.K X.mg X.base CX k fI fd ps sp) (hr : Room (k + 1) X.A) (hb : Binds X.K fd ps []) (hx : Passes CX X (fun _ _ _ => False)) (hg : Gl X x) (hm : X.mg x = some (.ref C)) (ha : PA X (e :: es) ta)
    (hdb : (x == ("__debug__" : Str)) = false := by decide) (he : starEach (e :: es) X.env = (false, eval e X.env) :: starEach es X.env := by rfl) (hpl : (backTo pos (starEach es X.env)).any (·.1) = false := by rfl) :
    PMk X (.Call (.Name x p) (e :: es) [] pos) (tMkO C sp [] ta) := by
  intro pins s σ H Q I h
  refine wpAny_Call_Name_kw (ld_glob I hg hm ?_ hdb)
  refine PySem.W.callWith_K (h₀ := X.base) I.ok.mod.kin T.kC (thn (ha.run pos pins s σ H _ I h) fun us s1 ⟨vs, H1, I1, r1, hz, q1⟩ => ⟨I1.kIn, ?_⟩) he hpl
  show wpAny _ _ (call (.ref C) us) _ _ _
  obtain ⟨nm, N, q, bs, bm, hdct, sn, sub, ab, col, dd, k0, k1, k2, k3, k5, hC, hT⟩ := PySem.W.excInit_of I1.kIn T.ini
  obtain ⟨oI, hoI, hcI⟩ : ∃ oI, s1.heap.get? fI = some oI ∧ oI.cls = .type "function" := by
    obtain ⟨o, ho, hc⟩ := Option.map_eq_some_iff.mp (show (X.K.lookup fI).map (·.cls) = some (.type "function") from beq_iff_eq.mp tI)
    exact ⟨o, I1.kIn _ _ ho, hc⟩
  obtain ⟨hq, g, dr, tk, os⟩ := s1
  have hsz : hq.objs.size ≤ hq.objs.size + 1 := Nat.le_succ _
  have n1 : H1 (hq.objs.size + 1) = none := I1.hok.fresh hsz
  have h2 := q1 (hq.objs.size + 1) n1
  have kk : ∀ b o, hq.get? b = some o → ((hq.push (PySem.W.kdv_tup us)).push (PySem.HandSPX.excO C hq.objs.size)).get? b = some o := fun b o z => Heap.get?_push_of_some _ (Heap.get?_push_of_some _ z)
  have hget : ((hq.push (PySem.W.kdv_tup us)).push (PySem.HandSPX.excO C hq.objs.size)).get? (hq.objs.size + 1) = some (PySem.HandSPX.excO C hq.objs.size) := by heap_get
  have I2 := I1.laid (t' := tk) (a := hq.objs.size + 1) (o := exo (hq.objs.size + 1) C none) (h' := (hq.push (PySem.W.kdv_tup us)).push (PySem.HandSPX.excO C hq.objs.size)) kk hsz (exo_ok hget)
  have r2 : Vals (V.ref (hq.objs.size + 1) :: (vs ++ [])) (Value.ref (hq.objs.size + 1) :: us) := .cons rfl (by rw [List.append_nil]; exact r1)
  have hl : (Value.ref (hq.objs.size + 1) :: us ++ []).length = ps.length := by
    have z := r2.length
    rw [G.len _ _ _ _ h2] at z
    rw [List.append_nil]
    exact z.symm
  have bt := hb ⟨(hq.push (PySem.W.kdv_tup us)).push (PySem.HandSPX.excO C hq.objs.size), g, dr, tk, os⟩ (Value.ref (hq.objs.size + 1) :: us) I2.kIn hl
  rw [List.append_nil] at bt
  have hus : us.length ≤ sizeLine := by
    rw [← Paired.length r1, sizeLine_eq]
    omega
  refine wpAny_call (PySem.HandSPX.call_own FB hT hC (PySem.W.looks_findIn I1.kIn iC) (fun self => PySem.W.exc_bind hoI hcI self) hus
    (codeAny_mono (G.run _ X.stack _ _ ⟨Value.ref (hq.objs.size + 1) :: us, []⟩ (Value.ref (hq.objs.size + 1) :: us) _ _ (fun _ _ _ => False) (hr.make C us []) (I2.env0.make C us []) bt r2 h2) fun r s' z => ?_))
  cases r with
  | error er => exact hx pins σ _ _ er s' I2 z
  | ok fl =>
    cases fl with
    | ret u =>
      obtain ⟨v, H2, os2, bare2, un2, hok2, rv, ev, d, fs, ea, ed, hd1, q2⟩ := z
      subst ev
      obtain ⟨h2, g2, d2, t2, os'⟩ := s'
      exact ⟨rv, mk_end (raises_own T.exC T.tyC) I1 hsz kk un2 hok2 os2 bare2 ea ed hd1 q2⟩
    | next => exact False.elim z
    | brk => exact False.elim z
    | cont => exact False.elim z
end
end Jl

set_option Elab.async false
set_option linter.all false
set_option maxRecDepth 100000
set_option maxHeartbeats 1000000
set_option pp.maxSteps 300
namespace Jl
open PySem PySem.Spec PyProof.Rows L2
open Evl (sz_of sz_lt)
local macro_rules | `(tactic| walk_at "at") => `(tactic| first | exact box0 | exact box1 | exact box2)
local macro_rules | `(tactic| walk_at "sq") => `(tactic| first | (show SqL _ _ _ _; assumption) | (show SqT _ _ _ _; assumption) | (show _ = some _; assumption))
local macro_rules | `(tactic| walk_at "side") => `(tactic| first
  | (show (0 : Int) < _; decide)
  | (show (0 : Int) < _; omega)
  | exact ⟨by decide, by decide, by decide⟩
  | exact sz_of (Nat.le_of_ble_eq_true rfl)
  | exact rfl
  | exact Or.inl (by decide)
  | exact Or.inr (by decide)
  | exact Or.inr ⟨by omega, by omega⟩
  | exact Or.inl ⟨by omega, by omega⟩
  | exact ⟨by decide, by decide +kernel⟩)
local macro_rules | `(tactic| walk_at "ev1") => `(tactic| first
  | refine ⟨_, rfl, ?_⟩
  | refine ⟨_, _, rfl, rfl, ?_⟩
  | refine ⟨_, _, _, _, rfl, rfl, (by walk_at "sq"), (by walk_at "at"), ?_⟩
  | refine ⟨_, _, rfl, (by walk_at "sq"), ?_⟩
  | refine ⟨_, _, rfl, Or.inl (by walk_at "sq"), ?_⟩
  | refine ⟨_, _, rfl, Or.inr (by walk_at "sq"), ?_⟩
  | refine Or.inl ⟨_, rfl, ?_⟩
  | refine Or.inr ⟨_, rfl, ?_⟩
  | refine ⟨(by walk_at "side"), ?_⟩
  | refine ⟨.inl ⟨rfl, _, (by walk_at "sq")⟩, ?_⟩
  | refine ⟨_, _, rfl, ?_⟩)
local macro_rules | `(tactic| walk_at "nrm") => `(tactic| dsimp only [tNil, tCons, tC, tCB])
local macro_rules | `(tactic| walk_at "ev") => `(tactic| repeat (walk_at "ev1"))
/-! ### an exception that was caught and is kept -/
/-- at a: an exception at rest, its class, its dict -/
def exk (a : Addr) (cls : Value) (d : Option Addr) : HO := .ext fun h => ∃ (oe : Obj) (vs : Array Value), h.get? a = some oe ∧ Zc cls d oe ∧ oe.data = .fields vs
theorem exk_ok {P : Program} {w : World} {H : Hp} {h : Heap} {a : Addr} {cls : Value} {d : Option Addr} {oe : Obj} {vs : Array Value} (he : h.get? a = some oe) (hz : Zc cls d oe) (hd : oe.data = .fields vs) : ObjOk P w H h a (exk a cls d) :=
  ⟨⟨oe, vs, he, hz, hd⟩, ⟨oe, he⟩, fun h1 h2 z k => by
    obtain ⟨o, v, e1, e2, e3⟩ := z
    exact ⟨o, v, k _ e1, e2, e3⟩⟩
theorem exk_at {P : Program} {w : World} {H : Hp} {h : Heap} {a : Addr} {cls : Value} {d : Option Addr} (hok : HOk P w H h) (he : H a = some (exk a cls d)) : ∃ (oe : Obj) (vs : Array Value), h.get? a = some oe ∧ Zc cls d oe ∧ oe.data = .fields vs := by
  have x : ObjOk P w H h a (.ext fun h => ∃ (oe : Obj) (vs : Array Value), h.get? a = some oe ∧ Zc cls d oe ∧ oe.data = .fields vs) := hok a _ he
  exact x.1
theorem fly_keeps {base h h' : Heap} {l : List Env} {e : Addr} {Z : Obj → Prop} (x : PySem.HandSPX.FlyingZ base l e Z h) (k : ∀ b o, h.get? b = some o → h'.get? b = some o) : PySem.HandSPX.FlyingZ base l e Z h' := by
  obtain ⟨f1, f2, f3, oe, vs, T, oT, ts, he, hz, hd, h1, hnT, hTe, hT, hdT, h3⟩ := x
  exact ⟨fun b o q => k _ _ (f1 b o q), f2, f3.of_keeps fun b o q _ => ⟨o, k _ _ q, rfl⟩, oe, vs, T, oT, ts, k _ _ he, hz, hd, h1, hnT, hTe, k _ _ hT, hdT, h3⟩
section
variable {X : Cx} {pins : List (Addr × Obj)} {σ : L2.St} {H : Hp} {sI s s' : Shared} {B : Heap} {a : Addr} {cls : Value} {d : Option Addr} {oe : Obj} {vs : Array Value}
theorem landX (I : L2.Inv X pins σ H sI) (nb : ∀ b o, sI.heap.get? b = some o → b ∉ frs X.stack → B.get? b = some o) (st : B.StaysIn s'.heap) (up : sI.heap.UpToSlots s'.heap) (os : s'.os = sI.os) (ag : AllBare s'.gens)
    (na : H a = none) (ha : sI.heap.get? a = none) (he : s'.heap.get? a = some oe) (hz : Zc cls d oe) (hd : oe.data = .fields vs) : L2.Inv X pins σ (upd H a (exk a cls d)) s' := by
  have fr : ∀ b ∈ frs X.stack, ∀ o, sI.heap.get? b = some o → ∃ sl, s'.heap.get? b = some { o with slots := sl } := fun b hb o e => by
    obtain ⟨_, o', e', hd'⟩ := I.stack.mem hb
    rw [e] at e'
    cases e'
    exact up b o e hd'
  have ne : ∀ {b : Addr} {o : Obj}, sI.heap.get? b = some o → b ≠ a := fun {b o} e z => by
    rw [z, ha] at e
    cases e
  have nh : ∀ {b : Addr} {o : HO}, H b = some o → b ≠ a := fun {b o} e z => by
    rw [z, na] at e
    cases e
  have hok : HOk X.prog X.w (upd H a (exk a cls d)) s'.heap := fun b o e => by
    by_cases hb : b = a
    · subst hb
      rw [upd_same] at e
      cases e
      exact exk_ok he hz hd
    · rw [upd_ne hb] at e
      exact ((I.inGround nb).kept st b o e).stay (fun c v _ q => q) (fun c q => by rw [upd_ne (nh q)]; exact q) (fun c xs q => by rw [upd_ne (nh q)]; exact q)
  have J := I.call (ch := []) (h' := s'.heap) (g' := s'.gens) (t' := s'.toks) (d' := s'.drawn) (H' := upd H a (exk a cls d))
    ⟨fun b o e _ hb _ => st b o (nb b o e hb), fun b o e _ hb _ => fr b hb o e, fun b o e n _ => by rw [upd_ne (ne e)]; exact n, fun b o e _ => by
      by_cases hb : b ∈ frs X.stack
      · obtain ⟨sl, q⟩ := fr b hb o e
        exact ⟨_, q⟩
      · exact ⟨o, st b o (nb b o e hb)⟩, fun b xs e => by rw [upd_ne (nh e)]; exact e, fun b o v e => by rw [upd_ne (nh e)]; exact e, fun b ps e => ⟨#[], by rw [upd_ne (nh e), e]; simp⟩⟩
    hok ag (fun _ z => nomatch z)
  obtain ⟨c1, c2, c3, c4, c5⟩ := s'
  have e5 : c5 = sI.os := os
  subst e5
  exact J
/-- in an except suite -/
theorem inSuite (I : L2.Inv X pins σ H s) : L2.Inv (X.suite a (X.pn ++ pins)) [] σ H s :=
  ⟨I.ok.suite _ _, I.os, I.bare, I.base, I.loc, I.cell, I.free, I.freeC, fun p hp => I.pin p (by rw [List.append_nil] at hp; exact hp), I.hok, I.len⟩
theorem outSuite {pn' : List (Addr × Obj)} (I : L2.Inv (X.suite a (X.pn ++ pins)) pn' σ H s) (ok : X.Ok) : L2.Inv X pins σ H s :=
  ⟨ok, I.os, I.bare, I.base, I.loc, I.cell, I.free, I.freeC, fun p hp => I.pin p (List.mem_append_left _ hp), I.hok, I.len⟩
end
/-! ### what an except clause asks -/
/-- the clause's test t answers m of a class -/
def TestOk (X : Cx) (t : Expr) (m : Value → Option Bool) : Prop := ∀ (a : Addr) (pn pins : List (Addr × Obj)) (σ : L2.St) (H : Hp) (s : Shared) (cls : Value) (b : Bool) (Q : Bool → Shared → Prop) (E : Value → Shared → Prop), L2.Inv (X.suite a pn) pins σ H s →
  PySem.W.Looks (model X.prog X.w) s.heap (typeOf (.ref a)) cls → m cls = some b → (∀ h', (∀ q o, s.heap.get? q = some o → h'.get? q = some o) → Q b { s with heap := h' }) →
  wpAny (model X.prog X.w) (X.A.mark (some (.ref a))) (eval t X.env) (fun c s1 => wpAny (model X.prog X.w) (X.A.mark (some (.ref a))) (excMatches (.ref a) c) Q E s1) E s
theorem name_ok {X : Cx} {x : Str} {c : Value} {np : Pos} (hc : Names X x c) {a : Addr} {pn pins : List (Addr × Obj)} {σ : L2.St} {H : Hp} {s : Shared} {Q : Value → Shared → Prop} {E : Value → Shared → Prop} (I : L2.Inv (X.suite a pn) pins σ H s) (q : Q c s) :
    wpAny (model X.prog X.w) (X.A.mark (some (.ref a))) (eval (.Name x np) X.env) Q E s := by
  obtain ⟨hg, hdbg, hm | ⟨hm, hv, hnn⟩⟩ := hc
  · exact ld_glob (X := X.suite a pn) I hg hm q hdbg
  · exact ld_blt (X := X.suite a pn) I hg hm hv q hnn hdbg
theorem test1 {X : Cx} {x : Str} {c : Value} {np : Pos} (hc : Names X x c) : TestOk X (.Name x np) (fun cls => PySem.W.exmOne X.K cls c) := fun a pn pins σ H s cls b Q E I L e q =>
  name_ok hc I ((PySem.W.exm_one (M := model X.prog X.w) I.kIn L e).here (q s.heap fun _ _ z => z))
theorem test3 {X : Cx} {x1 x2 x3 : Str} {c1 c2 c3 : Value} {p1 p2 p3 tp : Pos} {kk : Nat} (h1 : Names X x1 c1) (h2 : Names X x2 c2) (h3 : Names X x3 c3) : TestOk X (.Tuple [.Name x1 p1, .Name x2 p2, .Name x3 p3] kk tp) (fun cls => PySem.W.exmAny X.K cls [c1, c2, c3]) := fun a pn pins σ H s cls b Q E I L e q => by
  refine wpAny_Tuple (wpAny_items_cons (name_ok h1 I (wpAny_items_cons (name_ok h2 I (wpAny_items_cons (name_ok h3 I (wpAny_items_nil ⟨by show 3 ≤ sizeLine; rw [sizeLine_eq]; omega, ?_⟩)))))))
  have kp : ∀ q o, s.heap.get? q = some o → (s.heap.push { cls := .type "tuple", data := .seq [c1, c2, c3].toArray }).get? q = some o := fun _ _ z => Heap.get?_push_of_some _ z
  exact (PySem.W.exm_tup3 (M := model X.prog X.w) (I.kIn.keeps kp) (L.keeps kp) (Heap.get?_push_size s.heap rfl) e).here (q _ kp)
theorem test4 {X : Cx} {x1 x2 x3 x4 : Str} {c1 c2 c3 c4 : Value} {p1 p2 p3 p4 tp : Pos} {kk : Nat} (h1 : Names X x1 c1) (h2 : Names X x2 c2) (h3 : Names X x3 c3) (h4 : Names X x4 c4) : TestOk X (.Tuple [.Name x1 p1, .Name x2 p2, .Name x3 p3, .Name x4 p4] kk tp) (fun cls => PySem.W.exmAny X.K cls [c1, c2, c3, c4]) := fun a pn pins σ H s cls b Q E I L e q => by
  refine wpAny_Tuple (wpAny_items_cons (name_ok h1 I (wpAny_items_cons (name_ok h2 I (wpAny_items_cons (name_ok h3 I (wpAny_items_cons (name_ok h4 I (wpAny_items_nil ⟨by show 4 ≤ sizeLine; rw [sizeLine_eq]; omega, ?_⟩)))))))))
  have kp : ∀ q o, s.heap.get? q = some o → (s.heap.push { cls := .type "tuple", data := .seq [c1, c2, c3, c4].toArray }).get? q = some o := fun _ _ z => Heap.get?_push_of_some _ z
  exact (PySem.W.exm_tup4 (M := model X.prog X.w) (I.kIn.keeps kp) (L.keeps kp) (Heap.get?_push_size s.heap rfl) e).here (q _ kp)
/-- what the clause wishes of an exception of the body: it stands in the heap from then on; slot i is the clause's name -/
def wKeep (m : Value → Option Bool) (i : Nat) (ts : TS) (Wout : WX) (D : Ends) : WX := fun cls d σ H =>
  ∃ b, m cls = some b ∧ (b = true → ∀ a, H a = none → ts { nx := fun σ' H' => D.nx (σ'.set i none) H', rt := D.rt, bk := fun σ' H' => D.bk (σ'.set i none) H', ct := fun σ' H' => D.ct (σ'.set i none) H' } (σ.set i (some (.ref a))) (upd H a (exk a cls d))) ∧ (b = false → Wout cls d σ H)
section
variable {X : Cx} {n : Str} {i : Nat} {t : Expr} {m : Value → Option Bool} {body suite : List Stmt} {b₀ : Stmt} {pos pos' : Pos} {tb : WX → TS} {ts : TS} {Wout : WX}
theorem ps_try_keep (hs : X.stack = X.env :: X.outer) (hf : X.env.frame = some X.env.locals) (hN : X.N.Nodup) (hi : X.N[i]? = some n) (hln : X.env.kindOf n = some .local) (hc : TestOk X t m) (tk : Takes X Wout)
    (hb : ∀ (W : WX) (pn : List (Addr × Obj)) (xe : Value → Shared → Prop), Takes (X.tr pn xe) W → PassesOwn (model X.prog X.w) X.A X.env xe → PSs (X.tr pn xe) body (tb W))
    (hsu : ∀ (a : Addr) (pn : List (Addr × Obj)), PSs (X.suite a pn) (b₀ :: suite) ts) :
    PS X (.Try body [.ExceptHandler (some t) (some n) (b₀ :: suite) pos'] [] [] pos) (fun D σ H => tb (wKeep m i ts Wout D) D σ H) := by
  refine ⟨fun pins s σ H D I h => ?_⟩
  have ok := I.ok
  have hfr : X.A.frames = some (X.env :: X.outer) := by rw [ok.frames, hs]
  have hloc : Loc X.env.scope n := .inl hln
  refine wpAny_Try_except (wpAny_mono ((hb (wKeep m i ts Wout D) (X.pn ++ pins) (fun e z1 => wpAny (model X.prog X.w) X.A (noteFrame e X.env) (fun _ z2 => wpAny (model X.prog X.w) X.A (setFlight e none) (fun _ z3 => wpAny (model X.prog X.w) X.A (handleBy e X.env [.ExceptHandler (some t) (some n) (b₀ :: suite) pos']) (SP X pins D) X.xe z3) X.xe z2) X.xe z1) (fun u s' xx => ?_) PassesOwn.looking).run [] s σ H D (I.toTry _) h) (fun f s1 hsp => ?_) (fun e s1 he => he))
  · obtain ⟨a, B, sI, pins', σ', H', cls, d, rfl, J', nb, up, sky, na, os, ag, b, hb1, hyes, hno⟩ := xx
    have J : L2.Inv X pins σ' H' sI := J'.ofTry ok
    have sky2 : Sky B (X.env :: X.outer) a (Zc cls d) X.env.locals s'.heap := by rw [← hs]; exact sky
    show wpAny (model X.prog X.w) X.A (noteFrame (.ref a) X.env) _ _ _
    refine Sky.land Zc.steady hfr hf sky2 fun h3 fl3 up3 => ?_
    have J3 : L2.Inv X pins σ' H' { s' with heap := h3 } := J.landed nb fl3.1 (up.trans up3) os ag
    obtain ⟨oe3, vs3, he3, hz3, hd3⟩ := fl3.there
    have nfr : a ∉ frs (X.env :: X.outer) := fun hm => by
      obtain ⟨_, o', e', hnf⟩ := fl3.2.2.1.mem hm
      rw [he3] at e'
      cases e'
      exact hnf _ hd3
    have aI : sI.heap.get? a = none := by
      cases q : sI.heap.get? a with
      | none => rfl
      | some o =>
        have z := nb a o q (by rw [hs]; exact nfr)
        rw [fl3.2.1] at z
        cases z
    have LT : PySem.W.Looks (model X.prog X.w) h3 (typeOf (.ref a)) cls := fun A Q E z k q => wpAny_typeOf_ref (k _ _ he3) (by rw [hz3.1]; exact q)
    refine wpAny_handleBy_cons (codeAny_handlers_test (hc a (X.pn ++ pins) [] σ' H' { s' with heap := h3 } cls b _ _ (inSuite J3) LT hb1 fun h5 k5 => ?_)) (by intro q; cases q)
    have fl5 := fly_keeps fl3 k5
    have up5 : s'.heap.UpToSlots h5 := up3.trans (Heap.UpToSlots.of_keeps k5)
    cases b with
    | true =>
      refine codeAny_handlers_suite_as ?_
      refine PySem.HandSPX.lands_againZ fl5 fun h4 fl4 up4 => ?_
      obtain ⟨oe4, vs4, he4, hz4, hd4⟩ := fl4.there
      have J4 : L2.Inv X pins σ' (upd H' a (exk a cls d)) { s' with heap := h4 } := landX J nb fl4.1 ((up.trans up5).trans up4) os ag na aI he4 hz4 hd4
      refine store_ok (X := X.suite a (X.pn ++ pins)) (v := .ref a) (inSuite J4) hN hi hloc rfl (fun s5 S5 => ?_) (.inr hln)
      refine wpAny_mono ((hsu a (X.pn ++ pins)).run [] s5 _ _ _ S5 (hyes rfl a na)) (fun f s6 hsp => ?_) (fun _ _ z => False.elim z)
      have fin : ∀ {σ6 : L2.St} {H6 : Hp} {Q : Shared → Prop}, L2.Inv (X.suite a (X.pn ++ pins)) [] σ6 H6 s6 → (∀ s7, L2.Inv X pins (σ6.set i none) H6 s7 → Q s7) →
          wpAny (model X.prog X.w) X.A (do bindName X.env n .none; unbindBehindTheSuite X.env n pos') (fun _ s7 => Q s7) X.xe s6 := fun {σ6 H6 Q} S6 hq => gone_ok (outSuite S6 ok) hN hi hln hq
      cases f with
      | next =>
        obtain ⟨σ6, H6, S6, q6⟩ := hsp
        exact fin S6 fun s7 J7 => ⟨_, _, J7, q6⟩
      | brk =>
        obtain ⟨σ6, H6, S6, q6⟩ := hsp
        exact fin S6 fun s7 J7 => ⟨_, _, J7, q6⟩
      | cont =>
        obtain ⟨σ6, H6, S6, q6⟩ := hsp
        exact fin S6 fun s7 J7 => ⟨_, _, J7, q6⟩
      | ret u =>
        obtain ⟨v6, σ6, H6, S6, r6, q6⟩ := hsp
        exact fin S6 fun s7 J7 => ⟨_, _, _, J7, r6, q6⟩
    | false =>
      show wpAny _ X.A (handleBy (.ref a) X.env []) _ _ _
      refine wpAny_handleBy_nil ?_
      obtain ⟨k1, k2, k3, oe, vs, T, oT, ts', he, hz, hd, h1, hr⟩ := id fl5
      unfold PySem.passOn
      refine wpAny_bind (wpAny_field he hd h1 ?_)
      rw [if_neg (show ¬ ((Value.ref T == Value.none) = true) from by simp)]
      have fin : wpAny (model X.prog X.w) X.A (setFlight (.ref a) X.env.frame) (fun _ z4 => wpAny (model X.prog X.w) X.A (throw (.ref a) : Sem Flow) (SP X pins D) X.xe z4) X.xe { s' with heap := h5 } := by
        rw [hf]
        refine PySem.HandSPX.setFlight_upZ fl5 fun h4 hh4 up4 => wpAny_throw (tk _ _ ?_)
        exact ⟨a, B, sI, pins, σ', H', cls, d, rfl, J, nb, (up.trans up5).trans up4, .inr (.inr (by rw [hs]; exact hh4)), na, os, ag, hno rfl⟩
      first
        | exact wpAny_bind (wpAny_pure (wpAny_bind fin))
        | exact wpAny_bind fin
  · cases f with
    | next =>
      obtain ⟨σ', H', J', q⟩ := hsp
      exact wpAny_execs_nil ⟨σ', H', J'.ofTry ok, q⟩
    | brk =>
      obtain ⟨σ', H', J', q⟩ := hsp
      exact ⟨σ', H', J'.ofTry ok, q⟩
    | cont =>
      obtain ⟨σ', H', J', q⟩ := hsp
      exact ⟨σ', H', J'.ofTry ok, q⟩
    | ret u =>
      obtain ⟨v, σ', H', J', r, q⟩ := hsp
      exact ⟨v, σ', H', J'.ofTry ok, r, q⟩
end
/-! ### what is asked of a kept exception -/
/-- v: an exception of the class at C, with the one field fn -/
def ExcAt (H : Hp) (v : V) (C : Addr) (fn : Str) (y : V) : Prop := ∃ a dx, v = .ref a ∧ H a = some (exk a (.ref C) (some dx)) ∧ H dx = some (.xd [(fn, y)])
theorem ExcAt.same {H H' : Hp} {v : V} {C : Addr} {fn : Str} {y : V} (h : ExcAt H v C fn y) (e : Same H H') : ExcAt H' v C fn y := by
  obtain ⟨a, dx, h1, h2, h3⟩ := h
  exact ⟨a, dx, h1, e _ _ h2, e _ _ h3⟩
/-- an exception of the class at C, with the one field, leaves a state H or later -/
def Thrown (E : XK) (H : Hp) (C : Addr) (fn : Str) (y : V) : Prop := ∀ H' dx, Same H H' → H' dx = some (.xd [(fn, y)]) → E (.ref C) (some dx) H'
theorem Thrown.same {E : XK} {H H' : Hp} {C : Addr} {fn : Str} {y : V} (h : Thrown E H C fn y) (e : Same H H') : Thrown E H' C fn y := fun H2 dx s q => h H2 dx (e.trans s) q
/-- what the class must say for isinstance and for a field -/
structure XcI (K : PySem.W.Frag) (C : Addr) : Prop where
  cl : (PySem.W.clsIn K C).isSome = true
  ga : PySem.W.findIn K (.ref C) "__getattribute__" = some (some (.builtin "BaseException.__getattribute__"))
  gg : PySem.W.findIn K (.ref C) "__getattr__" = some none
  exC : PySem.W.subIn K (.ref C) (.type "BaseException") = some true
  hd : PySem.W.hasDictIn K C = true
  cc : PySem.W.findIn K (.ref C) "__class__" = some (some (.builtin "object.__class__"))
  cn : PySem.W.specialIn K (.builtin "object.__class__") "__get__" = some (some (.builtin "getset_descriptor.__get__"))
  ct : PySem.W.takesIn K (.builtin "object.__class__") = some true
  mo : PySem.W.mroIn K C (.type "object") = some true
section
variable {X : Cx} {a C dx : Addr} {fn : Str} {y : V} {pins : List (Addr × Obj)} {σ : L2.St} {H : Hp} {s : Shared} {fs : List (Str × V)}
theorem exk_inst (I : L2.Inv X pins σ H s) (ha : H a = some (exk a (.ref C) (some dx))) (hdx : H dx = some (.xd fs)) : ∃ (oe : Obj) (od : Obj) (mA : Str → Option Value), PySem.W.InstAt s.heap a oe C (some od) ∧ (∀ f, RelO (fs.lookup f) (mA f)) ∧ s.heap.Ns1 dx mA ∧ s.heap.get? dx = some od ∧ ∀ f, PySem.W.lookIn f od = some (mA f) := by
  obtain ⟨oe, vs, he, hz, hd⟩ := exk_at I.hok ha
  have hx : ObjOk X.prog X.w H s.heap dx (.xd fs) := I.hok dx _ hdx
  obtain ⟨mA, hns, hr⟩ := hx
  obtain ⟨od, ho, hl⟩ := lookIn_ns hns
  exact ⟨oe, od, mA, ⟨he, hz.1, by unfold PySem.W.notCls; rw [hd] <;> rfl, by rw [hz.2]; exact ho⟩, hr, hns, ho, hl⟩
/-- e.f of a kept exception -/
def tXk (C : Addr) (fn : Str) (te : TE) : TE := fun σ H Q => te σ H fun x H1 => ∃ y, ExcAt H1 x C fn y ∧ Q y H1
theorem pe_xk {e : Expr} {te : TE} {pos : Pos} (T : XcI X.K C) (hno : PySem.W.findIn X.K (.ref C) fn = some none) (he : PE X e te) (hb : attributeBase e fn X.env (eval e X.env) = eval e X.env := by rfl) : PE X (.Attribute e fn pos) (tXk C fn te) := by
  refine ⟨fun pins s σ H Q I h => ?_⟩
  refine attr_of hb (thn (he.run pins s σ H _ I h) fun u s1 hh => ?_)
  obtain ⟨x, H1, I1, rx, y, ⟨a, dx, ex, ha, hdx⟩, q⟩ := hh
  subst ex
  obtain rfl : u = Value.ref a := rx
  obtain ⟨oe, od, mA, J, hr, _, _, hl⟩ := exk_inst I1 ha hdx
  have h0 : (List.lookup fn [(fn, y)] : Option V) = some y := by simp [List.lookup]
  obtain ⟨u, hu, ru⟩ := RelO.some_of (v := y) (o := mA fn) (by rw [← h0]; exact hr fn)
  exact PySem.HandSPX.exc_get I1.kIn J T.ga T.gg T.exC (PySem.W.findObj_own T.hd hno rfl (by rw [hl, hu])) (handed_of ru) ⟨y, H1, I1.tok _, ru, q⟩
/-- isinstance(e, c) of a kept exception -/
def rIsK (K : PySem.W.Frag) : List V → Hp → VK → Prop := fun xs H Q => ∃ (v c : V) (C : Addr) (fn : Str) (y : V) (cv : Value) (b : Bool), xs = [v, c] ∧ ExcAt H v C fn y ∧ XcI K C ∧ (∀ u, RelV c u → u = cv) ∧ PySem.W.kitOne K (.ref C) cv = some b ∧ Q (.bl b) H
theorem call_isK : CallR X (.builtin "isinstance") (rIsK X.K) := by
  intro pins s σ H xs us Q I r h
  obtain ⟨v, c, C, fn, y, cv, b, rfl, ⟨a, dx, rfl, ha, hdx⟩, T, hcv, e, q⟩ := h
  cases r with
  | cons rx rr =>
    cases rr with
    | cons rt rr =>
      cases rr
      cases rx
      have ec := hcv _ rt
      subst ec
      obtain ⟨oe, od, mA, J, _⟩ := exk_inst I ha hdx
      exact PySem.W.kia_one (PySem.W.kitx_exc T.cl T.ga T.gg T.exC T.cc T.cn T.ct T.mo) I.kIn J e (fun z => nomatch z) fun tk => ⟨.bl b, H, I.kept (t' := tk) fun _ _ z => z, rfl, q⟩
end
end Jl

set_option Elab.async false
set_option linter.all false
set_option maxRecDepth 100000
set_option maxHeartbeats 1000000
set_option pp.maxSteps 300
namespace Jl
open PySem PySem.Spec PyProof.Rows L2
open Evl (sz_of sz_lt)
local macro_rules | `(tactic| walk_at "at") => `(tactic| first | exact box0 | exact box1 | exact box2)
local macro_rules | `(tactic| walk_at "sq") => `(tactic| first | (show SqL _ _ _ _; assumption) | (show SqT _ _ _ _; assumption) | (show _ = some _; assumption))
local macro_rules | `(tactic| walk_at "side") => `(tactic| first
  | (show (0 : Int) < _; decide)
  | (show (0 : Int) < _; omega)
  | exact ⟨by decide, by decide, by decide⟩
  | exact sz_of (Nat.le_of_ble_eq_true rfl)
  | exact rfl
  | exact Or.inl (by decide)
  | exact Or.inr (by decide)
  | exact Or.inr ⟨by omega, by omega⟩
  | exact Or.inl ⟨by omega, by omega⟩
  | exact ⟨by decide, by decide +kernel⟩)
local macro_rules | `(tactic| walk_at "ev1") => `(tactic| first
  | refine ⟨_, rfl, ?_⟩
  | refine ⟨_, _, rfl, rfl, ?_⟩
  | refine ⟨_, _, _, _, rfl, rfl, (by walk_at "sq"), (by walk_at "at"), ?_⟩
  | refine ⟨_, _, rfl, (by walk_at "sq"), ?_⟩
  | refine ⟨_, _, rfl, Or.inl (by walk_at "sq"), ?_⟩
  | refine ⟨_, _, rfl, Or.inr (by walk_at "sq"), ?_⟩
  | refine Or.inl ⟨_, rfl, ?_⟩
  | refine Or.inr ⟨_, rfl, ?_⟩
  | refine ⟨(by walk_at "side"), ?_⟩
  | refine ⟨.inl ⟨rfl, _, (by walk_at "sq")⟩, ?_⟩
  | refine ⟨_, _, rfl, ?_⟩)
local macro_rules | `(tactic| walk_at "nrm") => `(tactic| dsimp only [tNil, tCons, tC, tCB])
local macro_rules | `(tactic| walk_at "ev") => `(tactic| repeat (walk_at "ev1"))
abbrev sc_NoQueue_init_N : List Str := ["self", "queue"]
abbrev s_NoQueue_init : Stmt := inClass (topS 1) 0
theorem sc_NoQueue_init : FnScope ["self", "queue"] ["self", "queue"] (defScope s_NoQueue_init) := ⟨rfl, rfl, rfl, by decide +kernel, rfl, by decide +kernel, by decide +kernel⟩
abbrev sc_find_queue_N : List Str := ["net", "name", "queue"]
abbrev s_find_queue : Stmt := topS 11
theorem sc_find_queue : FnScope ["net", "name", "queue"] ["net", "name"] (defScope s_find_queue) := ⟨rfl, rfl, rfl, by decide +kernel, rfl, by decide +kernel, by decide +kernel⟩
theorem del_made {H : Hp} {a dx : Addr} {o1 o2 o3 o4 : HO} (ha : H a = none) (ne : dx ≠ a) : upd (L2.del (upd (upd (upd H a o1) dx o2) a o3) a) dx o4 = upd H dx o4 := by
  funext b
  by_cases h1 : b = dx
  · rw [h1, upd_same, upd_same]
  · rw [upd_ne h1, upd_ne h1]
    by_cases h2 : b = a
    · rw [h2, L2.del_same, ha]
    · rw [L2.del_ne h2, upd_ne h2, upd_ne h1, upd_ne h2]
structure Ini (K : PySem.W.Frag) (C f : Addr) : Prop where
  iC : PySem.W.findIn K (.ref C) "__init__" = some (some (.ref f))
  tI : PySem.W.isFn K (.ref f) = true
section
variable {P : Program} {w : World} {K : PySem.W.Frag} {mg : Str → Option Value} {base : Heap}
/-- the __init__ of an exception with one field -/
def spXi (C : Addr) (fn : Str) : Sp := fun vs H Q _ => ∃ (a : Addr) (y : V), vs = [.ref a, y] ∧ H a = some (exo a C none) ∧ ∀ dx, H dx = none → dx ≠ a → Q .non (upd (upd H dx (exd dx [(fn, y)])) a (exo a C (some dx)))
/-- C(y): made, and raised -/
theorem mk_thrown {C : Addr} {fn : Str} {y : V} {ta : TA} {σ : L2.St} {H : Hp} {E : XK} (ht : ∀ R : List V → Hp → Prop, R [y] H → ta σ H R) (q : Thrown E H C fn y) : tMkO C (spXi C fn) [] ta σ H fun cls d H' => E cls d H' := by
  refine ht _ ⟨by show 1 ≤ 1000; decide, fun a ha => ⟨a, y, rfl, upd_same, fun dx hdx ne => ⟨rfl, dx, [(fn, y)], upd_same, ?_, ?_, ?_⟩⟩⟩
  · rw [upd_ne ne, upd_same]
  · rw [upd_ne ne] at hdx
    exact hdx
  · rw [upd_ne ne] at hdx
    rw [del_made ha ne]
    exact q _ dx (.upd hdx) upd_same
theorem ok_NoQueue_init {f C : Addr} {fd : FuncData} {k : Nat} (F : Fun K "__init__" "NoQueue.__init__" s_NoQueue_init f fd) (XB_NoQueue : XcB K C "LookupError.__new__" [.type "LookupError", .type "Exception", .type "BaseException", .type "object"]) (nf_NoQueue_queue : PySem.W.findIn K (.ref C) "queue" = some none) :
    FnOk P w K mg base CX0 (k + 1) f fd ["self", "queue"] (spXi C "queue") := by
  refine F.ok sc_NoQueue_init (fun vs H Q E h => ?_) (fun cdv A outer s0 H vs Q E hr h => ?_)
  · obtain ⟨a, y, rfl, _⟩ := h
    rfl
  · obtain ⟨a, y, rfl, ha, q⟩ := h
    refine ⟨_, (pss_one (ps_ost1 PySem.F.store_LookupError (by decide +kernel) XB_NoQueue nf_NoQueue_queue (pv 0) (pv 1))), ?_⟩
    exact ⟨_, rfl, _, rfl, a, rfl, ha, q⟩

def spFindX (K : PySem.W.Frag) (C : Addr) : Sp := fun vs H Q E => ∃ (v : V) (fb : Bool) (ws : List Str) (qs : List QD) (x : Str), vs = [v, .str x] ∧ Dp K H v (netD fb ws qs) ∧ (∀ q ∈ qs, q.nm = x → ∀ u, Dp K H u (q.d fb) → Q u H) ∧ ((∀ q ∈ qs, q.nm ≠ x) → Thrown E H C "queue" (.str x))
theorem okX_find_queue {f fI C : Addr} {fd fdI : FuncData} {k : Nat} (F : Fun K "find_queue" "find_queue" s_find_queue f fd) (mg_NoQueue : mg "NoQueue" = some (.ref C)) (XB_NoQueue : XcB K C "LookupError.__new__" [.type "LookupError", .type "Exception", .type "BaseException", .type "object"]) (IN_NoQueue : Ini K C fI)
    (G_NoQueue_init : FnOk P w K mg base CX0 k fI fdI ["self", "queue"] (spXi C "queue")) (b_NoQueue_init : Binds K fdI ["self", "queue"] []) : FnOk P w K mg base (L2.CX P w) (k + 1 + 1) f fd ["net", "name"] (spFindX K C) := by
  refine F.okX sc_find_queue (fun vs H Q E h => ?_) (fun cdv A outer s0 H vs Q E hr h => ?_)
  · obtain ⟨v, fb, ws, qs, x, rfl, _⟩ := h
    rfl
  · obtain ⟨v, fb, ws, qs, x, rfl, hD, q1, q2⟩ := h
    have tk : Takes (cxOf (L2.CX P w) P w K mg base sc_find_queue_N "find_queue" (defScope s_find_queue) f cdv A outer s0 H E) (fun cls d _ H => E cls d H) := takes_of rfl rfl rfl rfl
    have po : PassesOwn (model P w) (cxOf (L2.CX P w) P w K mg base sc_find_queue_N "find_queue" (defScope s_find_queue) f cdv A outer s0 H E).A (cxOf (L2.CX P w) P w K mg base sc_find_queue_N "find_queue" (defScope s_find_queue) f cdv A outer s0 H E).env (cxOf (L2.CX P w) P w K mg base sc_find_queue_N "find_queue" (defScope s_find_queue) f cdv A outer s0 H E).xe := passes_of rfl
    refine ⟨_, (pss_cons (ps_forX (ps_for po rfl (pi_seq (pe_ix ix_lt (pv 0) pe_int (fun _ _ => rfl))) (pg_name (i := 2) sc_find_queue.nd rfl (Or.inl rfl)) (pss_one (ps_if (pt_cmpR op_eq (pe_ix ix_lt (pv 2) pe_int (fun _ _ => rfl)) (pv 1) (nomark _)) (pss_one (ps_ret (pv 2))) pss_nil)))) 
    (pss_one (ps_raise rfl tk (pmk_xb PySem.F.excBase_LookupError XB_NoQueue IN_NoQueue.iC IN_NoQueue.tI G_NoQueue_init hr b_NoQueue_init pass0 (by rfl) mg_NoQueue (pa_cons (pv 1) pa_nil))))), ?_⟩
    obtain ⟨a0, a1, a2, xq, rfl, N0⟩ := netAt hD
    have i1 : atI [V.ref a1, V.ref a2] 1 = some (.ref a2) := atI_nat (j := 1) rfl
    refine for_of ?_
    refine iSeq_at (fun R' r => ⟨_, rfl, rIxF_at N0.h0 i1 r⟩) N0.h2 fun J wk => ?_
    refine forR_it wk (fun i σ Hc => ∃ x2 : Option V, σ = [some (.ref a0), some (.str x), x2] ∧ Hc = H ∧ ∀ q ∈ qs.take i, q.nm ≠ x) ⟨_, rfl, rfl, fun _ h => absurd h List.not_mem_nil⟩ (fun i σ Hc _ hh => ?_) (fun i u σ Hc Hc' hi hh y => ?_) (fun σ Hc hh => ?_)
    · obtain ⟨x2, rfl, rfl, _⟩ := hh
      exact N0.h2
    · obtain ⟨x2, rfl, rfl, hno⟩ := hh
      obtain ⟨rfl, hv⟩ := y
      obtain ⟨qd, aq, hq, rfl, hs⟩ := N0.hq i u hv
      refine ⟨_, rfl, rIxF_at hs (atI_nat (j := 0) rfl) ⟨_, rfl, rfl, ?_⟩⟩
      refine ⟨_, rfl, ?_⟩
      have hqm := List.mem_of_getElem? hq
      by_cases e : qd.nm = x
      · rw [show decide (V.str qd.nm = V.str x) = true from decide_eq_true (by rw [e])]
        refine iteT ?_
        refine ⟨_, rfl, ?_⟩
        refine q1 qd hqm e (.ref aq) ?_
        obtain ⟨d, hd, h3⟩ := dpa_get (net_all N0) hv
        rw [List.getElem?_map, hq] at hd
        cases hd
        exact h3
      · rw [show decide (V.str qd.nm = V.str x) = false from decide_eq_false fun z => e (V.str.inj z)]
        refine iteF ?_
        refine ⟨_, rfl, rfl, fun q hq' => ?_⟩
        rw [List.take_add_one, hq] at hq'
        rcases List.mem_append.mp hq' with h | h
        · exact hno q h
        · rw [List.mem_singleton.mp h]
          exact e
    · obtain ⟨x2, rfl, rfl, hno⟩ := hh
      have hall : ∀ q ∈ qs, q.nm ≠ x := fun q hq => hno q (by rw [show xq.length = qs.length from N0.ll, List.take_length]; exact hq)
      show tMkO C (spXi C "queue") [] (tCons (tVar 1) tNil) [some (.ref a0), some (.str x), x2] Hc _
      exact mk_thrown (fun R r => ⟨_, rfl, r⟩) (q2 hall)
end
end Jl

set_option Elab.async false
set_option linter.all false
set_option maxRecDepth 100000
set_option maxHeartbeats 1000000
set_option pp.maxSteps 300
namespace Jl
open PySem PySem.Spec PyProof.Rows L2
open Evl (sz_of sz_lt)
local macro_rules | `(tactic| walk_at "at") => `(tactic| first | exact box0 | exact box1 | exact box2)
local macro_rules | `(tactic| walk_at "sq") => `(tactic| first | (show SqL _ _ _ _; assumption) | (show SqT _ _ _ _; assumption) | (show _ = some _; assumption))
local macro_rules | `(tactic| walk_at "side") => `(tactic| first
  | (show (0 : Int) < _; decide)
  | (show (0 : Int) < _; omega)
  | exact ⟨by decide, by decide, by decide⟩
  | exact sz_of (Nat.le_of_ble_eq_true rfl)
  | exact rfl
  | exact Or.inl (by decide)
  | exact Or.inr (by decide)
  | exact Or.inr ⟨by omega, by omega⟩
  | exact Or.inl ⟨by omega, by omega⟩
  | exact ⟨by decide, by decide +kernel⟩)
local macro_rules | `(tactic| walk_at "ev1") => `(tactic| first
  | refine ⟨_, rfl, ?_⟩
  | refine ⟨_, _, rfl, rfl, ?_⟩
  | refine ⟨_, _, _, _, rfl, rfl, (by walk_at "sq"), (by walk_at "at"), ?_⟩
  | refine ⟨_, _, rfl, (by walk_at "sq"), ?_⟩
  | refine ⟨_, _, rfl, Or.inl (by walk_at "sq"), ?_⟩
  | refine ⟨_, _, rfl, Or.inr (by walk_at "sq"), ?_⟩
  | refine Or.inl ⟨_, rfl, ?_⟩
  | refine Or.inr ⟨_, rfl, ?_⟩
  | refine ⟨(by walk_at "side"), ?_⟩
  | refine ⟨.inl ⟨rfl, _, (by walk_at "sq")⟩, ?_⟩
  | refine ⟨_, _, rfl, ?_⟩)
local macro_rules | `(tactic| walk_at "nrm") => `(tactic| dsimp only [tNil, tCons, tC, tCB])
local macro_rules | `(tactic| walk_at "ev") => `(tactic| repeat (walk_at "ev1"))
abbrev sc_limits_N : List Str := ["net", "queue", "_", "start", "end", "rest", "notice", "old"]
abbrev s_limits : Stmt := topS 14
theorem sc_limits : FnScope ["net", "queue", "_", "start", "end", "rest", "notice", "old"] ["net", "queue"] (defScope s_limits) := ⟨rfl, rfl, rfl, by decide +kernel, rfl, by decide +kernel, by decide +kernel⟩
def limD : Option (Option Int × Int) → PyData
  | none => .none
  | some (n, l) => .tuple [optD n, .int l]
section
variable {P : Program} {w : World} {K : PySem.W.Frag} {mg : Str → Option Value} {base : Heap}
def spLimX (K : PySem.W.Frag) (C : Addr) : Sp := fun vs H Q E => ∃ (v : V) (fb : Bool) (ws : List Str) (qs : List QD) (x : Str), vs = [v, .str x] ∧ Dp K H v (netD fb ws qs) ∧ NetN ws qs ∧ NetG ws qs ∧ (∀ z ∈ qs, z.nm = x → ∀ H' u, Same H H' → Dp K H' u (limD (limF ws qs z)) → Q u H') ∧ ((∀ q ∈ qs, q.nm ≠ x) → Thrown E H C "queue" (.str x))
theorem okX_limits {f fF fN fL C : Addr} {fd fdF fdN fdL : FuncData} {k : Nat} (F : Fun K "limits" "limits" s_limits f fd) (GX_find_queue : FnOk P w K mg base (L2.CX P w) k fF fdF ["net", "name"] (spFindX K C)) (g_find_queue : mg "find_queue" = some (.ref fF)) (F_find_queue : Fun K "find_queue" "find_queue" s_find_queue fF fdF) (b_find_queue : Binds K fdF ["net", "name"] [])
    (G_never_held : FnOk P w K mg base CX0 k fN fdN ["net"] (spNever K)) (g_never_held : mg "never_held" = some (.ref fN)) (F_never_held : Fun K "never_held" "never_held" s_never_held fN fdN) (b_never_held : Binds K fdN ["net"] [])
    (G_least_cost : FnOk P w K mg base CX0 k fL fdL ["net", "worker", "other"] (spCost K)) (g_least_cost : mg "least_cost" = some (.ref fL)) (F_least_cost : Fun K "least_cost" "least_cost" s_least_cost fL fdL) (b_least_cost : Binds K fdL ["net", "worker", "other"] []) (m_max : mg "max" = none) : FnOk P w K mg base (L2.CX P w) (k + 1) f fd ["net", "queue"] (spLimX K C) := by
  refine F.okX sc_limits (fun vs H Q E h => ?_) (fun cdv A outer s0 H vs Q E hr h => ?_)
  · obtain ⟨v, fb, ws, qs, x, rfl, _⟩ := h
    rfl
  · obtain ⟨v, fb, ws, qs, x, rfl, hD, hN, hG, q1, q2⟩ := h
    have tk : Takes (cxOf (L2.CX P w) P w K mg base sc_limits_N "limits" (defScope s_limits) f cdv A outer s0 H E) (fun cls d _ H => E cls d H) := takes_of rfl rfl rfl rfl
    refine ⟨_, (pss_cons (ps_asg (pe_callS GX_find_queue hr (by rfl) g_find_queue F_find_queue.kp b_find_queue (passAt tk) (pa_cons (pv 0) (pa_cons (pv 1) pa_nil))) (pg_seq (pg_tup rfl (pgs_cons (pg_name (i := 2) sc_limits.nd rfl (Or.inl rfl)) (pgs_cons (pg_name (i := 3) sc_limits.nd rfl (Or.inl rfl)) (pgs_cons (pg_name (i := 4) sc_limits.nd rfl (Or.inl rfl)) (pgs_cons (pg_name (i := 2) sc_limits.nd rfl (Or.inl rfl)) (pgs_cons (pg_name (i := 2) sc_limits.nd rfl (Or.inl rfl)) pgs_nil)))))) (pg_lst rfl (pgs_cons (pg_name (i := 2) sc_limits.nd rfl (Or.inl rfl)) (pgs_cons (pg_name (i := 3) sc_limits.nd rfl (Or.inl rfl)) (pgs_cons (pg_name (i := 4) sc_limits.nd rfl (Or.inl rfl)) (pgs_cons (pg_name (i := 2) sc_limits.nd rfl (Or.inl rfl)) (pgs_cons (pg_name (i := 2) sc_limits.nd rfl (Or.inl rfl)) pgs_nil)))))))) 
    (pss_cons (ps_set (i := 5) sc_limits.nd rfl (Or.inl rfl) (pe_tup (pa_cons (pe_ix ix_lt (pv 0) pe_int (fun _ _ => rfl)) (pa_cons (pe_lcX (pe_lc (own := [("old", 7)]) (g := gName 7) (tt := (tTest (tOp rNe (tOp (rIxF K) (tVar 7) (tC (.int 0))) (tVar 1)))) (by rfl) sc_limits.nd (pi_seq (pe_ix ix_lt (pv 0) pe_int (fun _ _ => rfl))) (blkOk_by (own := [("old", 7)]) (N := sc_limits_N) (sc := defScope s_limits) (by decide +kernel)) (fun _ _ _ _ _ => pg_name (i := 7) sc_limits.nd rfl (Or.inl rfl)) (fun _ _ _ _ _ => (pts_one (pt_cmpR op_ne (pe_ix ix_lt (pv 7) pe_int (fun _ _ => rfl)) (pv 1) (nomark _)))) (fun _ _ _ _ _ => (pv 7)))) pa_nil)))) 
    (pss_cons (ps_if (pt_not (pt_val (pe_call G_never_held hr (by rfl) g_never_held F_never_held.kp b_never_held .nil pass0 (pa_cons (pv 5) pa_nil)))) (pss_one (ps_ret pe_non)) pss_nil) 
    (pss_cons (ps_set (i := 6) sc_limits.nd rfl (Or.inl rfl) (pe_call G_least_cost hr (by rfl) g_least_cost F_least_cost.kp b_least_cost .nil pass0 (pa_cons (pv 5) (pa_cons (pv 3) (pa_cons (pv 4) pa_nil))))) 
    (pss_cons (ps_if (pt_cmpR op_isN (pv 6) pe_non (nomark _)) (pss_one (ps_ret (pe_tup (pa_cons pe_non (pa_cons pe_int pa_nil))))) pss_nil) 
    (pss_cons (ps_if (pt_cmpR op_lt (pv 6) pe_int (nomark _)) (pss_one (ps_ret pe_non)) pss_nil) 
    (pss_one (ps_ret (pe_tup (pa_cons (pv 6) (pa_cons (pe_callB (call_max2 rfl) (by rfl) m_max (by decide +kernel) (pa_cons pe_int (pa_cons (pe_op op_sub pe_int (pe_call G_least_cost hr (by rfl) g_least_cost F_least_cost.kp b_least_cost .nil pass0 (pa_cons (pv 5) (pa_cons (pv 4) (pa_cons (pv 3) pa_nil))))) pa_nil))) pa_nil))))))))))), ?_⟩
    refine ⟨_, rfl, _, rfl, v, fb, ws, qs, x, rfl, hD, fun z hz hzx u hu => ?_, fun hno => q2 hno⟩
    obtain ⟨a0, a1, a2, xq, rfl, N0⟩ := netAt hD
    have i0 : atI [V.ref a1, V.ref a2] 0 = some (.ref a1) := atI_nat (j := 0) rfl
    have i1 : atI [V.ref a1, V.ref a2] 1 = some (.ref a2) := atI_nat (j := 1) rfl
    have q1' := q1 z hz hzx
    have hR := rest_G hG x
    obtain ⟨aq, rfl, hs⟩ := dp_q hu
    refine gSeq_at hs rfl ⟨_, _, rfl, _, _, rfl, _, _, rfl, _, _, rfl, _, _, rfl, rfl, ?_⟩
    dsimp only [List.set]
    refine ⟨_, rfl, rIxF_at N0.h0 i0 ?_⟩
    refine lcs (K := K) (fb := fb) qs (fun y q => Dp K H y (q.d fb)) (fun H' u q => Dp K H' u (q.d fb)) (fun q => decide (q.nm ≠ x)) (fun R' r => ⟨_, rfl, rIxF_at N0.h0 i1 r⟩) N0.h2 (fun k y q g1 g2 => ?_) N0.ll (by have := hN.q1; omega) (fun H' H'' u q e h => e.dp h) (fun y => rfl) (fun y q H4 hq e4 hy Q' q' => ?_) (fun y q H4 T hq ht e4 e5 tr hy _ Q' q' => ?_) (fun D ys H4 s4 hD0 hD1 hA => ?_)
    · obtain ⟨d, hd, h3⟩ := dpa_get (net_all N0) g1
      rw [List.getElem?_map, g2] at hd
      cases hd
      exact h3
    · obtain ⟨aq2, rfl, hq2⟩ := dp_q hy
      refine ⟨_, rfl, rIxF_at (e4.sqF hq2) (atI_nat (j := 0) rfl) ⟨_, rfl, rfl, ?_⟩⟩
      refine ⟨_, rfl, ?_⟩
      rw [show (!decide (V.str q.nm = V.str x)) = decide (q.nm ≠ x) by
        by_cases c : q.nm = x
        · rw [decide_eq_true (show V.str q.nm = V.str x by rw [c]), decide_eq_false (fun z => z c)]
          rfl
        · rw [decide_eq_false (fun z => c (V.str.inj z)), decide_eq_true c]
          rfl]
      exact q' H4 fun _ _ e => e
    · exact ⟨_, rfl, q' H4 _ (fun _ _ e => e) (e5.dp hy)⟩
    · dsimp only [List.set]
      walk_at "ev"
      intro p hp
      have s5 : Same H4 (upd H4 p (.tup [.ref a1, .ref D])) := .upd hp
      have gp : (upd H4 p (.tup [.ref a1, .ref D])) p = some (.tup [.ref a1, .ref D]) := upd_same
      generalize upd H4 p (.tup [.ref a1, .ref D]) = H5 at s5 gp ⊢
      have t5 := s4.trans s5
      have hV : NetV K H5 (.ref p) ws (restQ qs x) := by
        have hd5 : DpAll K H5 ys ((restQ qs x).map (QD.d fb)) := s5.dpa (cutS_le.dpa (a2_dpa hA))
        refine ⟨true, fb, false, fb, p, a1, D, ys, rfl, sqt_of gp, t5.sqF N0.h1, sql_of (s5 _ _ hD1), fun i v hv => ?_, by rw [dpa_len hd5, List.length_map]⟩
        obtain ⟨d, hd, h3⟩ := dpa_get hd5 hv
        rw [List.getElem?_map] at hd
        cases hqi : (restQ qs x)[i]? with
        | none =>
          rw [hqi] at hd
          cases hd
        | some q =>
          rw [hqi] at hd
          cases hd
          obtain ⟨aq3, e3, hs3⟩ := dp_q h3
          exact ⟨q, aq3, rfl, e3, hs3⟩
      have hNR : NetN ws (restQ qs x) := ⟨hN.nd, fun q hq => hN.ne q (List.mem_filter.mp hq).1, hN.w1, Nat.le_trans (List.length_filter_le _ _) hN.q1⟩
      walk_at "ev"
      refine ⟨.ref p, ws, restQ qs x, rfl, hV, hNR, fun H6 s6 => ?_⟩
      have h0 : ws ≠ [] := List.ne_nil_of_mem (hG.q1 z hz).1
      subst hzx
      unfold limF at q1'
      refine ⟨_, rfl, ?_⟩
      cases hv : neverF ws (restQ qs z.nm) with
      | false =>
        rw [hv, if_pos rfl] at q1'
        rw [if_pos (by rfl)]
        exact q1' H6 .non (t5.trans s6) .non
      | true =>
        rw [hv, if_neg (by decide)] at q1'
        rw [if_neg (by decide)]
        have hc := nnc_of (closed_pos hN.nd (rest_G hG z.nm) h0 hv)
        have t6 := t5.trans s6
        dsimp only [tNext]
        walk_at "ev"
        refine ⟨.ref p, ws, restQ qs z.nm, z.st, z.en, rfl, hV.same s6, hNR, fun H7 s7 => ?_⟩
        have t7 := t6.trans s7
        walk_at "ev"
        dsimp only [List.set]
        cases ha : highF (restQ qs z.nm) z.st z.en with
        | none =>
          rw [ha] at q1'
          refine iteT ?_
          walk_at "ev"
          intro p2 hp2
          exact q1' _ (.ref p2) (t7.trans (.upd hp2)) (.tup (sqt_of upd_same) (.cons .non (.cons (.int 1) .nil)))
        | some n =>
          rw [ha] at q1'
          dsimp only at q1'
          obtain ⟨y, hy⟩ := high_both hc ha
          rw [hy] at q1'
          refine iteF ?_
          dsimp only [tNext]
          walk_at "ev"
          by_cases c : n < 1
          · rw [if_pos c] at q1'
            rw [decide_eq_true c]
            refine iteT ?_
            walk_at "ev"
            exact q1' H7 .non t7 .non
          · rw [if_neg c] at q1'
            rw [decide_eq_false c]
            refine iteF ?_
            dsimp only [tNext]
            walk_at "ev"
            refine ⟨.ref p, ws, restQ qs z.nm, z.en, z.st, rfl, hV.same (s6.trans s7), hNR, fun H8 s8 => ?_⟩
            rw [hy]
            refine ⟨1, y, rfl, rfl, ?_⟩
            dsimp only [tNil]
            refine ⟨1, 1 - y, rfl, ?_⟩
            refine ⟨by show 2 ≤ sizeLine; decide, fun p2 hp2 => ?_⟩
            refine q1' _ (.ref p2) ((t7.trans s8).trans (.upd hp2)) (.tup (sqt_of upd_same) (.cons (.int n) ?_))
            have e : (if 1 - y > 1 then 1 - y else 1) = max 1 (1 - y) := by
              split <;> omega
            rw [e]
            exact .cons (.int _) .nil
end
end Jl

set_option Elab.async false
set_option linter.all false
set_option maxRecDepth 100000
set_option maxHeartbeats 1000000
set_option pp.maxSteps 300
namespace Jl
open PySem PySem.Spec PyProof.Rows L2
open Evl (sz_of sz_lt)
local macro_rules | `(tactic| walk_at "at") => `(tactic| first | exact box0 | exact box1 | exact box2)
local macro_rules | `(tactic| walk_at "sq") => `(tactic| first | (show SqL _ _ _ _; assumption) | (show SqT _ _ _ _; assumption) | (show _ = some _; assumption))
local macro_rules | `(tactic| walk_at "side") => `(tactic| first
  | (show (0 : Int) < _; decide)
  | (show (0 : Int) < _; omega)
  | exact ⟨by decide, by decide, by decide⟩
  | exact sz_of (Nat.le_of_ble_eq_true rfl)
  | exact rfl
  | exact Or.inl (by decide)
  | exact Or.inr (by decide)
  | exact Or.inr ⟨by omega, by omega⟩
  | exact Or.inl ⟨by omega, by omega⟩
  | exact ⟨by decide, by decide +kernel⟩)
local macro_rules | `(tactic| walk_at "ev1") => `(tactic| first
  | refine ⟨_, rfl, ?_⟩
  | refine ⟨_, _, rfl, rfl, ?_⟩
  | refine ⟨_, _, _, _, rfl, rfl, (by walk_at "sq"), (by walk_at "at"), ?_⟩
  | refine ⟨_, _, rfl, (by walk_at "sq"), ?_⟩
  | refine ⟨_, _, rfl, Or.inl (by walk_at "sq"), ?_⟩
  | refine ⟨_, _, rfl, Or.inr (by walk_at "sq"), ?_⟩
  | refine Or.inl ⟨_, rfl, ?_⟩
  | refine Or.inr ⟨_, rfl, ?_⟩
  | refine ⟨(by walk_at "side"), ?_⟩
  | refine ⟨.inl ⟨rfl, _, (by walk_at "sq")⟩, ?_⟩
  | refine ⟨_, _, rfl, ?_⟩)
local macro_rules | `(tactic| walk_at "nrm") => `(tactic| dsimp only [tNil, tCons, tC, tCB])
local macro_rules | `(tactic| walk_at "ev") => `(tactic| repeat (walk_at "ev1"))
abbrev sc_raised_N : List Str := ["net", "queue", "room", "notice", "name", "start", "end", "_", "after", "old"]
abbrev s_raised : Stmt := topS 13
theorem sc_raised : FnScope ["net", "queue", "room", "notice", "name", "start", "end", "_", "after", "old"] ["net", "queue", "room", "notice"] (defScope s_raised) := ⟨rfl, rfl, rfl, by decide +kernel, rfl, by decide +kernel, by decide +kernel⟩
section
variable {K : PySem.W.Frag} {H0 : Hp} {σ : L2.St} {te ta tb : TE} {d : PyData} {ds : List PyData}
theorem ic_at {S : List Addr} {fb : Bool} {j : Int} (k : Nat) (h : IsC K S H0 te (seqD fb ds) σ) (hd : ds[k]? = some d) (hj : j = (k : Nat) := by rfl) : IsC K S H0 (tOp (rIxF K) te (tC (.int j))) d σ := fun H Q e tr q => h H _ e tr fun H1 v s1 d1 => by
  obtain ⟨a, xs, rfl, ha, hx⟩ := Dp.seq_of d1
  obtain ⟨u, hu, du⟩ := dpa_get' hx hd
  exact rIxF_at (cutS_le.sqF ha) (by rw [hj]; exact atI_nat hu) (q H1 u s1 du)
theorem ic_tupA {fb : Bool} (h : IsC K [] H0 te (seqD fb ds) σ) : IsC K [] H0 (tCB (fun xs H Q => ∃ p ys, xs = [.ref p] ∧ ((SqL K H p ys ∧ ∀ l, H l = none → Q (.ref l) (upd H l (.tup ys))) ∨ (SqT K H p ys ∧ Q (.ref p) H))) (tCons te tNil)) (.tuple ds) σ := fun H Q e tr q => h H _ e tr fun H' v s1 d1 => by
  rw [cutS_nil] at d1
  obtain ⟨l, xs, rfl, hl, hd⟩ := Dp.seq_of d1
  cases fb with
  | true => exact ⟨l, xs, rfl, .inr ⟨hl, q _ _ s1 (by rw [cutS_nil]; exact .tup hl hd)⟩⟩
  | false => exact ⟨l, xs, rfl, .inl ⟨hl, fun p hp => q _ _ (s1.trans (.upd hp)) (by rw [cutS_nil]; exact .tup (sqt_of upd_same) ((Same.upd hp).dpa hd))⟩⟩
end
section
variable {P : Program} {w : World} {K : PySem.W.Frag} {mg : Str → Option Value} {base : Heap}
def spRaisedX (K : PySem.W.Frag) (C : Addr) : Sp := fun vs H Q E => ∃ (v : V) (fb : Bool) (ws : List Str) (qs : List QD) (x : Str) (sp gp : Int), vs = [v, .str x, .int sp, .int gp] ∧ Dp K H v (netD fb ws qs) ∧ NetN ws qs ∧ NetG ws qs ∧ (∀ z ∈ qs, z.nm = x → ∀ H' u, Same H H' → Dp K H' u (netD true ws (madeQ qs x sp gp)) → Q u H') ∧ ((∀ q ∈ qs, q.nm ≠ x) → Thrown E H C "queue" (.str x))
theorem okX_raised {f fF C : Addr} {fd fdF : FuncData} {k : Nat} (F : Fun K "raised" "raised" s_raised f fd) (GX_find_queue : FnOk P w K mg base (L2.CX P w) k fF fdF ["net", "name"] (spFindX K C)) (g_find_queue : mg "find_queue" = some (.ref fF)) (F_find_queue : Fun K "find_queue" "find_queue" s_find_queue fF fdF) (b_find_queue : Binds K fdF ["net", "name"] [])
    (m_tuple : mg "tuple" = none) : FnOk P w K mg base (L2.CX P w) (k + 1) f fd ["net", "queue", "room", "notice"] (spRaisedX K C) := by
  refine F.okX sc_raised (fun vs H Q E h => ?_) (fun cdv A outer s0 H vs Q E hr h => ?_)
  · obtain ⟨v, fb, ws, qs, x, sp, gp, rfl, _⟩ := h
    rfl
  · obtain ⟨v, fb, ws, qs, x, sp, gp, rfl, hD, hN, hG, q1, q2⟩ := h
    have tk : Takes (cxOf (L2.CX P w) P w K mg base sc_raised_N "raised" (defScope s_raised) f cdv A outer s0 H E) (fun cls d _ H => E cls d H) := takes_of rfl rfl rfl rfl
    refine ⟨_, (pss_cons (ps_asg (pe_callS GX_find_queue hr (by rfl) g_find_queue F_find_queue.kp b_find_queue (passAt tk) (pa_cons (pv 0) (pa_cons (pv 1) pa_nil))) (pg_seq (pg_tup rfl (pgs_cons (pg_name (i := 4) sc_raised.nd rfl (Or.inl rfl)) (pgs_cons (pg_name (i := 5) sc_raised.nd rfl (Or.inl rfl)) (pgs_cons (pg_name (i := 6) sc_raised.nd rfl (Or.inl rfl)) (pgs_cons (pg_name (i := 7) sc_raised.nd rfl (Or.inl rfl)) (pgs_cons (pg_name (i := 7) sc_raised.nd rfl (Or.inl rfl)) pgs_nil)))))) (pg_lst rfl (pgs_cons (pg_name (i := 4) sc_raised.nd rfl (Or.inl rfl)) (pgs_cons (pg_name (i := 5) sc_raised.nd rfl (Or.inl rfl)) (pgs_cons (pg_name (i := 6) sc_raised.nd rfl (Or.inl rfl)) (pgs_cons (pg_name (i := 7) sc_raised.nd rfl (Or.inl rfl)) (pgs_cons (pg_name (i := 7) sc_raised.nd rfl (Or.inl rfl)) pgs_nil)))))))) 
    (pss_cons (ps_set (i := 8) sc_raised.nd rfl (Or.inr rfl) (pe_tup (pa_cons (pv 4) (pa_cons (pv 5) (pa_cons (pv 6) (pa_cons (pv 2) (pa_cons (pv 3) pa_nil))))))) 
    (pss_one (ps_ret (pe_tup (pa_cons (pe_callTy call_tuple_of (by rfl) m_tuple (by decide +kernel) (pa_cons (pe_ix ix_lt (pv 0) pe_int (fun _ _ => rfl)) pa_nil)) (pa_cons (pe_callTy call_tuple_of (by rfl) m_tuple (by decide +kernel) (pa_cons (pe_lcX (pe_lc (own := [("old", 9)]) (g := gName 9) (tt := tYes) (te := (tIf (tTest (tOp rEq (tOp (rIxF K) (tVar 9) (tC (.int 0))) (tVar 1))) (tVar 8) (tCB (fun xs H Q => ∃ p ys, xs = [.ref p] ∧ ((SqL K H p ys ∧ ∀ l, H l = none → Q (.ref l) (upd H l (.tup ys))) ∨ (SqT K H p ys ∧ Q (.ref p) H))) (tCons (tVar 9) tNil)))) (by rfl) sc_raised.nd (pi_seq (pe_ix ix_lt (pv 0) pe_int (fun _ _ => rfl))) (blkOk_by (own := [("old", 9)]) (N := sc_raised_N) (sc := defScope s_raised) (by decide +kernel)) (fun _ _ _ _ _ => pg_name (i := 9) sc_raised.nd rfl (Or.inl rfl)) (fun _ _ _ _ _ => pts_nil) (fun _ _ _ _ _ => (pe_ifExp (pt_cmpR op_eq (pe_ix ix_lt (pv 9) pe_int (fun _ _ => rfl)) (pv 1) (nomark _)) (pv 8) (pe_callTy call_tuple_of (by rfl) m_tuple (by decide +kernel) (pa_cons (pv 9) pa_nil)))))) pa_nil)) pa_nil))))))), ?_⟩
    refine ⟨_, rfl, _, rfl, v, fb, ws, qs, x, rfl, hD, fun z hz hzx u hu => ?_, fun hno => q2 hno⟩
    have q1' := q1 z hz hzx
    obtain ⟨aq, rfl, hs⟩ := dp_q hu
    refine gSeq_at hs rfl ⟨_, _, rfl, _, _, rfl, _, _, rfl, _, _, rfl, _, _, rfl, rfl, ?_⟩
    dsimp only [List.set]
    walk_at "ev"
    intro p hp
    have s1 : Same H (upd H p (.tup [V.str z.nm, V.str z.st, V.str z.en, V.int sp, V.int gp])) := .upd hp
    have g1 : Dp K (upd H p (.tup [V.str z.nm, V.str z.st, V.str z.en, V.int sp, V.int gp])) (.ref p) ((putQ z sp gp).d true) := .tup (sqt_of upd_same) (.cons (.str _) (.cons (.str _) (.cons (.str _) (.cons (.int _) (.cons (.int _) .nil)))))
    generalize upd H p (.tup [V.str z.nm, V.str z.st, V.str z.en, V.int sp, V.int gp]) = H1 at s1 g1 ⊢
    have hD1 := s1.dp hD
    obtain ⟨a0, a1, a2, xq, rfl, N0⟩ := netAt hD1
    have i1 : atI [V.ref a1, V.ref a2] 1 = some (.ref a2) := atI_nat (j := 1) rfl
    refine ic_tup (K := K) (S := []) (H0 := H1) (ac_cons (ic_tupA (ic_at (fb := fb) 0 (ic_var rfl (by rw [cutS_nil]; exact hD1)) rfl)) (ac_cons (ic_tupA (fb := false) (ds := (madeQ qs x sp gp).map (QD.d true)) ?_) ac_nil)) (by show 2 ≤ 1000; decide) H1 _ (fun _ _ e => e) Trk.nil fun H' u s2 d2 => q1' H' u (s1.trans s2) (by rw [cutS_nil] at d2; exact d2)
    intro H2 Q2 e2 tr q2
    have N2 := N0.same e2
    refine lcs (K := K) (fb := fb) qs (fun y q => Dp K H2 y (q.d fb)) (fun H' u q => Dp K H' u ((if q.nm = x then putQ q sp gp else q).d true)) (fun _ => true) (fun R' r => ⟨_, rfl, rIxF_at N2.h0 i1 r⟩) N2.h2 (fun k y q g1 g2 => ?_) N2.ll (by have := hN.q1; omega) (fun H' H'' u q e h => e.dp h) (fun y => rfl) (fun y q H4 hq e4 hy Q' q' => ?_) (fun y q H4 T hq ht e4 e5 tr hy hT Q' q' => ?_) (fun D ys H4 s4 hD0 hD1 hA => ?_)
    · obtain ⟨d, hd, h3⟩ := dpa_get (net_all N2) g1
      rw [List.getElem?_map, g2] at hd
      cases hd
      exact h3
    · exact q' H4 fun _ _ e => e
    · obtain ⟨aq2, rfl, hq2⟩ := dp_q hy
      refine ⟨_, rfl, rIxF_at (e4.sqF hq2) (atI_nat (j := 0) rfl) ⟨_, rfl, rfl, _, rfl, ?_⟩⟩
      by_cases c : q.nm = x
      · rw [show decide (V.str q.nm = V.str x) = true from decide_eq_true (by rw [c])]
        refine iteT ?_
        refine ⟨_, rfl, q' H4 _ (fun _ _ e => e) ?_⟩
        rw [if_pos c, nm_eq hG hq hz (c.trans hzx.symm)]
        exact (e2.trans e5).dp g1
      · rw [show decide (V.str q.nm = V.str x) = false from decide_eq_false fun z => c (V.str.inj z)]
        refine iteF ?_
        rw [if_neg c] at q'
        cases fb with
        | true => exact ⟨_, rfl, aq2, _, rfl, .inr ⟨e4.sqF hq2, q' H4 _ (fun _ _ e => e) (e5.dp hy)⟩⟩
        | false => exact ⟨_, rfl, aq2, _, rfl, .inl ⟨e4.sqF hq2, fun l hl => q' _ _ (.upd hl) (dp_tup tr hl (.cons (.str _) (.cons (.str _) (.cons (.str _) (.cons (.int _) (.cons (.int _) .nil))))))⟩⟩
    · rw [List.filter_eq_self.mpr fun _ _ => rfl] at hA
      have h9 := a2_dpa hA
      refine q2 H4 (.ref D) s4 ?_
      rw [cutS_nil]
      unfold madeQ
      rw [List.map_map]
      exact .lst (sql_of hD1) (cutS_le.dpa h9)
end
end Jl

set_option Elab.async false
set_option linter.all false
set_option maxRecDepth 100000
set_option maxHeartbeats 1000000
set_option pp.maxSteps 300
namespace Jl
open PySem PySem.Spec PyProof.Rows L2
open Evl (sz_of sz_lt)
local macro_rules | `(tactic| walk_at "at") => `(tactic| first | exact box0 | exact box1 | exact box2)
local macro_rules | `(tactic| walk_at "sq") => `(tactic| first | (show SqL _ _ _ _; assumption) | (show SqT _ _ _ _; assumption) | (show _ = some _; assumption))
local macro_rules | `(tactic| walk_at "side") => `(tactic| first
  | (show (0 : Int) < _; decide)
  | (show (0 : Int) < _; omega)
  | exact ⟨by decide, by decide, by decide⟩
  | exact sz_of (Nat.le_of_ble_eq_true rfl)
  | exact rfl
  | exact Or.inl (by decide)
  | exact Or.inr (by decide)
  | exact Or.inr ⟨by omega, by omega⟩
  | exact Or.inl ⟨by omega, by omega⟩
  | exact ⟨by decide, by decide +kernel⟩)
local macro_rules | `(tactic| walk_at "ev1") => `(tactic| first
  | refine ⟨_, rfl, ?_⟩
  | refine ⟨_, _, rfl, rfl, ?_⟩
  | refine ⟨_, _, _, _, rfl, rfl, (by walk_at "sq"), (by walk_at "at"), ?_⟩
  | refine ⟨_, _, rfl, (by walk_at "sq"), ?_⟩
  | refine ⟨_, _, rfl, Or.inl (by walk_at "sq"), ?_⟩
  | refine ⟨_, _, rfl, Or.inr (by walk_at "sq"), ?_⟩
  | refine Or.inl ⟨_, rfl, ?_⟩
  | refine Or.inr ⟨_, rfl, ?_⟩
  | refine ⟨(by walk_at "side"), ?_⟩
  | refine ⟨.inl ⟨rfl, _, (by walk_at "sq")⟩, ?_⟩
  | refine ⟨_, _, rfl, ?_⟩)
local macro_rules | `(tactic| walk_at "nrm") => `(tactic| dsimp only [tNil, tCons, tC, tCB])
local macro_rules | `(tactic| walk_at "ev") => `(tactic| repeat (walk_at "ev1"))
abbrev sc_w_any_bad_N : List Str := ["_law_web_here", "_law_found", "_law_row", "_law_paid", "_law_quiet"]
abbrev s_w_any_bad : Stmt := topS 31
theorem sc_w_any_bad : FnScope ["_law_web_here", "_law_found", "_law_row", "_law_paid", "_law_quiet"] ["_law_web_here", "_law_found"] (defScope s_w_any_bad) := ⟨rfl, rfl, rfl, by decide +kernel, rfl, by decide +kernel, by decide +kernel⟩
section
variable {P : Program} {w : World} {K : PySem.W.Frag} {mg : Str → Option Value} {base : Heap}
theorem bad_le {qs : List QD} {r : List Mk} (h : ∀ m ∈ r, m.1 < qs.length) : decide (paidQ qs r ≤ quietQ qs r) = decide (costQ qs r ≤ 0) := by
  rw [cost_pq r h]
  by_cases c : paidQ qs r ≤ quietQ qs r
  · rw [decide_eq_true c, decide_eq_true (by omega)]
  · rw [decide_eq_false c, decide_eq_false (by omega)]
def spAnyB (K : PySem.W.Frag) : Sp := fun vs H Q _ => ∃ (v u : V) (ws : List Str) (qs : List QD) (g : List (List Mk)), vs = [v, u] ∧ Dp K H v (netD true ws qs) ∧ Dp K H u (.list (g.map rowL)) ∧ (∀ r ∈ g, r.length ≤ 40 ∧ ∀ m ∈ r, m.1 < qs.length) ∧ ∀ H', Same H H' → Q (.bl (!(badR qs g).isEmpty)) H'
theorem ok_w_any_bad {f fS : Addr} {fd fdS : FuncData} {k : Nat} (F : Fun K "_law_any_bad" "_law_any_bad" s_w_any_bad f fd)
    (G_w_ring_sums : FnOk P w K mg base CX0 k fS fdS ["_law_web_here", "_law_row"] (spSums K)) (g_w_ring_sums : mg "_law_ring_sums" = some (.ref fS)) (F_w_ring_sums : Fun K "_law_ring_sums" "_law_ring_sums" s_w_ring_sums fS fdS) (b_w_ring_sums : Binds K fdS ["_law_web_here", "_law_row"] []) : FnOk P w K mg base CX0 (k + 1) f fd ["_law_web_here", "_law_found"] (spAnyB K) := by
  refine F.ok sc_w_any_bad (fun vs H Q E h => ?_) (fun cdv A outer s0 H vs Q E hr h => ?_)
  · obtain ⟨v, u, ws, qs, g, rfl, _⟩ := h
    rfl
  · obtain ⟨v, u, ws, qs, g, rfl, hD, hU, hrow, q⟩ := h
    refine ⟨_, (pss_cons (ps_forX (ps_for PassesOwn.never rfl (pi_seq (pv 1)) (pg_name (i := 2) sc_w_any_bad.nd rfl (Or.inl rfl)) 
      (pss_cons (ps_asg (pe_call G_w_ring_sums hr (by rfl) g_w_ring_sums F_w_ring_sums.kp b_w_ring_sums .nil pass0 (pa_cons (pv 0) (pa_cons (pv 2) pa_nil))) (pg_tup rfl (pgs_cons (pg_name (i := 3) sc_w_any_bad.nd rfl (Or.inl rfl)) (pgs_cons (pg_name (i := 4) sc_w_any_bad.nd rfl (Or.inl rfl)) pgs_nil)))) 
      (pss_one (ps_if (pt_cmpR op_le (pv 3) (pv 4) (nomark _)) (pss_one (ps_ret pe_bl)) pss_nil))))) 
    (pss_one (ps_ret pe_bl))), ?_⟩
    obtain ⟨l, ys, rfl, hl, hds⟩ := Dp.seq_of (f := false) hU
    have hl : SqL K H l ys := hl
    have ll := dpa_len hds
    rw [List.length_map] at ll
    refine for_of ?_
    refine .inl ⟨_, rfl, l, rfl, ⟨ys, hl⟩, ?_⟩
    refine forR_it (walk_list (xs := ys)) (fun j σ Hx => ∃ x2 x3 x4 : Option V, σ = [some v, some (.ref l), x2, x3, x4] ∧ Same H Hx ∧ badR qs (g.take j) = []) ⟨_, _, _, rfl, (fun _ _ e => e), rfl⟩ (fun j σ Hx _ hh => ?_) (fun j y σ Hx Hx' hj hh y9 => ?_) (fun σ Hx hh => ?_)
    · obtain ⟨x2, x3, x4, rfl, sx, _⟩ := hh
      exact sx.sqL hl
    · obtain ⟨x2, x3, x4, rfl, sx, hno⟩ := hh
      obtain ⟨rfl, hv⟩ := y9
      obtain ⟨d, hd, hdv⟩ := dpa_get hds hv
      rw [List.getElem?_map] at hd
      cases hrg : g[j]? with
      | none =>
        rw [hrg] at hd
        cases hd
      | some r =>
        rw [hrg] at hd
        cases hd
        have hrm := List.mem_of_getElem? hrg
        obtain ⟨z2, z3⟩ := hrow r hrm
        have hdr : Dp K Hx' y (rowL r) := sx.dp hdv
        refine ⟨_, rfl, _, rfl, ?_⟩
        refine ⟨v, y, ws, qs, r, [], rfl, Trk.nil, sx.dp hD, hdr, z3, by omega, fun H3 z s3 d3 => ?_⟩
        obtain ⟨t, xt, rfl, hts, hta⟩ := Dp.seq_of (f := true) (cutS_le.dp d3)
        cases hta with
        | cons k1 hta =>
          cases hta with
          | cons k2 hta =>
            cases hta
            cases k1
            cases k2
            refine ⟨t, _, rfl, hts, rfl, _, _, rfl, _, _, rfl, rfl, ?_⟩
            dsimp only [List.set]
            walk_at "ev"
            rw [bad_le z3]
            by_cases hc : costQ qs r ≤ 0
            · rw [decide_eq_true hc]
              refine iteT ?_
              walk_at "ev"
              have hb : r ∈ badR qs g := List.mem_filter.mpr ⟨hrm, decide_eq_true hc⟩
              have e : (!(badR qs g).isEmpty) = true := by
                cases h9 : badR qs g with
                | nil =>
                  rw [h9] at hb
                  cases hb
                | cons a b => rfl
              rw [e] at q
              exact q H3 (sx.trans s3)
            · rw [decide_eq_false hc]
              refine iteF ?_
              refine ⟨_, _, _, rfl, sx.trans s3, ?_⟩
              rw [List.take_add_one, hrg]
              unfold badR at hno ⊢
              rw [List.filter_append, hno, List.nil_append, Option.toList_some, List.filter_cons, decide_eq_false hc]
              rfl
    · obtain ⟨x2, x3, x4, rfl, sx, hno⟩ := hh
      rw [ll, List.take_length] at hno
      walk_at "ev"
      rw [hno] at q
      exact q Hx sx
end
end Jl

set_option Elab.async false
set_option linter.all false
set_option maxRecDepth 100000
set_option maxHeartbeats 1000000
set_option pp.maxSteps 300
namespace Jl
open PySem PySem.Spec PyProof.Rows L2
open Evl (sz_of sz_lt)
local macro_rules | `(tactic| walk_at "at") => `(tactic| first | exact box0 | exact box1 | exact box2)
local macro_rules | `(tactic| walk_at "sq") => `(tactic| first | (show SqL _ _ _ _; assumption) | (show SqT _ _ _ _; assumption) | (show _ = some _; assumption))
local macro_rules | `(tactic| walk_at "side") => `(tactic| first
  | (show (0 : Int) < _; decide)
  | (show (0 : Int) < _; omega)
  | exact ⟨by decide, by decide, by decide⟩
  | exact sz_of (Nat.le_of_ble_eq_true rfl)
  | exact rfl
  | exact Or.inl (by decide)
  | exact Or.inr (by decide)
  | exact Or.inr ⟨by omega, by omega⟩
  | exact Or.inl ⟨by omega, by omega⟩
  | exact ⟨by decide, by decide +kernel⟩)
local macro_rules | `(tactic| walk_at "ev1") => `(tactic| first
  | refine ⟨_, rfl, ?_⟩
  | refine ⟨_, _, rfl, rfl, ?_⟩
  | refine ⟨_, _, _, _, rfl, rfl, (by walk_at "sq"), (by walk_at "at"), ?_⟩
  | refine ⟨_, _, rfl, (by walk_at "sq"), ?_⟩
  | refine ⟨_, _, rfl, Or.inl (by walk_at "sq"), ?_⟩
  | refine ⟨_, _, rfl, Or.inr (by walk_at "sq"), ?_⟩
  | refine Or.inl ⟨_, rfl, ?_⟩
  | refine Or.inr ⟨_, rfl, ?_⟩
  | refine ⟨(by walk_at "side"), ?_⟩
  | refine ⟨.inl ⟨rfl, _, (by walk_at "sq")⟩, ?_⟩
  | refine ⟨_, _, rfl, ?_⟩)
local macro_rules | `(tactic| walk_at "nrm") => `(tactic| dsimp only [tNil, tCons, tC, tCB])
local macro_rules | `(tactic| walk_at "ev") => `(tactic| repeat (walk_at "ev1"))
abbrev sc_w_with_N : List Str := ["_law_web_here", "_law_mark", "_law_space", "_law_gap", "_law_found", "_law_own"]
abbrev s_w_with : Stmt := topS 30
theorem sc_w_with : FnScope ["_law_web_here", "_law_mark", "_law_space", "_law_gap", "_law_found", "_law_own"] ["_law_web_here", "_law_mark", "_law_space", "_law_gap"] (defScope s_w_with) := ⟨rfl, rfl, rfl, by decide +kernel, rfl, by decide +kernel, by decide +kernel⟩
section
variable {P : Program} {w : World} {K : PySem.W.Frag} {mg : Str → Option Value} {base : Heap}
def spWith (K : PySem.W.Frag) : Sp := fun vs H Q _ => ∃ (v : V) (ws : List Str) (qs : List QD) (x : Str) (sp gp : Int), vs = [v, .str x, .int sp, .int gp] ∧ Dp K H v (netD true ws qs) ∧ qs.length ≤ 500 ∧ ∀ H' u, Same H H' → Dp K H' u (netD true ws (madeQ qs x sp gp)) → Q u H'
theorem ok_w_with {f : Addr} {fd : FuncData} {k : Nat} (F : Fun K "_law_with" "_law_with" s_w_with f fd) (m_tuple : mg "tuple" = none) : FnOk P w K mg base CX0 (k + 1) f fd ["_law_web_here", "_law_mark", "_law_space", "_law_gap"] (spWith K) := by
  refine F.ok sc_w_with (fun vs H Q E h => ?_) (fun cdv A outer s0 H vs Q E hr h => ?_)
  · obtain ⟨v, ws, qs, x, sp, gp, rfl, _⟩ := h
    rfl
  · obtain ⟨v, ws, qs, x, sp, gp, rfl, hD, hql, q⟩ := h
    refine ⟨_, (pss_cons (ps_setLcX (ps_setLc (i := 4) (own := [("_law_own", 5)]) (g := gName 5) (tt := tYes) (te := (tIf (tTest (tOp rEq (tOp (rIxT K) (tVar 5) (tC (.int 0))) (tVar 1))) (tOp (rCatT K) (tSl (rSlT K) (tVar 5) tNoPart (tPart (tC (.int 3)))) (tTup (tCons (tVar 2) (tCons (tVar 3) tNil)))) (tVar 5))) rfl sc_w_with.nd rfl rfl (sw_true rfl rfl rfl (by decide +kernel)) (pi_seq (pe_ix ix_lt (pv 0) pe_int (fun _ _ => rfl))) (blkOk_by (own := [("_law_own", 5)]) (N := sc_w_with_N) (sc := defScope s_w_with) (by decide +kernel)) (fun _ _ _ _ _ => pg_name (i := 5) sc_w_with.nd rfl (Or.inl rfl)) (fun _ _ _ _ _ => pts_nil) (fun _ _ _ _ _ => (pe_ifExp (pt_cmpR op_eq (pe_ix ix_tup (pv 5) pe_int (fun _ _ => rfl)) (pv 1) (nomark _)) (pe_op op_catT (pe_slice sl_tup (pv 5) po_none (po_some pe_int)) (pe_tup (pa_cons (pv 2) (pa_cons (pv 3) pa_nil)))) (pv 5))))) 
    (pss_one (ps_ret (pe_tup (pa_cons (pe_ix ix_lt (pv 0) pe_int (fun _ _ => rfl)) (pa_cons (pe_callTy call_tuple_of (by rfl) m_tuple (by decide +kernel) (pa_cons (pv 4) pa_nil)) pa_nil)))))), ?_⟩
    obtain ⟨a0, a1, a2, xq, rfl, N0⟩ := netAt hD
    have i0 : atI [V.ref a1, V.ref a2] 0 = some (.ref a1) := atI_nat (j := 0) rfl
    have i1 : atI [V.ref a1, V.ref a2] 1 = some (.ref a2) := atI_nat (j := 1) rfl
    refine lcs (K := K) (fb := true) qs (fun y q => Dp K H y (q.d true)) (fun H' u q => Dp K H' u ((if q.nm = x then putQ q sp gp else q).d true)) (fun _ => true) (fun R' r => ⟨_, rfl, rIxF_at N0.h0 i1 r⟩) N0.h2 (fun k y q g1 g2 => ?_) N0.ll (by omega) (fun H' H'' u q e h => e.dp h) (fun y => rfl) (fun y q H4 hq e4 hy Q' q' => ?_) (fun y q H4 T hq ht e4 e5 tr hy hT Q' q' => ?_) (fun D ys H4 s4 hD0 hD1 hA => ?_)
    · obtain ⟨d, hd, h3⟩ := dpa_get (net_all N0) g1
      rw [List.getElem?_map, g2] at hd
      cases hd
      exact h3
    · exact q' H4 fun _ _ e => e
    · obtain ⟨aq2, rfl, hq2⟩ := dp_q hy
      have hq4 : SqT K H4 aq2 _ := e4.sqF hq2
      refine ⟨_, rfl, _, _, _, _, rfl, rfl, hq4, atI_nat (j := 0) rfl, _, rfl, rfl, _, rfl, ?_⟩
      by_cases c : q.nm = x
      · rw [show decide (V.str q.nm = V.str x) = true from decide_eq_true (by rw [c])]
        refine iteT ?_
        rw [if_pos c] at q'
        walk_at "ev"
        refine ⟨(show ¬ ((0 : Nat) = 0 ∧ (3 : Nat) = 5) by decide), fun pa hpa => ?_⟩
        have sa : Same H4 (upd H4 pa (.tup [V.str q.nm, V.str q.st, V.str q.en])) := .upd hpa
        have ga : (upd H4 pa (.tup [V.str q.nm, V.str q.st, V.str q.en])) pa = some (.tup [V.str q.nm, V.str q.st, V.str q.en]) := upd_same
        show tTup _ _ (upd H4 pa (.tup [V.str q.nm, V.str q.st, V.str q.en])) _
        generalize upd H4 pa (.tup [V.str q.nm, V.str q.st, V.str q.en]) = HM at sa ga ⊢
        walk_at "ev"
        intro pb hpb
        have sb : Same HM (upd HM pb (.tup [V.int sp, V.int gp])) := .upd hpb
        have gb : (upd HM pb (.tup [V.int sp, V.int gp])) pb = some (.tup [V.int sp, V.int gp]) := upd_same
        have ga2 := sb _ _ ga
        generalize upd HM pb (.tup [V.int sp, V.int gp]) = HN at sb gb ga2 ⊢
        refine ⟨pa, pb, _, _, rfl, rfl, sqt_of ga2, sqt_of gb, List.cons_ne_nil _ _, (show 5 ≤ sizeLine by decide), (fun z => nomatch z), fun _ pc hpc => ?_⟩
        exact q' _ _ ((sa.trans sb).trans (.upd hpc)) (dp_tup ((tr.mono sa).mono sb) hpc (.cons (.str _) (.cons (.str _) (.cons (.str _) (.cons (.int _) (.cons (.int _) .nil))))))
      · rw [show decide (V.str q.nm = V.str x) = false from decide_eq_false fun z => c (V.str.inj z)]
        refine iteF ?_
        rw [if_neg c] at q'
        exact ⟨_, rfl, q' H4 _ (fun _ _ e => e) (e5.dp hy)⟩
    · rw [List.filter_eq_self.mpr fun _ _ => rfl] at hA
      have h9 := a2_dpa hA
      have hL : Dp K H4 (.ref D) (seqD false ((madeQ qs x sp gp).map (QD.d true))) := by
        unfold madeQ
        rw [List.map_map]
        exact .lst (sql_of hD1) (cutS_le.dpa h9)
      dsimp only [List.set]
      refine ic_tup (K := K) (S := []) (H0 := H4) (ac_cons (ic_at (fb := true) 0 (ic_var rfl (by rw [cutS_nil]; exact s4.dp hD)) rfl) (ac_cons (ic_tupA (fb := false) (ic_var rfl (by rw [cutS_nil]; exact hL))) ac_nil)) (by show 2 ≤ 1000; decide) H4 _ (fun _ _ e => e) Trk.nil fun H' u s2 d2 => q H' u (s4.trans s2) (by rw [cutS_nil] at d2; exact d2)
end
end Jl

set_option Elab.async false
set_option linter.all false
set_option maxRecDepth 100000
set_option maxHeartbeats 1000000
set_option pp.maxSteps 300
namespace Jl
open PySem PySem.Spec PyProof.Rows L2
open Evl (sz_of sz_lt)
local macro_rules | `(tactic| walk_at "at") => `(tactic| first | exact box0 | exact box1 | exact box2)
local macro_rules | `(tactic| walk_at "sq") => `(tactic| first | (show SqL _ _ _ _; assumption) | (show SqT _ _ _ _; assumption) | (show _ = some _; assumption))
local macro_rules | `(tactic| walk_at "side") => `(tactic| first
  | (show (0 : Int) < _; decide)
  | (show (0 : Int) < _; omega)
  | exact ⟨by decide, by decide, by decide⟩
  | exact sz_of (Nat.le_of_ble_eq_true rfl)
  | exact rfl
  | exact Or.inl (by decide)
  | exact Or.inr (by decide)
  | exact Or.inr ⟨by omega, by omega⟩
  | exact Or.inl ⟨by omega, by omega⟩
  | exact ⟨by decide, by decide +kernel⟩)
local macro_rules | `(tactic| walk_at "ev1") => `(tactic| first
  | refine ⟨_, rfl, ?_⟩
  | refine ⟨_, _, rfl, rfl, ?_⟩
  | refine ⟨_, _, _, _, rfl, rfl, (by walk_at "sq"), (by walk_at "at"), ?_⟩
  | refine ⟨_, _, rfl, (by walk_at "sq"), ?_⟩
  | refine ⟨_, _, rfl, Or.inl (by walk_at "sq"), ?_⟩
  | refine ⟨_, _, rfl, Or.inr (by walk_at "sq"), ?_⟩
  | refine Or.inl ⟨_, rfl, ?_⟩
  | refine Or.inr ⟨_, rfl, ?_⟩
  | refine ⟨(by walk_at "side"), ?_⟩
  | refine ⟨.inl ⟨rfl, _, (by walk_at "sq")⟩, ?_⟩
  | refine ⟨_, _, rfl, ?_⟩)
local macro_rules | `(tactic| walk_at "nrm") => `(tactic| dsimp only [tNil, tCons, tC, tCB])
local macro_rules | `(tactic| walk_at "ev") => `(tactic| repeat (walk_at "ev1"))
abbrev sc_w_fork_N : List Str := ["_law_narrow"]
abbrev s_w_fork : Stmt := topS 32
theorem sc_w_fork : FnScope ["_law_narrow"] ["_law_narrow"] (defScope s_w_fork) := ⟨rfl, rfl, rfl, by decide +kernel, rfl, by decide +kernel, by decide +kernel⟩
/-- what makes a new tuple of texts whose object is known -/
def IsW (H0 : Hp) (t1 : TE) (ws : List Str) (σ : L2.St) : Prop := ∀ (H : Hp) (Q : VK), Same H0 H → (∀ (H' : Hp) (a : Addr) (ob : Obj), Same H H' → H' a = some (.frz ob (.tup (ws.map V.str))) → ob.cls = .type "tuple" → ob.dict = none → Q (.ref a) H') → t1 σ H Q
section
variable {K : PySem.W.Frag} {H0 : Hp} {σ : L2.St}
theorem isw_tupF {t : TA} {ws : List Str} (h : AreC K [] H0 t (ws.map PyData.str) σ) (hl : ws.length ≤ 1000) : IsW H0 (tTupF t) ws σ := fun H Q e q => h H _ e Trk.nil fun H1 vs s1 d1 => by
  have e := dpa_strs_of d1
  subst e
  exact ⟨Nat.le_of_lt (sz_lt (by rw [List.length_map]; omega)), fun p ob hp hc hd => q _ p ob (s1.trans (.upd hp)) upd_same hc hd⟩
theorem isw_str {i : Nat} {x : Str} (hi : σ[i]? = some (some (.str x))) (hl : x.cps.size ≤ 1000) : IsW H0 (tCB rTupS (tCons (tVar i) tNil)) (chS x) σ := fun H Q e q => ⟨_, hi, x, rfl, Nat.le_of_lt (sz_lt (by omega)), fun l ob hp hc hd => q _ l ob (.upd hp) upd_same hc hd⟩
theorem web_disp {t1 t2 : TE} {ws : List Str} {qs : List QD} {H : Hp} {Q : VK} (h1 : IsW H t1 ws σ) (h2 : IsC K [] H t2 (.tuple (qs.map (QD.d true))) σ) (q : ∀ H' u, Same H H' → WebO K H' u ws qs → Q u H') : tTup (tCons t1 (tCons t2 tNil)) σ H Q := h1 H _ (fun _ _ e => e) fun H1 a ob s1 g1 gc gd => h2 H1 _ s1 Trk.nil fun H2 u s2 d2 => by
  rw [cutS_nil] at d2
  refine ⟨by show 2 ≤ sizeLine; decide, fun p hp => ?_⟩
  have s3 : Same H2 (upd H2 p (.tup [.ref a, u])) := .upd hp
  have hz : (upd H2 p (.tup [.ref a, u])) p = some (.tup [.ref a, u]) := upd_same
  have ga := s3 _ _ (s2 _ _ g1)
  refine q _ (.ref p) ((s1.trans s2).trans s3) ⟨?_, p, a, u, ob, rfl, sqt_of hz, ga, gc, gd⟩
  exact .tup (sqt_of hz) (.cons (.tup (.inl (.inr ⟨ob, ga⟩)) dpa_strs) (.cons (s3.dp d2) .nil))
end
section
variable {K : PySem.W.Frag}
theorem ic_tupOf {H0 : Hp} {σ : L2.St} {te : TE} {ds : List PyData} (h : IsC K [] H0 te (.list ds) σ) : IsC K [] H0 (tCB (fun xs H Q => ∃ p ys, xs = [.ref p] ∧ ((SqL K H p ys ∧ ∀ l, H l = none → Q (.ref l) (upd H l (.tup ys))) ∨ (SqT K H p ys ∧ Q (.ref p) H))) (tCons te tNil)) (.tuple ds) σ := fun H Q e tr q => h H _ e tr fun H' v s1 d1 => by
  rw [cutS_nil] at d1
  obtain ⟨l, xs, rfl, hl, hd⟩ := Dp.seq_of (f := false) d1
  refine ⟨l, xs, rfl, .inl ⟨hl, fun p hp => q _ _ (s1.trans (.upd hp)) ?_⟩⟩
  rw [cutS_nil]
  exact dpn_tup hp hd
end
def sO (x : String) : Str := Str.ofString x
def wsF : List Str := [sO "a", sO "d", sO "s"]
def qsF (sp : Int) : List QD := [⟨sO "p", sO "s", sO "a", 3, 3⟩, ⟨sO "q", sO "a", sO "d", 3, 3⟩, ⟨sO "r", sO "s", sO "d", sp, 1⟩]
section
variable {P : Program} {w : World} {K : PySem.W.Frag} {mg : Str → Option Value} {base : Heap}
def spFork (K : PySem.W.Frag) : Sp := fun vs H Q _ => ∃ sp : Int, vs = [.int sp] ∧ ∀ H' u, Same H H' → WebO K H' u wsF (qsF sp) → Q u H'
theorem ok_w_fork {f : Addr} {fd : FuncData} {k : Nat} (F : Fun K "_law_fork" "_law_fork" s_w_fork f fd) : FnOk P w K mg base CX0 (k + 1) f fd ["_law_narrow"] (spFork K) := by
  refine F.ok sc_w_fork (fun vs H Q E h => ?_) (fun cdv A outer s0 H vs Q E hr h => ?_)
  · obtain ⟨sp, rfl, _⟩ := h
    rfl
  · obtain ⟨sp, rfl, q⟩ := h
    refine ⟨_, (pss_one (ps_ret (pe_tup (pa_cons (pe_tupF (pa_cons pe_str (pa_cons pe_str (pa_cons pe_str pa_nil)))) (pa_cons (pe_tup (pa_cons (pe_tup (pa_cons pe_str (pa_cons pe_str (pa_cons pe_str (pa_cons pe_int (pa_cons pe_int pa_nil)))))) (pa_cons (pe_tup (pa_cons pe_str (pa_cons pe_str (pa_cons pe_str (pa_cons pe_int (pa_cons pe_int pa_nil)))))) (pa_cons (pe_tup (pa_cons pe_str (pa_cons pe_str (pa_cons pe_str (pa_cons (pv 0) (pa_cons pe_int pa_nil)))))) pa_nil)))) pa_nil))))), ?_⟩
    refine web_disp (K := K) (ws := wsF) (qs := qsF sp) (isw_tupF (K := K) (ac_cons ic_str (ac_cons ic_str (ac_cons ic_str ac_nil))) (by decide)) ?_ fun H' u s1 h1 => q H' u s1 h1
    have row : ∀ {a b c : Str} {t4 t5 : TE} {i j : Int} {σ : L2.St}, IsC K [] H t4 (.int i) σ → IsC K [] H t5 (.int j) σ → IsC K [] H (tTup (tCons (tC (.str a)) (tCons (tC (.str b)) (tCons (tC (.str c)) (tCons t4 (tCons t5 tNil)))))) (QD.d true ⟨a, b, c, i, j⟩) σ := fun h4 h5 => ic_tup (ac_cons ic_str (ac_cons ic_str (ac_cons ic_str (ac_cons h4 (ac_cons h5 ac_nil))))) (by show 5 ≤ 1000; decide)
    exact ic_tup (ac_cons (row ic_int ic_int) (ac_cons (row ic_int ic_int) (ac_cons (row (ic_var rfl (.int _)) ic_int) ac_nil))) (by show 3 ≤ 1000; decide)
def spDrawn (K : PySem.W.Frag) : Sp := fun vs H Q _ => ∃ (b : Addr) (s m : Nat) (h : Int) (bx : List V) (N : Nat), vs = [.ref b, .int (s : Int), .int (m : Int), .int h] ∧ H b = some (.lst bx) ∧ BoxL bx N ∧ N < 2 ^ 48 ∧ 2 ≤ s ∧ s ≤ 6 ∧ 1 ≤ m ∧ m ≤ 8 ∧ 1 ≤ h ∧ h ≤ 10 ^ 4 ∧
  ∀ (H' : Hp) (v : V) (ws : List Str) (qs : List QD) (bx' : List V), ws.Nodup → NetG ws qs → ws ≠ [] → 1 ≤ qs.length → ws.length ≤ 6 → qs.length ≤ 8 → (∀ x ∈ ws, PyData.strOk x = true) → (∀ q ∈ qs, nmOk q.nm = true ∧ 1 ≤ q.gap ∧ q.gap ≤ q.room ∧ q.room ≤ 10 ^ 6) → Dp K (cutS [b] H') v (netD true ws qs) → H' b = some (.lst bx') → BoxL bx' (N + 400) → Same (cutS [b] H) (cutS [b] H') → Q v H'
end
end Jl

set_option Elab.async false
set_option linter.all false
set_option maxRecDepth 100000
set_option maxHeartbeats 1000000
set_option pp.maxSteps 300
namespace Jl
open PySem PySem.Spec PyProof.Rows L2
open Evl (sz_of sz_lt)
local macro_rules | `(tactic| walk_at "at") => `(tactic| first | exact box0 | exact box1 | exact box2)
local macro_rules | `(tactic| walk_at "sq") => `(tactic| first | (show SqL _ _ _ _; assumption) | (show SqT _ _ _ _; assumption) | (show _ = some _; assumption))
local macro_rules | `(tactic| walk_at "side") => `(tactic| first
  | (show (0 : Int) < _; decide)
  | (show (0 : Int) < _; omega)
  | exact ⟨by decide, by decide, by decide⟩
  | exact sz_of (Nat.le_of_ble_eq_true rfl)
  | exact rfl
  | exact Or.inl (by decide)
  | exact Or.inr (by decide)
  | exact Or.inr ⟨by omega, by omega⟩
  | exact Or.inl ⟨by omega, by omega⟩
  | exact ⟨by decide, by decide +kernel⟩)
local macro_rules | `(tactic| walk_at "ev1") => `(tactic| first
  | refine ⟨_, rfl, ?_⟩
  | refine ⟨_, _, rfl, rfl, ?_⟩
  | refine ⟨_, _, _, _, rfl, rfl, (by walk_at "sq"), (by walk_at "at"), ?_⟩
  | refine ⟨_, _, rfl, (by walk_at "sq"), ?_⟩
  | refine ⟨_, _, rfl, Or.inl (by walk_at "sq"), ?_⟩
  | refine ⟨_, _, rfl, Or.inr (by walk_at "sq"), ?_⟩
  | refine Or.inl ⟨_, rfl, ?_⟩
  | refine Or.inr ⟨_, rfl, ?_⟩
  | refine ⟨(by walk_at "side"), ?_⟩
  | refine ⟨.inl ⟨rfl, _, (by walk_at "sq")⟩, ?_⟩
  | refine ⟨_, _, rfl, ?_⟩)
local macro_rules | `(tactic| walk_at "nrm") => `(tactic| dsimp only [tNil, tCons, tC, tCB])
local macro_rules | `(tactic| walk_at "ev") => `(tactic| repeat (walk_at "ev1"))
abbrev sc_w_drawn_N : List Str := ["_law_box_here", "_law_size_so", "_law_most", "_law_high"]
abbrev s_w_drawn : Stmt := topS 29
theorem sc_w_drawn : FnScope ["_law_box_here", "_law_size_so", "_law_most", "_law_high"] ["_law_box_here", "_law_size_so", "_law_most", "_law_high"] (defScope s_w_drawn) := ⟨rfl, rfl, rfl, by decide +kernel, rfl, by decide +kernel, by decide +kernel⟩
section
variable {P : Program} {w : World} {K : PySem.W.Frag} {mg : Str → Option Value} {base : Heap}
theorem ok_w_drawn {f fT fW fV : Addr} {fd fdT fdW fdV : FuncData} {k : Nat} (F : Fun K "_law_drawn" "_law_drawn" s_w_drawn f fd)
    (G_w_take : FnOk P w K mg base CX0 k fT fdT ["_law_box_here", "_law_below"] spTake2) (g_w_take : mg "_law_take" = some (.ref fT)) (F_w_take : Fun K "_law_take" "_law_take" s_w_take fT fdT) (b_w_take : Binds K fdT ["_law_box_here", "_law_below"] [])
    (G_w_twin_web : FnOk P w K mg base CX0 k fW fdW ["_law_box_here", "_law_high"] (spTwin K)) (g_w_twin_web : mg "_law_twin_web" = some (.ref fW)) (F_w_twin_web : Fun K "_law_twin_web" "_law_twin_web" s_w_twin_web fW fdW) (b_w_twin_web : Binds K fdW ["_law_box_here", "_law_high"] [])
    (G_w_web : FnOk P w K mg base CX0 k fV fdV ["_law_box_here", "_law_size_so", "_law_most", "_law_high"] (spWeb K)) (g_w_web : mg "_law_web" = some (.ref fV)) (F_w_web : Fun K "_law_web" "_law_web" s_w_web fV fdV) (b_w_web : Binds K fdV ["_law_box_here", "_law_size_so", "_law_most", "_law_high"] []) : FnOk P w K mg base CX0 (k + 1) f fd ["_law_box_here", "_law_size_so", "_law_most", "_law_high"] (spDrawn K) := by
  refine F.ok sc_w_drawn (fun vs H Q E h => ?_) (fun cdv A outer s0 H vs Q E hr h => ?_)
  · obtain ⟨b, s, m, h9, bx, N, rfl, _⟩ := h
    rfl
  · obtain ⟨b, s, m, h9, bx, N, rfl, hb, hB, hN, c1, c2, c3, c4, c5, c6, q⟩ := h
    refine ⟨_, (pss_one (ps_ret (pe_ifExp (pt_cmpR op_eq (pe_call G_w_take hr (by rfl) g_w_take F_w_take.kp b_w_take .nil pass0 (pa_cons (pv 0) (pa_cons pe_int pa_nil))) pe_int (nomark _)) (pe_call G_w_twin_web hr (by rfl) g_w_twin_web F_w_twin_web.kp b_w_twin_web .nil pass0 (pa_cons (pv 0) (pa_cons (pv 3) pa_nil))) (pe_call G_w_web hr (by rfl) g_w_web F_w_web.kp b_w_web .nil pass0 (pa_cons (pv 0) (pa_cons (pv 1) (pa_cons (pv 2) (pa_cons (pv 3) pa_nil)))))))), ?_⟩
    walk_at "ev"
    refine ⟨b, 3, bx, N, rfl, hb, hB, by omega, by decide, small8000 ⟨by decide, by decide⟩, fun r bx1 r0 r1 hB1 => ?_⟩
    have hb1 : (upd H b (.lst bx1)) b = some (.lst bx1) := upd_same
    have e1 : cutS [b] (upd H b (.lst bx1)) = cutS [b] H := cutS_upd List.mem_cons_self
    rw [← e1] at q
    generalize upd H b (.lst bx1) = H1 at hb1 q ⊢
    walk_at "ev"
    by_cases e0 : r = 0
    · rw [show decide (V.int r = V.int 0) = true from decide_eq_true (by rw [e0])]
      refine iteT ?_
      walk_at "ev"
      refine ⟨b, h9, bx1, _, rfl, hb1, hB1, by omega, by omega, by omega, fun H2 v ws qs bx2 hN2 hD hT hb2 hB2 hS2 => ?_⟩
      obtain ⟨n1, n2, n3, n4, n5, n6, n7, n8, ms, mt⟩ := hN2
      exact q H2 v ws qs bx2 n1.wn n5 (List.ne_nil_of_mem ms) n2 (by omega) (by omega) n1.ok (fun x hx => ⟨n8 x hx, n3 x hx⟩) hD hb2 (hB2.mono (by omega)) hS2
    · rw [show decide (V.int r = V.int 0) = false from decide_eq_false fun z => e0 (V.int.inj z)]
      refine iteF ?_
      walk_at "ev"
      refine ⟨b, s, m, h9, bx1, _, rfl, hb1, hB1, by omega, by omega, by omega, by omega, by omega, by omega, by omega, fun H2 v ws qs bx2 hg hD hT hb2 hB2 hS2 => ?_⟩
      have w2 := hg.w2
      have wl := hg.wl
      have ql := hg.ql
      have nms : ∀ x ∈ qs.map QD.nm, x ∈ poolQ := by
        obtain ⟨l, _, _, hl, k, e⟩ := hg.qn
        rw [e]
        exact fun x hx => hl x (List.mem_of_mem_take hx)
      have nnd : (qs.map QD.nm).Nodup := by
        obtain ⟨l, hl, _, _, k, e⟩ := hg.qn
        rw [e]
        exact hl.sublist (List.take_sublist k l)
      refine q H2 v ws qs bx2 hg.wn ⟨fun x hx => ⟨(hg.qq x hx).1, (hg.qq x hx).2.1, (hg.qq x hx).2.2.1⟩, nnd⟩ (fun z => by rw [z] at w2; exact absurd w2 (by decide)) hg.q1 (by omega) (by omega) (fun x hx => (by decide +kernel : ∀ x ∈ poolW, PyData.strOk x = true) x (hg.wp x hx)) (fun x hx => ⟨(by decide +kernel : ∀ x ∈ poolQ, nmOk x = true) _ (nms _ (List.mem_map_of_mem hx)), ?_⟩) hD hb2 (hB2.mono (by omega)) hS2
      obtain ⟨_, _, _, z4, z5, z6⟩ := hg.qq x hx
      exact ⟨z4, z5, by omega⟩
end
end Jl

set_option Elab.async false
set_option linter.all false
set_option maxRecDepth 100000
set_option maxHeartbeats 1000000
set_option pp.maxSteps 300
namespace Jl
open PySem PySem.Spec PyProof.Rows L2
open Evl (sz_of sz_lt)
local macro_rules | `(tactic| walk_at "at") => `(tactic| first | exact box0 | exact box1 | exact box2)
local macro_rules | `(tactic| walk_at "sq") => `(tactic| first | (show SqL _ _ _ _; assumption) | (show SqT _ _ _ _; assumption) | (show _ = some _; assumption))
local macro_rules | `(tactic| walk_at "side") => `(tactic| first
  | (show (0 : Int) < _; decide)
  | (show (0 : Int) < _; omega)
  | exact ⟨by decide, by decide, by decide⟩
  | exact sz_of (Nat.le_of_ble_eq_true rfl)
  | exact rfl
  | exact Or.inl (by decide)
  | exact Or.inr (by decide)
  | exact Or.inr ⟨by omega, by omega⟩
  | exact Or.inl ⟨by omega, by omega⟩
  | exact ⟨by decide, by decide +kernel⟩)
local macro_rules | `(tactic| walk_at "ev1") => `(tactic| first
  | refine ⟨_, rfl, ?_⟩
  | refine ⟨_, _, rfl, rfl, ?_⟩
  | refine ⟨_, _, _, _, rfl, rfl, (by walk_at "sq"), (by walk_at "at"), ?_⟩
  | refine ⟨_, _, rfl, (by walk_at "sq"), ?_⟩
  | refine ⟨_, _, rfl, Or.inl (by walk_at "sq"), ?_⟩
  | refine ⟨_, _, rfl, Or.inr (by walk_at "sq"), ?_⟩
  | refine Or.inl ⟨_, rfl, ?_⟩
  | refine Or.inr ⟨_, rfl, ?_⟩
  | refine ⟨(by walk_at "side"), ?_⟩
  | refine ⟨.inl ⟨rfl, _, (by walk_at "sq")⟩, ?_⟩
  | refine ⟨_, _, rfl, ?_⟩)
local macro_rules | `(tactic| walk_at "nrm") => `(tactic| dsimp only [tNil, tCons, tC, tCB])
local macro_rules | `(tactic| walk_at "ev") => `(tactic| repeat (walk_at "ev1"))
/-! ### what is asked of a kept exception, and of classes -/
theorem ic_xk {K : PySem.W.Frag} {H0 : Hp} {σ : L2.St} {i : Nat} {v : V} {C : Addr} {fn x : Str} (hi : σ[i]? = some (some v)) (h : ExcAt H0 v C fn (.str x)) : IsC K [] H0 (tXk C fn (tVar i)) (.str x) σ := fun H Q e _ q => ⟨_, hi, _, h.same e, q H _ (fun _ _ e => e) (.str x)⟩
theorem is_k {K : PySem.W.Frag} {H : Hp} {Q : VK} {v c : V} {C : Addr} {fn : Str} {y : V} {cv : Value} {b : Bool} (h : ExcAt H v C fn y) (T : XcI K C) (hc : ∀ u, RelV c u → u = cv) (hk : PySem.W.kitOne K (.ref C) cv = some b) (q : Q (.bl b) H) : rIsK K [v, c] H Q := ⟨v, c, C, fn, y, cv, b, rfl, h, T, hc, hk, q⟩
/-- a class, asked in an except clause or by isinstance -/
structure XcC (K : PySem.W.Frag) (C : Addr) : Prop where
  ci : PySem.W.isClsIn K C = true
  ty : PySem.W.typeIn K (.ref C) = some (.type "type")
  ex : PySem.W.subIn K (.ref C) (.type "BaseException") = some true
theorem kitCls_ref {K : PySem.W.Frag} {C : Addr} {t : Value} {b : Bool} (T : XcC K C) (h : PySem.W.subIn K t (.ref C) = some b) : PySem.W.kitCls K t (.ref C) = some b := by
  have h1 : (PySem.W.clsIn K C).isSome = true := T.ci
  have e2 : ((PySem.W.clsIn K C).isSome && PySem.W.typeIn K (.ref C) == some (.type "type")) = true := by
    rw [h1, T.ty] <;> rfl
  show (if ((PySem.W.clsIn K C).isSome && PySem.W.typeIn K (.ref C) == some (.type "type")) = true then PySem.W.subIn K t (.ref C) else none) = some b
  rw [if_pos e2]
  exact h
theorem exmOne_ref {K : PySem.W.Frag} {C : Addr} {t : Value} {b : Bool} (T : XcC K C) (h : PySem.W.subIn K t (.ref C) = some b) : PySem.W.exmOne K t (.ref C) = some b := by
  have e1 : (PySem.W.subIn K (.ref C) (.type "BaseException") == some true) = true := by rw [T.ex] <;> rfl
  show (if (PySem.W.subIn K (.ref C) (.type "BaseException") == some true) = true then PySem.W.kitCls K t (.ref C) else none) = some b
  rw [if_pos e1]
  exact kitCls_ref T h
theorem exmAny_one {K : PySem.W.Frag} {t c : Value} {r : List Value} {b d : Bool} (h : PySem.W.exmOne K t c = some b) (hr : PySem.W.exmAny K t r = some d) : PySem.W.exmAny K t (c :: r) = some (b || d) := by
  show (match PySem.W.exmOne K t c, PySem.W.exmAny K t r with
    | some b, some d => some (b || d)
    | _, _ => none) = some (b || d)
  rw [h, hr]
theorem exmAny_nil {K : PySem.W.Frag} {t : Value} : PySem.W.exmAny K t [] = some false := rfl
theorem kitOne_self {K : PySem.W.Frag} {t : Value} : PySem.W.kitOne K t t = some true := if_pos (beq_self_eq_true t)
theorem kitOne_ref {K : PySem.W.Frag} {C D : Addr} {b : Bool} (hne : C ≠ D) (T : XcC K D) (h : PySem.W.subIn K (.ref C) (.ref D) = some b) : PySem.W.kitOne K (.ref C) (.ref D) = some b := by
  unfold PySem.W.kitOne
  rw [if_neg (fun z => hne (Value.ref.inj (beq_iff_eq.mp z)))]
  exact kitCls_ref T h
theorem kitOne_ty {K : PySem.W.Frag} {C : Addr} {T : String} {b : Bool} (hm : PySem.W.kitMeta T = true) (h : PySem.W.subIn K (.ref C) (.type T) = some b) : PySem.W.kitOne K (.ref C) (.type T) = some b := by
  unfold PySem.W.kitOne
  rw [if_neg (fun z => by cases beq_iff_eq.mp z)]
  show (if PySem.W.kitMeta T = true then PySem.W.subIn K (.ref C) (.type T) else none) = some b
  rw [if_pos hm]
  exact h
theorem ne_of_sub {K : PySem.W.Frag} {C D : Addr} (h : PySem.W.subIn K (.ref C) (.ref D) = some false) (h2 : PySem.W.subIn K (.ref D) (.ref D) = some true) : C ≠ D := fun z => by
  rw [z, h2] at h
  cases h
theorem ic_isK {K : PySem.W.Frag} {H0 : Hp} {σ : L2.St} {i : Nat} {v c : V} {C : Addr} {fn : Str} {y : V} {cv : Value} {b : Bool} (hi : σ[i]? = some (some v)) (h : ExcAt H0 v C fn y) (T : XcI K C) (hc : ∀ u, RelV c u → u = cv) (hk : PySem.W.kitOne K (.ref C) cv = some b) : IsC K [] H0 (tCB (rIsK K) (tCons (tVar i) (tCons (tC c) tNil))) (.bool b) σ := fun H Q e _ q =>
  ⟨_, hi, is_k (h.same e) T hc hk (q H _ (fun _ _ e => e) (.bl _))⟩
theorem ic_xkI {K : PySem.W.Frag} {H0 : Hp} {σ : L2.St} {i : Nat} {v : V} {C : Addr} {fn : Str} {n : Int} (hi : σ[i]? = some (some v)) (h : ExcAt H0 v C fn (.int n)) : IsC K [] H0 (tXk C fn (tVar i)) (.int n) σ := fun H Q e _ q => ⟨_, hi, _, h.same e, q H _ (fun _ _ e => e) (.int n)⟩
/-- caught: the exception stands in the heap -/
theorem caught_at {H H' : Hp} {a dx C : Addr} {fn : Str} {y : V} (s : Same H H') (hdx : H' dx = some (.xd [(fn, y)])) (ha : H' a = none) : Same H (upd H' a (exk a (.ref C) (some dx))) ∧ ExcAt (upd H' a (exk a (.ref C) (some dx))) (.ref a) C fn y := by
  have nd : dx ≠ a := fun z => by
    rw [z, ha] at hdx
    cases hdx
  exact ⟨s.trans (.upd ha), a, dx, rfl, upd_same, by rw [upd_ne nd]; exact hdx⟩
end Jl

set_option Elab.async false
set_option linter.all false
set_option maxRecDepth 100000
set_option maxHeartbeats 1000000
set_option pp.maxSteps 300
namespace Jl
open PySem PySem.Spec PyProof.Rows L2
open Evl (sz_of sz_lt)
local macro_rules | `(tactic| walk_at "at") => `(tactic| first | exact box0 | exact box1 | exact box2)
local macro_rules | `(tactic| walk_at "sq") => `(tactic| first | (show SqL _ _ _ _; assumption) | (show SqT _ _ _ _; assumption) | (show _ = some _; assumption))
local macro_rules | `(tactic| walk_at "side") => `(tactic| first
  | (show (0 : Int) < _; decide)
  | (show (0 : Int) < _; omega)
  | exact ⟨by decide, by decide, by decide⟩
  | exact sz_of (Nat.le_of_ble_eq_true rfl)
  | exact rfl
  | exact Or.inl (by decide)
  | exact Or.inr (by decide)
  | exact Or.inr ⟨by omega, by omega⟩
  | exact Or.inl ⟨by omega, by omega⟩
  | exact ⟨by decide, by decide +kernel⟩)
local macro_rules | `(tactic| walk_at "ev1") => `(tactic| first
  | refine ⟨_, rfl, ?_⟩
  | refine ⟨_, _, rfl, rfl, ?_⟩
  | refine ⟨_, _, _, _, rfl, rfl, (by walk_at "sq"), (by walk_at "at"), ?_⟩
  | refine ⟨_, _, rfl, (by walk_at "sq"), ?_⟩
  | refine ⟨_, _, rfl, Or.inl (by walk_at "sq"), ?_⟩
  | refine ⟨_, _, rfl, Or.inr (by walk_at "sq"), ?_⟩
  | refine Or.inl ⟨_, rfl, ?_⟩
  | refine Or.inr ⟨_, rfl, ?_⟩
  | refine ⟨(by walk_at "side"), ?_⟩
  | refine ⟨.inl ⟨rfl, _, (by walk_at "sq")⟩, ?_⟩
  | refine ⟨_, _, rfl, ?_⟩)
local macro_rules | `(tactic| walk_at "nrm") => `(tactic| dsimp only [tNil, tCons, tC, tCB])
local macro_rules | `(tactic| walk_at "ev") => `(tactic| repeat (walk_at "ev1"))
/-! ### keywords in any order -/
def gP {α : Type} (π : List Nat) (us ws : List α) : List α := match us with
  | [] => π.filterMap fun i => ws[i]?
  | _ => []
theorem vals_at : ∀ {zs : List V} {ws : List Value}, Vals zs ws → ∀ i : Nat, (zs[i]? = none ∧ ws[i]? = none) ∨ ∃ z w, zs[i]? = some z ∧ ws[i]? = some w ∧ RelV z w
  | _, _, .nil, i => .inl ⟨rfl, rfl⟩
  | _, _, .cons r h, 0 => .inr ⟨_, _, rfl, rfl, r⟩
  | _, _, .cons r h, i + 1 => by
    rw [List.getElem?_cons_succ, List.getElem?_cons_succ]
    exact vals_at h i
theorem vals_pick {zs : List V} {ws : List Value} (h : Vals zs ws) : ∀ π : List Nat, Vals (π.filterMap fun i => zs[i]?) (π.filterMap fun i => ws[i]?)
  | [] => .nil
  | i :: π => by
    rw [List.filterMap_cons, List.filterMap_cons]
    rcases vals_at h i with ⟨e1, e2⟩ | ⟨z, w, e1, e2, r⟩
    · rw [e1, e2]
      exact vals_pick h π
    · rw [e1, e2]
      exact .cons r (vals_pick h π)
theorem vals_gP {π : List Nat} {vs : List V} {us : List Value} {zs : List V} {ws : List Value} (h : Vals vs us) (h2 : Vals zs ws) : Vals (gP π vs zs) (gP π us ws) := by
  cases h with
  | cons _ _ => exact .nil
  | nil => exact vals_pick h2 π
abbrev gP_10 {α : Type} (us ws : List α) : List α := gP [1, 0] us ws
abbrev gP_1230 {α : Type} (us ws : List α) : List α := gP [1, 2, 3, 0] us ws
/-! ### what expressions make, and what tests say -/
def noneD : PyData → Bool
  | .none => true
  | _ => false
theorem dp_none {K : PySem.W.Frag} {H : Hp} {v : V} {d : PyData} (h : Dp K H v d) : decide (v = V.non) = noneD d := by
  cases h <;> rfl
def IsT (S : List Addr) (H0 : Hp) (tt : TT) (b : Bool) (σ : L2.St) : Prop := ∀ (H : Hp) (R : Bool → Hp → Prop), Same H0 H → Trk S H → (∀ H', Same H H' → R b H') → tt σ H R
section
variable {K : PySem.W.Frag} {S : List Addr} {H0 : Hp} {σ : L2.St} {te ta tb : TE} {tt tu : TT} {d : PyData} {ds es : List PyData}
theorem ic_v {i : Nat} {v : V} (hi : σ[i]? = some (some v)) (hd : Dp K H0 v d) : IsC K [] H0 (tVar i) d σ := ic_var hi (by rw [cutS_nil]; exact hd)
theorem ic_and {a b : Bool} (h1 : IsC K S H0 ta (.bool a) σ) (h2 : a = true → IsC K S H0 tb (.bool b) σ) : IsC K S H0 (tAndV ta tb) (.bool (a && b)) σ := fun H Q e tr q => h1 H _ e tr fun H1 v s1 d1 => by
  cases d1
  refine ⟨a, rfl, ?_⟩
  cases a with
  | false => exact iteF (q H1 _ s1 (.bl _))
  | true =>
    refine iteT (h2 rfl H1 _ (e.trans s1) (tr.mono s1) fun H2 u s2 d2 => ?_)
    cases d2
    exact q H2 _ (s1.trans s2) (.bl _)
theorem ic_or {a b : Bool} (h1 : IsC K S H0 ta (.bool a) σ) (h2 : a = false → IsC K S H0 tb (.bool b) σ) : IsC K S H0 (tOrV ta tb) (.bool (a || b)) σ := fun H Q e tr q => h1 H _ e tr fun H1 v s1 d1 => by
  cases d1
  refine ⟨a, rfl, ?_⟩
  cases a with
  | true => exact iteT (q H1 _ s1 (.bl _))
  | false =>
    refine iteF (h2 rfl H1 _ (e.trans s1) (tr.mono s1) fun H2 u s2 d2 => ?_)
    cases d2
    exact q H2 _ (s1.trans s2) (.bl _)
theorem ic_notV {a : Bool} (h1 : IsC K S H0 ta (.bool a) σ) : IsC K S H0 (tNotV ta) (.bool (!a)) σ := fun H Q e tr q => h1 H _ e tr fun H1 v s1 d1 => by
  cases d1
  exact ⟨a, rfl, q H1 _ s1 (.bl _)⟩
theorem ic_isN (h1 : IsC K S H0 te d σ) : IsC K S H0 (tOp (fun x y H Q => y = V.non ∧ Q (V.bl (decide (x = V.non))) H) te (tC .non)) (.bool (noneD d)) σ := fun H Q e tr q => h1 H _ e tr fun H1 v s1 d1 => by
  refine ⟨rfl, ?_⟩
  rw [dp_none d1]
  exact q H1 _ s1 (.bl _)
theorem ic_notN (h1 : IsC K S H0 te d σ) : IsC K S H0 (tOp (fun x y H Q => y = V.non ∧ Q (V.bl (!decide (x = V.non))) H) te (tC .non)) (.bool (!noneD d)) σ := fun H Q e tr q => h1 H _ e tr fun H1 v s1 d1 => by
  refine ⟨rfl, ?_⟩
  rw [dp_none d1]
  exact q H1 _ s1 (.bl _)
theorem ic_rI0 {g : Int → Int → V} {h : Int → Int → PyData} {i j : Int} (hg : ∀ H, Dp K H (g i j) (h i j)) (h1 : IsC K S H0 ta (.int i) σ) (h2 : IsC K S H0 tb (.int j) σ) : IsC K S H0 (tOp (rI0 g) ta tb) (h i j) σ := fun H Q e tr q => h1 H _ e tr fun H1 v s1 d1 => h2 H1 _ (e.trans s1) (tr.mono s1) fun H2 u s2 d2 => by
  cases d1
  cases d2
  exact ⟨_, _, rfl, rfl, q H2 _ (s1.trans s2) (hg _)⟩
theorem ic_leI {i j : Int} (h1 : IsC K S H0 ta (.int i) σ) (h2 : IsC K S H0 tb (.int j) σ) : IsC K S H0 (tOp (rI0 fun i j => .bl (decide (i ≤ j))) ta tb) (.bool (decide (i ≤ j))) σ := ic_rI0 (h := fun i j => .bool (decide (i ≤ j))) (fun _ => .bl _) h1 h2
theorem ic_geI {i j : Int} (h1 : IsC K S H0 ta (.int i) σ) (h2 : IsC K S H0 tb (.int j) σ) : IsC K S H0 (tOp (rI0 fun i j => .bl (decide (j ≤ i))) ta tb) (.bool (decide (j ≤ i))) σ := ic_rI0 (h := fun i j => .bool (decide (j ≤ i))) (fun _ => .bl _) h1 h2
theorem ic_ltI {i j : Int} (h1 : IsC K S H0 ta (.int i) σ) (h2 : IsC K S H0 tb (.int j) σ) : IsC K S H0 (tOp (rI0 fun i j => .bl (decide (i < j))) ta tb) (.bool (decide (i < j))) σ := ic_rI0 (h := fun i j => .bool (decide (i < j))) (fun _ => .bl _) h1 h2
theorem ic_gtI {i j : Int} (h1 : IsC K S H0 ta (.int i) σ) (h2 : IsC K S H0 tb (.int j) σ) : IsC K S H0 (tOp (rI0 fun i j => .bl (decide (j < i))) ta tb) (.bool (decide (j < i))) σ := ic_rI0 (h := fun i j => .bool (decide (j < i))) (fun _ => .bl _) h1 h2
theorem ic_subI {i j : Int} (h1 : IsC K S H0 ta (.int i) σ) (h2 : IsC K S H0 tb (.int j) σ) : IsC K S H0 (tOp (rI0 fun i j => .int (i - j)) ta tb) (.int (i - j)) σ := ic_rI0 (h := fun i j => .int (i - j)) (fun _ => .int _) h1 h2
theorem ic_addI {i j : Int} (h1 : IsC K S H0 ta (.int i) σ) (h2 : IsC K S H0 tb (.int j) σ) : IsC K S H0 (tOp (rI0 fun i j => .int (i + j)) ta tb) (.int (i + j)) σ := ic_rI0 (h := fun i j => .int (i + j)) (fun _ => .int _) h1 h2
theorem ic_max2 {i j : Int} (h1 : IsC K S H0 ta (.int i) σ) (h2 : IsC K S H0 tb (.int j) σ) : IsC K S H0 (tCB (fun xs H Q => ∃ i j, xs = [.int i, .int j] ∧ Q (.int (if j > i then j else i)) H) (tCons ta (tCons tb tNil))) (.int (max i j)) σ := fun H Q e tr q => h1 H _ e tr fun H1 v s1 d1 => h2 H1 _ (e.trans s1) (tr.mono s1) fun H2 u s2 d2 => by
  cases d1
  cases d2
  refine ⟨i, j, rfl, ?_⟩
  rw [show (if j > i then j else i) = max i j by split <;> omega]
  exact q H2 _ (s1.trans s2) (.int _)
theorem ic_min2 {i j : Int} (h1 : IsC K S H0 ta (.int i) σ) (h2 : IsC K S H0 tb (.int j) σ) : IsC K S H0 (tCB (fun xs H Q => ∃ i j, xs = [.int i, .int j] ∧ Q (.int (if j < i then j else i)) H) (tCons ta (tCons tb tNil))) (.int (min i j)) σ := fun H Q e tr q => h1 H _ e tr fun H1 v s1 d1 => h2 H1 _ (e.trans s1) (tr.mono s1) fun H2 u s2 d2 => by
  cases d1
  cases d2
  refine ⟨i, j, rfl, ?_⟩
  rw [show (if j < i then j else i) = min i j by split <;> omega]
  exact q H2 _ (s1.trans s2) (.int _)
theorem ic_isi {A : String} {r : Bool} (h1 : IsC K S H0 te d σ) (hk : ∀ t, t = tyD d → PySem.W.kitOne K (.type t) (.type A) = some r) : IsC K S H0 (tCB (rIsi K) (tCons te (tCons (tC (.ty A)) tNil))) (.bool r) σ := fun H Q e tr q => h1 H _ e tr fun H1 v s1 d1 => isi1 (cutS_le.dp d1) hk (q H1 _ s1 (.bl _))
theorem ic_len {f : Bool} (h : IsC K S H0 te (seqD f ds) σ) : IsC K S H0 (tCB (fun xs H Q => ∃ p ys, xs = [.ref p] ∧ (SqL K H p ys ∨ SqT K H p ys) ∧ Q (.int ys.length) H) (tCons te tNil)) (.int (ds.length : Nat)) σ := fun H Q e tr q => h H _ e tr fun H1 v s1 d1 => by
  obtain ⟨a, xs, rfl, ha, hx⟩ := Dp.seq_of d1
  refine ⟨a, xs, rfl, SqF.or (cutS_le.sqF ha), q H1 _ s1 ?_⟩
  rw [dpa_len hx]
  exact .int _
theorem ic_eqS {x y : Str} (h1 : IsC K S H0 ta (.str x) σ) (h2 : IsC K S H0 tb (.str y) σ) : IsC K S H0 (tOp rEq ta tb) (.bool (decide (x = y))) σ := fun H Q e tr q => h1 H _ e tr fun H1 v s1 d1 => h2 H1 _ (e.trans s1) (tr.mono s1) fun H2 u s2 d2 => by
  cases d1
  cases d2
  refine ⟨rfl, ?_⟩
  rw [show decide (V.str x = V.str y) = decide (x = y) by
    by_cases c : x = y
    · rw [decide_eq_true c, decide_eq_true (by rw [c])]
    · rw [decide_eq_false c, decide_eq_false (fun z => c (V.str.inj z))]]
  exact q H2 _ (s1.trans s2) (.bl _)
theorem ic_neB {x y : Bool} (h1 : IsC K S H0 ta (.bool x) σ) (h2 : IsC K S H0 tb (.bool y) σ) : IsC K S H0 (tOp rNe ta tb) (.bool (x != y)) σ := fun H Q e tr q => h1 H _ e tr fun H1 v s1 d1 => h2 H1 _ (e.trans s1) (tr.mono s1) fun H2 u s2 d2 => by
  cases d1
  cases d2
  refine ⟨rfl, ?_⟩
  rw [show (!decide (V.bl x = V.bl y)) = (x != y) by cases x <;> cases y <;> rfl]
  exact q H2 _ (s1.trans s2) (.bl _)
theorem ic_eqI {x y : Int} (h1 : IsC K S H0 ta (.int x) σ) (h2 : IsC K S H0 tb (.int y) σ) : IsC K S H0 (tOp rEq ta tb) (.bool (decide (x = y))) σ := fun H Q e tr q => h1 H _ e tr fun H1 v s1 d1 => h2 H1 _ (e.trans s1) (tr.mono s1) fun H2 u s2 d2 => by
  cases d1
  cases d2
  refine ⟨rfl, ?_⟩
  rw [show decide (V.int x = V.int y) = decide (x = y) by
    by_cases c : x = y
    · rw [decide_eq_true c, decide_eq_true (by rw [c])]
    · rw [decide_eq_false c, decide_eq_false (fun z => c (V.int.inj z))]]
  exact q H2 _ (s1.trans s2) (.bl _)
theorem ic_neI {x y : Int} (h1 : IsC K S H0 ta (.int x) σ) (h2 : IsC K S H0 tb (.int y) σ) : IsC K S H0 (tOp rNe ta tb) (.bool (!decide (x = y))) σ := fun H Q e tr q => h1 H _ e tr fun H1 v s1 d1 => h2 H1 _ (e.trans s1) (tr.mono s1) fun H2 u s2 d2 => by
  cases d1
  cases d2
  refine ⟨rfl, ?_⟩
  rw [show decide (V.int x = V.int y) = decide (x = y) by
    by_cases c : x = y
    · rw [decide_eq_true c, decide_eq_true (by rw [c])]
    · rw [decide_eq_false c, decide_eq_false (fun z => c (V.int.inj z))]]
  exact q H2 _ (s1.trans s2) (.bl _)
theorem ic_eqD {a b : PyData} (h1 : IsC K S H0 ta a σ) (h2 : IsC K S H0 tb b σ) (sh1 : SeqAt.shaped a = true) (sh2 : SeqAt.shaped b = true) : IsC K S H0 (tOp (rEqD K) ta tb) (.bool (PyData.eqv a b)) σ := fun H Q e tr q => h1 H _ e tr fun H1 v s1 d1 => h2 H1 _ (e.trans s1) (tr.mono s1) fun H2 u s2 d2 => by
  exact ⟨a, b, cutS_le.dp ((cutS_mono s2).dp d1), cutS_le.dp d2, sh1, sh2, q H2 _ (s1.trans s2) (.bl _)⟩
theorem ic_if {c : Bool} (ht : IsT S H0 tt c σ) (h1 : c = true → IsC K S H0 ta d σ) (h2 : c = false → IsC K S H0 tb d σ) : IsC K S H0 (tIf tt ta tb) d σ := fun H Q e tr q => ht H _ e tr fun H1 s1 => by
  cases c with
  | true => exact iteT (h1 rfl H1 Q (e.trans s1) (tr.mono s1) fun H2 v s2 d2 => q H2 v (s1.trans s2) d2)
  | false => exact iteF (h2 rfl H1 Q (e.trans s1) (tr.mono s1) fun H2 v s2 d2 => q H2 v (s1.trans s2) d2)
theorem ic_okeep {H1 : Hp} (h : IsC K S H0 te d σ) (e : Same H0 H1) : IsC K S H1 te d σ := fun H Q e2 tr q => h H Q (e.trans e2) tr q
theorem ic_b {a b : Bool} (h : IsC K S H0 te (.bool a) σ) (e : a = b) : IsC K S H0 te (.bool b) σ := e ▸ h
theorem ist_b {a b : Bool} (h : IsT S H0 tt a σ) (e : a = b) : IsT S H0 tt b σ := e ▸ h
theorem asg_one {i : Nat} {D : Ends} {H : Hp} (h : IsC K [] H te d σ) (q : ∀ H' v, Same H H' → Dp K H' v d → D.nx (σ.set i (some v)) H') : tAsg te (gName i) D σ H := h H _ (fun _ _ e => e) Trk.nil fun H' v s1 h1 => q H' v s1 (by rwa [cutS_nil] at h1)
/-! tests -/
theorem ist_cmp {b : Bool} (h : IsC K S H0 te (.bool b) σ) : IsT S H0 (tTest te) b σ := fun H R e tr r => h H _ e tr fun H1 v s1 d1 => by
  cases d1
  exact ⟨b, rfl, r H1 s1⟩
theorem ist_val {b : Bool} (h : IsC K S H0 te (.bool b) σ) : IsT S H0 (tB te) b σ := fun H R e tr r => h H _ e tr fun H1 v s1 d1 => by
  cases d1
  exact ⟨b, rfl, r H1 s1⟩
theorem ist_and {a b : Bool} (h1 : IsT S H0 tt a σ) (h2 : a = true → IsT S H0 tu b σ) : IsT S H0 (tAnd tt tu) (a && b) σ := fun H R e tr r => h1 H _ e tr fun H1 s1 => by
  cases a with
  | false => exact iteF (r H1 s1)
  | true => exact iteT (h2 rfl H1 R (e.trans s1) (tr.mono s1) fun H2 s2 => r H2 (s1.trans s2))
theorem ist_or {a b : Bool} (h1 : IsT S H0 tt a σ) (h2 : a = false → IsT S H0 tu b σ) : IsT S H0 (tOr tt tu) (a || b) σ := fun H R e tr r => h1 H _ e tr fun H1 s1 => by
  cases a with
  | true => exact iteT (r H1 s1)
  | false => exact iteF (h2 rfl H1 R (e.trans s1) (tr.mono s1) fun H2 s2 => r H2 (s1.trans s2))
theorem ist_not {a : Bool} (h1 : IsT S H0 tt a σ) : IsT S H0 (tNot tt) (!a) σ := fun H R e tr r => h1 H _ e tr fun H1 s1 => r H1 s1
theorem ist_yes : IsT S H0 tYes true σ := fun H R e tr r => r H fun _ _ e => e
/-- an if of which it is known where it goes -/
theorem if_ist {b : Bool} {H : Hp} {t u : TS} {D : Ends} (h : IsT [] H tt b σ) (q : ∀ H', Same H H' → if b = true then t D σ H' else u D σ H') : tIfS tt t u D σ H := h H _ (fun _ _ e => e) Trk.nil q
theorem if_no {H : Hp} {t u : TS} {D : Ends} (h : IsT [] H tt false σ) (q : ∀ H', Same H H' → u D σ H') : tIfS tt t u D σ H := h H _ (fun _ _ e => e) Trk.nil fun H' s => iteF (q H' s)
theorem ret_ic {H : Hp} {D : Ends} (h : IsC K [] H te d σ) (q : ∀ H' v, Same H H' → Dp K H' v d → D.rt v H') : tRet te D σ H := h H _ (fun _ _ e => e) Trk.nil fun H' v s1 h1 => q H' v s1 (by rwa [cutS_nil] at h1)
theorem ret_bl {H : Hp} {D : Ends} {b : Bool} (h : IsC K [] H te (.bool b) σ) (q : ∀ H', Same H H' → D.rt (.bl b) H') : tRet te D σ H := ret_ic h fun H' v s1 h1 => by
  cases h1
  exact q H' s1
/-- all(..) of a list of what is true or false -/
theorem ic_allL {bs : List Bool} (h : IsC K S H0 te (.list (bs.map PyData.bool)) σ) : IsC K S H0 (tCB (rAll K) (tCons te tNil)) (.bool (bs.all id)) σ := fun H Q e tr q => h H _ e tr fun H1 v s1 d1 => by
  obtain ⟨a, xs, rfl, ha, hx⟩ := Dp.seq_of (f := false) d1
  have e1 : ∀ {xs : List V} {bs : List Bool}, DpAll K (cutS S H1) xs (bs.map PyData.bool) → xs = bs.map V.bl := by
    intro xs bs
    induction bs generalizing xs with
    | nil => intro h; cases h; rfl
    | cons b bs ih =>
      intro h
      cases h with
      | cons h1 h2 =>
        cases h1
        rw [ih h2]
        rfl
  rw [e1 hx] at ha
  exact ⟨a, bs, rfl, cutS_le.sqL ha, q H1 _ s1 (.bl _)⟩
/-- same(x, y) of what makes the same -/
theorem ic_same {E : XK} (h1 : IsC K [] H0 ta d σ) (h2 : IsC K [] H0 tb d σ) (ok : okD 5 d) : IsC K [] H0 (tCall (spSame K 5) [] E (tCons ta (tCons tb tNil))) (.bool true) σ := fun H Q e tr q => same_ac (K := K) (d := d) (ac_cons (ic_okeep h1 e) (ac_cons (ic_okeep h2 e) ac_nil)) ok fun H' s => q H' _ s (.bl _)
theorem cutS_app {T : List Addr} {H : Hp} : cutS (T ++ S) H = cutS S (cutS T H) := by
  funext a
  unfold cutS
  by_cases h1 : a ∈ S
  · rw [if_pos h1, if_pos (List.mem_append_right _ h1)]
  · rw [if_neg h1]
    by_cases h2 : a ∈ T
    · rw [if_pos h2, if_pos (List.mem_append_left _ h2)]
    · rw [if_neg h2, if_neg (fun z => (List.mem_append.mp z).elim h2 h1)]
theorem trk_app {T : List Addr} {H : Hp} (h1 : Trk T H) (h2 : Trk S H) : Trk (T ++ S) H := fun a ha => (List.mem_append.mp ha).elim (h1 a) (h2 a)
/-- [e for x in a row of data if t]: what each makes -/
theorem ic_lcf {tl : TE} {j : Nat} {vs : List Nat} {fb : Bool} {α : Type} {tt : TT} (zs : List α) (f g : α → PyData) (t : α → Bool) (hl : IsC K S H0 tl (seqD fb (zs.map f)) σ) (ln : zs.length ≤ 4000000)
    (hw : ∀ x, wipe ((wipe σ vs).set j (some x)) vs = wipe σ vs)
    (ht : ∀ (z : α) (H1 : Hp) (x : V), z ∈ zs → Same H0 H1 → Dp K H1 x (f z) → IsT [] H1 tt (t z) ((wipe σ vs).set j (some x)))
    (he : ∀ (z : α) (H1 : Hp) (T : List Addr) (x : V), z ∈ zs → t z = true → Same H0 H1 → Same (cutS S H0) (cutS (T ++ S) H1) → Dp K (cutS (T ++ S) H1) x (f z) → IsC K (T ++ S) H1 te (g z) ((wipe σ vs).set j (some x))) : IsC K S H0 (tLcX (iSeq K tl) (gName j) tt te vs) (.list ((zs.filter t).map g)) σ := fun H Q e tr q => by
  refine lc_of ?_
  have core : ∀ (H1 : Hp) (a : Addr) (xs : List V) (J : It) (G : Hp → Prop), Same H H1 → (∀ H', Same H1 H' → G H') → DpAll K (cutS S H1) xs (zs.map f) → Walk J xs.length G (YAt xs) → ∀ D, H1 D = none → ∃ W : Nat → Nat → Hp → Prop, (∃ m, W 0 m (upd H1 D (.lst []))) ∧ ∀ i m H, W i m H →
      (J.stop i H ∧ Q (.ref D) H) ∨ (J.go i H ∧ ∃ Nx : Hp → Prop, (∀ H', Nx H' → ∃ m', m' < m ∧ W (i + 1) m' H') ∧ ∀ x H', J.yld i H x H' → gName j x (wipe σ vs) H' fun σ2 H2 => wipe σ2 vs = wipe σ vs ∧ tt σ2 H2 fun b H3 =>
        if b = true then te σ2 H3 fun y H4 => ∃ acc, H4 D = some (.lst acc) ∧ acc.length < sizeLine ∧ Nx (upd H4 D (.lst (acc ++ [y]))) else Nx H3) := fun H1 a xs J G s1 hG hd w => by
    have ll := dpa_len hd
    rw [List.length_map] at ll
    have t1 := e.trans s1
    refine lcg (K := K) (Q := Q) (H0 := H1) zs (fun x z => Dp K (cutS S H1) x (f z)) (fun H u z => Dp K (cutS S H) u (g z)) t (fun z σ2 => ∃ x, σ2 = (wipe σ vs).set j (some x) ∧ Dp K (cutS S H1) x (f z)) w ll hG (fun i H x H' y => ⟨y.1, fun z hz => ?_⟩) ln (fun H' H'' u z e' h => (cutS_mono e').dp h) (fun x z H2 R hz e1 hr r => r _ ⟨x, rfl, hr⟩ (hw x)) (fun z H2 σ2 hz e1 hB Q' q' => ?_) (fun z H2 σ2 T hz ht' e1 e2 trT hB hT Q' q' => ?_) (fun D ys H' s2 h0 h1 h2 => ?_)
    · obtain ⟨d, hd', h3⟩ := dpa_get hd y.2
      rw [List.getElem?_map, hz] at hd'
      cases hd'
      exact h3
    · obtain ⟨x, rfl, hr⟩ := hB
      exact ht z H2 x hz (t1.trans e1) (e1.dp (cutS_le.dp hr)) H2 _ (fun _ _ e => e) Trk.nil q'
    · obtain ⟨x, rfl, hr⟩ := hB
      have c1 : Same (cutS S H1) (cutS (T ++ S) H2) := by
        rw [cutS_app]
        exact cutS_mono e2
      refine he z H2 T x hz ht' (t1.trans e1) ((cutS_mono t1).trans c1) (c1.dp hr) H2 _ (fun _ _ e => e) (trk_app trT ((tr.mono s1).mono e1)) fun H3 u s3 d3 => q' H3 u s3 ?_
      rw [cutS_app] at d3
      exact d3
    · refine q H' (.ref D) (s1.trans s2) ?_
      have nD : D ∉ S := (tr.mono s1).out h0
      have h3 := a2_dpa (h := g) h2
      refine .lst (sql_of (by rw [cutS_out nD]; exact h1)) ((cutS_mono cutS_le).dpa h3)
  cases fb with
  | false => exact .inl (hl H _ e tr fun H1 v s1 d1 => by
      obtain ⟨a, xs, rfl, ha, hx⟩ := Dp.seq_of (f := false) d1
      have ha' : SqL K H1 a xs := cutS_le.sqL ha
      exact ⟨a, rfl, ⟨xs, ha'⟩, core H1 a xs _ _ s1 (fun H' e' => e'.sqL ha') hx walk_list⟩)
  | true => exact .inr (hl H _ e tr fun H1 v s1 d1 => by
      obtain ⟨a, xs, rfl, ha, hx⟩ := Dp.seq_of (f := true) d1
      have ha' : SqT K H1 a xs := cutS_le.sqT ha
      exact ⟨a, rfl, ⟨xs, ha'⟩, core H1 a xs _ _ s1 (fun H' e' => e'.sqT ha') hx walk_tup⟩)
/-- the same without a test -/
theorem ic_lc {tl : TE} {j : Nat} {vs : List Nat} {fb : Bool} {α : Type} (zs : List α) (f g : α → PyData) (hl : IsC K S H0 tl (seqD fb (zs.map f)) σ) (ln : zs.length ≤ 4000000)
    (hw : ∀ x, wipe ((wipe σ vs).set j (some x)) vs = wipe σ vs)
    (he : ∀ (z : α) (H1 : Hp) (T : List Addr) (x : V), z ∈ zs → Same H0 H1 → Same (cutS S H0) (cutS (T ++ S) H1) → Dp K (cutS (T ++ S) H1) x (f z) → IsC K (T ++ S) H1 te (g z) ((wipe σ vs).set j (some x))) : IsC K S H0 (tLcX (iSeq K tl) (gName j) tYes te vs) (.list (zs.map g)) σ := by
  have h := ic_lcf (K := K) (S := S) (H0 := H0) (te := te) zs f g (fun _ => true) hl ln hw (fun z H1 x _ _ _ => ist_yes) (fun z H1 T x hz _ => he z H1 T x hz)
  rw [List.filter_eq_self.mpr fun _ _ => rfl] at h
  exact h
/-- [e for x in range(..) if t] -/
theorem ic_lcr {wi : TI} {j : Nat} {vs : List Nat} {tt : TT} (lo : Int) (n : Nat) (g : Nat → PyData) (t : Nat → Bool) (hgo : ∀ (H : Hp) (R : It → Hp → Prop), Same H0 H → R (Itr lo n) H → wi σ H R) (ln : n ≤ 4000000)
    (hw : ∀ x, wipe ((wipe σ vs).set j (some x)) vs = wipe σ vs)
    (ht : ∀ (i : Nat) (H1 : Hp), i < n → Same H0 H1 → IsT [] H1 tt (t i) ((wipe σ vs).set j (some (.int (lo + (i : Nat))))))
    (he : ∀ (i : Nat) (H1 : Hp) (T : List Addr), i < n → t i = true → Same H0 H1 → Same (cutS S H0) (cutS (T ++ S) H1) → IsC K (T ++ S) H1 te (g i) ((wipe σ vs).set j (some (.int (lo + (i : Nat)))))) : IsC K S H0 (tLcX wi (gName j) tt te vs) (.list (((List.range n).filter t).map g)) σ := fun H Q e tr q => by
  refine lc_of (hgo H _ e ?_)
  refine lcg (K := K) (Q := Q) (H0 := H) (List.range n) (fun x (i : Nat) => x = .int (lo + (i : Nat))) (fun H u i => Dp K (cutS S H) u (g i)) t (fun i σ2 => σ2 = (wipe σ vs).set j (some (.int (lo + (i : Nat))))) walk_range (by rw [List.length_range]) (fun _ _ => trivial) (fun i H x H' y => ⟨y.1, fun z hz => ?_⟩) (by rw [List.length_range]; exact ln) (fun H' H'' u z e' h => (cutS_mono e').dp h) (fun x z H1 R hz e1 hr r => ?_) (fun z H1 σ2 hz e1 hB Q' q' => ?_) (fun z H2 σ2 T hz ht' e1 e2 trT hB hT Q' q' => ?_) (fun D ys H' s2 h0 h1 h2 => ?_)
  · have hi := (List.getElem?_eq_some_iff.mp hz).1
    rw [List.length_range] at hi
    rw [List.getElem?_range hi] at hz
    cases hz
    exact y.2
  · subst hr
    exact r _ rfl (hw _)
  · subst hB
    exact ht z H1 (List.mem_range.mp hz) (e.trans e1) H1 _ (fun _ _ e => e) Trk.nil q'
  · subst hB
    have c1 : Same (cutS S H) (cutS (T ++ S) H2) := by
      rw [cutS_app]
      exact cutS_mono e2
    refine he z H2 T (List.mem_range.mp hz) ht' (e.trans e1) ((cutS_mono e).trans c1) H2 _ (fun _ _ e => e) (trk_app trT (tr.mono e1)) fun H3 u s3 d3 => q' H3 u s3 ?_
    rw [cutS_app] at d3
    exact d3
  · refine q H' (.ref D) s2 ?_
    have nD : D ∉ S := tr.out h0
    have h3 := a2_dpa (h := g) h2
    exact .lst (sql_of (by rw [cutS_out nD]; exact h1)) ((cutS_mono cutS_le).dpa h3)
end
end Jl

set_option Elab.async false
set_option linter.all false
set_option maxRecDepth 100000
set_option maxHeartbeats 1000000
set_option pp.maxSteps 300
namespace Jl
open PySem PySem.Spec PyProof.Rows L2
open Evl (sz_of sz_lt)
local macro_rules | `(tactic| walk_at "at") => `(tactic| first | exact box0 | exact box1 | exact box2)
local macro_rules | `(tactic| walk_at "sq") => `(tactic| first | (show SqL _ _ _ _; assumption) | (show SqT _ _ _ _; assumption) | (show _ = some _; assumption))
local macro_rules | `(tactic| walk_at "side") => `(tactic| first
  | (show (0 : Int) < _; decide)
  | (show (0 : Int) < _; omega)
  | exact ⟨by decide, by decide, by decide⟩
  | exact sz_of (Nat.le_of_ble_eq_true rfl)
  | exact rfl
  | exact Or.inl (by decide)
  | exact Or.inr (by decide)
  | exact Or.inr ⟨by omega, by omega⟩
  | exact Or.inl ⟨by omega, by omega⟩
  | exact ⟨by decide, by decide +kernel⟩)
local macro_rules | `(tactic| walk_at "ev1") => `(tactic| first
  | refine ⟨_, rfl, ?_⟩
  | refine ⟨_, _, rfl, rfl, ?_⟩
  | refine ⟨_, _, _, _, rfl, rfl, (by walk_at "sq"), (by walk_at "at"), ?_⟩
  | refine ⟨_, _, rfl, (by walk_at "sq"), ?_⟩
  | refine ⟨_, _, rfl, Or.inl (by walk_at "sq"), ?_⟩
  | refine ⟨_, _, rfl, Or.inr (by walk_at "sq"), ?_⟩
  | refine Or.inl ⟨_, rfl, ?_⟩
  | refine Or.inr ⟨_, rfl, ?_⟩
  | refine ⟨(by walk_at "side"), ?_⟩
  | refine ⟨.inl ⟨rfl, _, (by walk_at "sq")⟩, ?_⟩
  | refine ⟨_, _, rfl, ?_⟩)
local macro_rules | `(tactic| walk_at "nrm") => `(tactic| dsimp only [tNil, tCons, tC, tCB])
local macro_rules | `(tactic| walk_at "ev") => `(tactic| repeat (walk_at "ev1"))
theorem okD_up : ∀ {n : Nat} {d : PyData}, okD n d → okD (n + 1) d
  | 0, _, h => absurd h id
  | n + 1, .list ds, h => ⟨h.1, fun d hd => okD_up (h.2 d hd)⟩
  | n + 1, .tuple ds, h => ⟨h.1, fun d hd => okD_up (h.2 d hd)⟩
  | n + 1, .none, _ => trivial
  | n + 1, .bool _, _ => trivial
  | n + 1, .int _, _ => trivial
  | n + 1, .str _, _ => trivial
def fitsB (o : Option (Option Int × Int)) (sp gp : Int) : Bool := match o with
  | none => false
  | some (none, l) => decide (l ≤ sp)
  | some (some n, l) => decide (gp ≤ n) && decide (l ≤ sp)
theorem fits_iff {o : Option (Option Int × Int)} {sp gp : Int} : fitsB o sp gp = true ↔ fitsF o sp gp := by
  unfold fitsB fitsF
  cases o with
  | none => exact ⟨(fun z => nomatch z), fun z => z.elim⟩
  | some p =>
    obtain ⟨n, l⟩ := p
    cases n with
    | none =>
      exact ⟨fun z => ⟨(fun _ h => nomatch h), of_decide_eq_true z⟩, fun z => decide_eq_true z.2⟩
    | some n =>
      dsimp only
      rw [Bool.and_eq_true, decide_eq_true_iff, decide_eq_true_iff]
      exact ⟨fun z => ⟨(fun x h => by cases h; exact z.1), z.2⟩, fun z => ⟨z.1 n rfl, z.2⟩⟩
theorem get_made {qs : List QD} {x : Str} {sp gp : Int} {i : Nat} : (madeQ qs x sp gp)[i]? = (qs[i]?).map fun q => if q.nm = x then putQ q sp gp else q := by
  unfold madeQ
  rw [List.getElem?_map]
theorem tch_made {qs : List QD} {x : Str} {sp gp : Int} {v : Str} {i : Nat} : tch (madeQ qs x sp gp) v i = tch qs v i := by
  unfold tch
  rw [get_made]
  cases qs[i]? with
  | none => rfl
  | some q =>
    dsimp only [Option.map]
    by_cases c : q.nm = x
    · rw [if_pos c]
      rfl
    · rw [if_neg c]
theorem far_made {qs : List QD} {x : Str} {sp gp : Int} {k : Mk} : far (madeQ qs x sp gp) k = far qs k := by
  unfold far
  rw [get_made]
  cases qs[k.1]? with
  | none => rfl
  | some q =>
    dsimp only [Option.map]
    by_cases c : q.nm = x
    · rw [if_pos c]
      rfl
    · rw [if_neg c]
theorem made_len {qs : List QD} {x : Str} {sp gp : Int} : (madeQ qs x sp gp).length = qs.length := by
  unfold madeQ
  rw [List.length_map]
theorem stp_made {qs : List QD} {x : Str} {sp gp : Int} {f : List (List Mk)} {o : List Gs} {a : Gs} : stp (madeQ qs x sp gp) f o a = stp qs f o a := by
  unfold stp touchN
  rw [made_len]
  have e1 : tch (madeQ qs x sp gp) (lsG a) = tch qs (lsG a) := funext fun i => tch_made
  have e2 : one (madeQ qs x sp gp) a = one qs a := by
    funext p k
    unfold one
    rw [far_made]
  rw [e1, e2]
theorem rn_made {qs : List QD} {x : Str} {sp gp : Int} {p : Ps} {g : List (List Mk)} (h : Rn qs p g) : Rn (madeQ qs x sp gp) p g := by
  induction h with
  | done f => exact .done _
  | next f o a g _ ih =>
    refine .next _ _ _ _ ?_
    rw [stp_made]
    exact ih
structure LimN (ws : List Str) (qs : List QD) (g : List (List Mk)) : Prop where
  nd : ws.Nodup
  ng : NetG ws qs
  h0 : ws ≠ []
  wl : ws.length ≤ 6
  ql : qs.length ≤ 8
  rn : Rn qs (startP ws) g
  gp : ∀ q ∈ qs, q.gap ≤ q.room
theorem LimN.nn {ws : List Str} {qs : List QD} {g : List (List Mk)} (h : LimN ws qs g) : NetN ws qs := ⟨h.nd, fun q hq => (h.ng.q1 q hq).2.2, by have := h.wl; omega, by have := h.ql; omega⟩
theorem LimN.rows {ws : List Str} {qs : List QD} {g : List (List Mk)} (h : LimN ws qs g) : ∀ r ∈ g, r.length ≤ 40 ∧ ∀ m ∈ r, m.1 < qs.length := fun r hr =>
  have n : NetR ws qs g := ⟨h.nd, h.ng, by have := h.wl; omega, small_68 h.wl h.ql, h.rn⟩
  ⟨(n.rows.1 r hr).2.1, (n.rows.1 r hr).2.2⟩
theorem LimN.any {ws : List Str} {qs : List QD} {g : List (List Mk)} (h : LimN ws qs g) {z : QD} (hz : z ∈ qs) {sp gp : Int} (h1 : 1 ≤ gp) (h2 : gp ≤ sp) : (!(badR (madeQ qs z.nm sp gp) g).isEmpty) = !fitsB (limF ws qs z) sp gp := by
  have e := never_rings h.nd (made_G h.ng (x := z.nm) (sp := sp) (gp := gp)) h.h0 (rn_made h.rn) fun q hq => by
    obtain ⟨o, ho, rfl⟩ := List.mem_map.mp hq
    split
    · exact h2
    · exact h.gp o ho
  rw [← e]
  have e2 := lim_fits h.nd h.ng h.h0 hz h1 h2
  rw [← fits_iff] at e2
  congr 1
  exact Bool.eq_iff_iff.mpr e2
section
variable {K : PySem.W.Frag} {H0 : Hp} {σ : L2.St}
/-- the pair of limits, asked in a test of room and notice -/
theorem ic_fits {o : Option (Option Int × Int)} {sp gp : Int} {ti tg ts : TE} (h : IsC K [] H0 ti (limD o) σ) (hg : IsC K [] H0 tg (.int gp) σ) (hs : IsC K [] H0 ts (.int sp) σ) :
    IsC K [] H0 (tAndV (tOp (fun x y H Q => y = V.non ∧ Q (V.bl (!decide (x = V.non))) H) ti (tC .non)) (tAndV (tOrV (tOp (fun x y H Q => y = V.non ∧ Q (V.bl (decide (x = V.non))) H) (tOp (rIxF K) ti (tC (.int 0))) (tC .non)) (tOp (rI0 fun i j => .bl (decide (i ≤ j))) tg (tOp (rIxF K) ti (tC (.int 0))))) (tOp (rI0 fun i j => .bl (decide (j ≤ i))) ts (tOp (rIxF K) ti (tC (.int 1)))))) (.bool (fitsB o sp gp)) σ := by
  cases o with
  | none => exact ic_and (a := false) (b := true) (ic_notN h) (fun z => nomatch z)
  | some p =>
    obtain ⟨n, l⟩ := p
    have h : IsC K [] H0 ti (seqD true [optD n, .int l]) σ := h
    have e0 : IsC K [] H0 (tOp (rIxF K) ti (tC (.int 0))) (optD n) σ := ic_at 0 h rfl
    have e1 : IsC K [] H0 (tOp (rIxF K) ti (tC (.int 1))) (.int l) σ := ic_at 1 h rfl
    refine ic_and (a := true) (b := fitsB (some (n, l)) sp gp) (ic_notN h) fun _ => ?_
    cases n with
    | none => exact ic_and (a := true) (b := decide (l ≤ sp)) (ic_or (a := true) (b := true) (ic_isN e0) fun z => nomatch z) fun _ => ic_geI hs e1
    | some n => exact ic_and (a := decide (gp ≤ n)) (b := decide (l ≤ sp)) (ic_or (a := false) (b := decide (gp ≤ n)) (ic_isN e0) fun _ => ic_leI hg e0) fun _ => ic_geI hs e1
end
end Jl

set_option Elab.async false
set_option linter.all false
set_option maxRecDepth 100000
set_option maxHeartbeats 1000000
set_option pp.maxSteps 300
namespace Jl
open PySem PySem.Spec PyProof.Rows L2
open Evl (sz_of sz_lt)
local macro_rules | `(tactic| walk_at "at") => `(tactic| first | exact box0 | exact box1 | exact box2)
local macro_rules | `(tactic| walk_at "sq") => `(tactic| first | (show SqL _ _ _ _; assumption) | (show SqT _ _ _ _; assumption) | (show _ = some _; assumption))
local macro_rules | `(tactic| walk_at "side") => `(tactic| first
  | (show (0 : Int) < _; decide)
  | (show (0 : Int) < _; omega)
  | exact ⟨by decide, by decide, by decide⟩
  | exact sz_of (Nat.le_of_ble_eq_true rfl)
  | exact rfl
  | exact Or.inl (by decide)
  | exact Or.inr (by decide)
  | exact Or.inr ⟨by omega, by omega⟩
  | exact Or.inl ⟨by omega, by omega⟩
  | exact ⟨by decide, by decide +kernel⟩)
local macro_rules | `(tactic| walk_at "ev1") => `(tactic| first
  | refine ⟨_, rfl, ?_⟩
  | refine ⟨_, _, rfl, rfl, ?_⟩
  | refine ⟨_, _, _, _, rfl, rfl, (by walk_at "sq"), (by walk_at "at"), ?_⟩
  | refine ⟨_, _, rfl, (by walk_at "sq"), ?_⟩
  | refine ⟨_, _, rfl, Or.inl (by walk_at "sq"), ?_⟩
  | refine ⟨_, _, rfl, Or.inr (by walk_at "sq"), ?_⟩
  | refine Or.inl ⟨_, rfl, ?_⟩
  | refine Or.inr ⟨_, rfl, ?_⟩
  | refine ⟨(by walk_at "side"), ?_⟩
  | refine ⟨.inl ⟨rfl, _, (by walk_at "sq")⟩, ?_⟩
  | refine ⟨_, _, rfl, ?_⟩)
local macro_rules | `(tactic| walk_at "nrm") => `(tactic| dsimp only [tNil, tCons, tC, tCB])
local macro_rules | `(tactic| walk_at "ev") => `(tactic| repeat (walk_at "ev1"))
section
variable {X : Cx} {o e : Expr} {es : List Expr} {to : TE} {t : TA} {name : Str} {apos cpos : Pos} {T id : String} {r : V → List V → Hp → VK → Prop} {K : PySem.W.Frag}
/-- pe_bm where the program's frame is not the goal's own: in the suite of an except -/
theorem pe_bmK (eK : X.K = K) (pa : PlainAttrs T) (slot : Slot T name id) (hty : typeOf (.builtin id) = pure (.type "method_descriptor")) (hm : MtM X id r) (ho : PE X o to) (ha : PA X (e :: es) t)
    (hbase : attributeBase o name X.env (eval o X.env) = eval o X.env := by rfl)
    (hfew : ((backTo cpos (starEach (e :: es) X.env)).all (fun x => !x.1) && (backToKw cpos (keywordEach [] X.env)).all (fun x => x.1.isSome)
      && decide ((e :: es).length + ([] : List Keyword).length + (if ([] : List Keyword).isEmpty then 0 else 1) < 30)) = true := by rfl)
    (hline : (apos.endLine == cpos.line) = true := by rfl) (hs : starEach (e :: es) X.env = (false, eval e X.env) :: starEach es X.env := by rfl) (hplain : (backTo cpos (starEach es X.env)).any (·.1) = false := by rfl) :
    PE X (.Call (.Attribute o name apos) (e :: es) [] cpos) (tBM K T r to t) := by
  subst eK
  exact pe_bm pa slot hty hm ho ha hbase hfew hline hs hplain
end
theorem eqv_sh {d : PyData} (h : SeqAt.shaped d = true) : PyData.eqv d d = true := PySem.SeqAt.eqv_refl d (SeqAt.canLay_of_shaped h)
theorem shp_net {fb : Bool} {ws : List Str} {qs : List QD} (h1 : ∀ x ∈ ws, PyData.strOk x = true) (h2 : ∀ q ∈ qs, PyData.strOk q.nm = true) (h3 : ∀ q ∈ qs, q.st ∈ ws ∧ q.en ∈ ws) : SeqAt.shaped (netD fb ws qs) = true := by
  have c : ∀ {f : Bool} {ds : List PyData}, (∀ d ∈ ds, d.canLay0 = true ∧ d.depth ≤ 8) → (seqD f ds).canLay0 = true ∧ (seqD f ds).depth ≤ 9 := fun h => ⟨can_seq fun d hd => (h d hd).1, dep_seq fun d hd => (h d hd).2⟩
  have cs : ∀ {f : Bool} {ds : List PyData} {n : Nat}, (∀ d ∈ ds, d.canLay0 = true ∧ d.depth ≤ n) → (seqD f ds).canLay0 = true ∧ (seqD f ds).depth ≤ n + 1 := fun h => ⟨can_seq fun d hd => (h d hd).1, dep_seq fun d hd => (h d hd).2⟩
  have st : ∀ {x : Str}, PyData.strOk x = true → (PyData.str x).canLay0 = true ∧ (PyData.str x).depth ≤ 0 := fun {x} h => ⟨by simpa [PyData.canLay0] using h, by simp [PyData.depth]⟩
  have it : ∀ {i : Int}, (PyData.int i).canLay0 = true ∧ (PyData.int i).depth ≤ 0 := fun {i} => ⟨by simp [PyData.canLay0], by simp [PyData.depth]⟩
  have e1 : (seqD fb (ws.map PyData.str)).canLay0 = true ∧ (seqD fb (ws.map PyData.str)).depth ≤ 1 := cs fun d hd => by
    obtain ⟨x, hx, rfl⟩ := List.mem_map.mp hd
    exact st (h1 x hx)
  have e2 : (seqD fb (qs.map (QD.d fb))).canLay0 = true ∧ (seqD fb (qs.map (QD.d fb))).depth ≤ 2 := cs fun d hd => by
    obtain ⟨q, hq, rfl⟩ := List.mem_map.mp hd
    obtain ⟨k1, k2⟩ := h3 q hq
    refine cs (n := 0) fun d hd => ?_
    rcases mem5 hd with rfl | rfl | rfl | rfl | rfl
    · exact st (h2 q hq)
    · exact st (h1 _ k1)
    · exact st (h1 _ k2)
    · exact it
    · exact it
  have e3 : (netD fb ws qs).canLay0 = true ∧ (netD fb ws qs).depth ≤ 3 := cs (n := 2) fun d hd => by
    rcases mem2 hd with rfl | rfl
    · exact ⟨e1.1, by omega⟩
    · exact e2
  exact shaped_of e3.1 (by omega)
/-- [e for x in range(..)] where e draws -/
theorem lc_box {K : PySem.W.Frag} {wi : TI} {te : TE} {j : Nat} {vs : List Nat} {σ : L2.St} {H : Hp} {Q : VK} {α : Type} {b : Addr} {bx : List V} {N : Nat} (f : α → PyData) (Good : α → Prop) (lo : Int) (n c : Nat)
    (hgo : ∀ R : It → Hp → Prop, R (Itr lo n) H → wi σ H R) (hn : n ≤ 1000) (hb : H b = some (.lst bx)) (hB : BoxL bx N) (hf : ∀ z, tupD (f z) = true)
    (hw : ∀ x, wipe ((wipe σ vs).set j (some x)) vs = wipe σ vs)
    (he : ∀ (i : Nat) (H2 : Hp) (bx2 : List V), i < n → H2 b = some (.lst bx2) → BoxL bx2 (N + c * i) → Same (cutS [b] H) (cutS [b] H2) → ∀ Q' : VK, (∀ (H3 : Hp) (u : V) (z : α) (bx3 : List V), Good z → Dp K (cutS [b] H3) u (f z) → H3 b = some (.lst bx3) → BoxL bx3 (N + c * i + c) → Same (cutS [b] H2) (cutS [b] H3) → Q' u H3) → te ((wipe σ vs).set j (some (.int (lo + (i : Nat))))) H2 Q')
    (q : ∀ (D : Addr) (ys : List V) (zs : List α) (H' : Hp) (bx' : List V), H D = none → H' D = some (.lst ys) → zs.length = n → (∀ z ∈ zs, Good z) → DpAll K (cutS [D] (cutS [b] H')) ys (zs.map f) → H' b = some (.lst bx') → BoxL bx' (N + c * n) → Same (cutS [b] H) (cutS [b] H') → Q (.ref D) H') : tLcX wi (gName j) tYes te vs σ H Q := by
  refine lc_of (hgo _ fun D hD => ?_)
  have nDb : D ≠ b := fun z => by
    rw [z, hb] at hD
    cases hD
  have swp : ∀ {H3 : Hp} {o : HO}, cutS [b] (upd H3 D o) = upd (cutS [b] H3) D o := fun {H3 o} => by
    funext a
    by_cases h1 : a = D
    · rw [h1, upd_same, cutS_out (not1 nDb), upd_same]
    · rw [upd_ne h1]
      by_cases h2 : a = b
      · rw [h2, cutS_in List.mem_cons_self, cutS_in List.mem_cons_self]
      · rw [cutS_out (not1 h2), cutS_out (not1 h2), upd_ne h1]
  have keep : ∀ {H3 : Hp} {o : HO}, Same (cutS [b] H) (cutS [b] H3) → Same (cutS [b] H) (cutS [b] (upd H3 D o)) := fun {H3 o} e a x ha => by
    have hD' : cutS [b] H D = none := cutS_none hD
    rw [swp, upd_ne (fun z => by rw [z, hD'] at ha; cases ha)]
    exact e a x ha
  refine lc_it (walk_range (lo := lo) (n := n)) (Qd := fun H => Q (.ref D) H) (fun i H1 => ∃ (ys : List V) (zs : List α) (bx1 : List V), H1 D = some (.lst ys) ∧ zs.length = i ∧ (∀ z ∈ zs, Good z) ∧ DpAll K (cutS [D] (cutS [b] H1)) ys (zs.map f) ∧ H1 b = some (.lst bx1) ∧ BoxL bx1 (N + c * i) ∧ Same (cutS [b] H) (cutS [b] H1)) ⟨[], [], bx, upd_same, rfl, (fun _ h => absurd h List.not_mem_nil), .nil, (by rw [upd_ne nDb.symm]; exact hb), hB, keep fun _ _ e => e⟩ (fun _ _ _ _ => trivial) (fun i x H1 H1' hi p y => ?_) (fun H1 p => ?_)
  · obtain ⟨ys, zs, bx1, h1, h2, h3, h4, h5, h6, h7⟩ := p
    obtain ⟨rfl, rfl⟩ := y
    refine ⟨hw _, ?_⟩
    show tYes _ _ _
    dsimp only [tYes]
    rw [if_pos rfl]
    refine he i H1' bx1 hi h5 h6 h7 _ fun H3 u z bx3 g1 g2 g3 g4 g5 => ?_
    have hD3 : cutS [b] H3 D = some (.lst ys) := g5 _ _ (by rw [cutS_out (not1 nDb)]; exact h1)
    refine ⟨ys, cutS_le _ _ hD3, ?_, ys ++ [u], zs ++ [z], bx3, upd_same, by rw [List.length_append, h2]; rfl, fun y hy => ?_, ?_, ?_, ?_, ?_⟩
    · rw [dpa_len h4, List.length_map, h2]
      exact szL (by omega)
    · rcases List.mem_append.mp hy with h | h
      · exact h3 y h
      · rw [List.mem_singleton.mp h]
        exact g1
    · rw [swp, cutS_upd List.mem_cons_self, List.map_append]
      exact dpa_app ((cutS_mono g5).dpa h4) (.cons (dpT_cut ⟨D, ys, rfl, hD3⟩ _ _ (hf z) g2) .nil)
    · rw [upd_ne nDb.symm]
      exact g3
    · exact g4.mono (by rw [Nat.mul_succ]; omega)
    · exact keep (h7.trans g5)
  · obtain ⟨ys, zs, bx1, h1, h2, h3, h4, h5, h6, h7⟩ := p
    exact q D ys zs H1 bx1 hD h1 h2 h3 h4 h5 h6 h7
structure GoodW (ws : List Str) (qs : List QD) : Prop where
  nd : ws.Nodup
  ng : NetG ws qs
  h0 : ws ≠ []
  q1 : 1 ≤ qs.length
  wl : ws.length ≤ 6
  ql : qs.length ≤ 8
  wok : ∀ x ∈ ws, PyData.strOk x = true
  qok : ∀ q ∈ qs, nmOk q.nm = true ∧ 1 ≤ q.gap ∧ q.gap ≤ q.room ∧ q.room ≤ 10 ^ 6
theorem GoodW.lim {ws : List Str} {qs : List QD} (h : GoodW ws qs) : ∃ g, LimN ws qs g ∧ NetR ws qs g := by
  obtain ⟨g, hR⟩ := Rn.total h.ng _ (startP ws) (Nat.lt_succ_self _) start_ok
  exact ⟨g, ⟨h.nd, h.ng, h.h0, h.wl, h.ql, hR, fun q hq => (h.qok q hq).2.2.1⟩, ⟨h.nd, h.ng, by have := h.wl; omega, small_68 h.wl h.ql, hR⟩⟩
theorem limF_low {ws : List Str} {qs : List QD} {z : QD} {n : Option Int} {l : Int} (h : limF ws qs z = some (n, l)) : 1 ≤ l ∧ ∀ x, n = some x → 1 ≤ x := by
  unfold limF at h
  split at h
  · cases h
  · split at h
    · cases h
      exact ⟨by decide, fun _ z => nomatch z⟩
    · split at h
      · cases h
      · cases h
        exact ⟨by omega, fun x e => by cases e; omega⟩
theorem limD_sh (o : Option (Option Int × Int)) : SeqAt.shaped (limD o) = true := by
  cases o with
  | none => decide
  | some p =>
    obtain ⟨n, l⟩ := p
    cases n <;> exact shaped_of (by simp [limD, optD, PyData.canLay0, PyData.canLayAll0]) (by simp [limD, optD, PyData.depth, PyData.depthAll])
theorem limD_ok {n : Nat} (o : Option (Option Int × Int)) : okD (n + 2) (limD o) := by
  cases o with
  | none => exact trivial
  | some p =>
    obtain ⟨m, l⟩ := p
    refine ⟨by show 2 ≤ 4000000; decide, fun d hd => ?_⟩
    rcases mem2 hd with rfl | rfl
    · cases m <;> exact trivial
    · exact trivial
end Jl

set_option Elab.async false
set_option linter.all false
set_option maxRecDepth 100000
set_option maxHeartbeats 1000000
set_option pp.maxSteps 300
namespace Jl
open PySem PySem.Spec PyProof.Rows L2
open Evl (sz_of sz_lt)
local macro_rules | `(tactic| walk_at "at") => `(tactic| first | exact box0 | exact box1 | exact box2)
local macro_rules | `(tactic| walk_at "sq") => `(tactic| first | (show SqL _ _ _ _; assumption) | (show SqT _ _ _ _; assumption) | (show _ = some _; assumption))
local macro_rules | `(tactic| walk_at "side") => `(tactic| first
  | (show (0 : Int) < _; decide)
  | (show (0 : Int) < _; omega)
  | exact ⟨by decide, by decide, by decide⟩
  | exact sz_of (Nat.le_of_ble_eq_true rfl)
  | exact rfl
  | exact Or.inl (by decide)
  | exact Or.inr (by decide)
  | exact Or.inr ⟨by omega, by omega⟩
  | exact Or.inl ⟨by omega, by omega⟩
  | exact ⟨by decide, by decide +kernel⟩)
local macro_rules | `(tactic| walk_at "ev1") => `(tactic| first
  | refine ⟨_, rfl, ?_⟩
  | refine ⟨_, _, rfl, rfl, ?_⟩
  | refine ⟨_, _, _, _, rfl, rfl, (by walk_at "sq"), (by walk_at "at"), ?_⟩
  | refine ⟨_, _, rfl, (by walk_at "sq"), ?_⟩
  | refine ⟨_, _, rfl, Or.inl (by walk_at "sq"), ?_⟩
  | refine ⟨_, _, rfl, Or.inr (by walk_at "sq"), ?_⟩
  | refine Or.inl ⟨_, rfl, ?_⟩
  | refine Or.inr ⟨_, rfl, ?_⟩
  | refine ⟨(by walk_at "side"), ?_⟩
  | refine ⟨.inl ⟨rfl, _, (by walk_at "sq")⟩, ?_⟩
  | refine ⟨_, _, rfl, ?_⟩)
local macro_rules | `(tactic| walk_at "nrm") => `(tactic| dsimp only [tNil, tCons, tC, tCB])
local macro_rules | `(tactic| walk_at "ev") => `(tactic| repeat (walk_at "ev1"))
/-! ### comprehensions with any target -/
section
variable {K : PySem.W.Frag} {S : List Addr} {H0 : Hp} {σ : L2.St} {te ta tb tk tv : TE} {tt : TT} {d : PyData}
theorem ic_lcx {tl : TE} {g : TG} {vs : List Nat} {fb : Bool} {α : Type} (zs : List α) (f h : α → PyData) (t : α → Bool) (B : α → L2.St → Prop) (hl : IsC K S H0 tl (seqD fb (zs.map f)) σ) (ln : zs.length ≤ 4000000)
    (hg : ∀ (x : V) (z : α) (H1 : Hp) (R : L2.St → Hp → Prop), z ∈ zs → Dp K H1 x (f z) → (∀ σ2, B z σ2 → wipe σ2 vs = wipe σ vs → R σ2 H1) → g x (wipe σ vs) H1 R)
    (ht : ∀ (z : α) (H1 : Hp) (σ2 : L2.St), z ∈ zs → Same H0 H1 → B z σ2 → IsT [] H1 tt (t z) σ2)
    (he : ∀ (z : α) (H1 : Hp) (T : List Addr) (σ2 : L2.St), z ∈ zs → t z = true → Same H0 H1 → Same (cutS S H0) (cutS (T ++ S) H1) → B z σ2 → IsC K (T ++ S) H1 te (h z) σ2) : IsC K S H0 (tLcX (iSeq K tl) g tt te vs) (.list ((zs.filter t).map h)) σ := fun H Q e tr q => by
  refine lc_of ?_
  have core : ∀ (H1 : Hp) (a : Addr) (xs : List V) (J : It) (G : Hp → Prop), Same H H1 → (∀ H', Same H1 H' → G H') → DpAll K (cutS S H1) xs (zs.map f) → Walk J xs.length G (YAt xs) → ∀ D, H1 D = none → ∃ W : Nat → Nat → Hp → Prop, (∃ m, W 0 m (upd H1 D (.lst []))) ∧ ∀ i m H, W i m H →
      (J.stop i H ∧ Q (.ref D) H) ∨ (J.go i H ∧ ∃ Nx : Hp → Prop, (∀ H', Nx H' → ∃ m', m' < m ∧ W (i + 1) m' H') ∧ ∀ x H', J.yld i H x H' → g x (wipe σ vs) H' fun σ2 H2 => wipe σ2 vs = wipe σ vs ∧ tt σ2 H2 fun b H3 =>
        if b = true then te σ2 H3 fun y H4 => ∃ acc, H4 D = some (.lst acc) ∧ acc.length < sizeLine ∧ Nx (upd H4 D (.lst (acc ++ [y]))) else Nx H3) := fun H1 a xs J G s1 hG hd w => by
    have ll := dpa_len hd
    rw [List.length_map] at ll
    have t1 := e.trans s1
    refine lcg (K := K) (Q := Q) (H0 := H1) zs (fun x z => Dp K (cutS S H1) x (f z)) (fun H u z => Dp K (cutS S H) u (h z)) t B w ll hG (fun i H x H' y => ⟨y.1, fun z hz => ?_⟩) ln (fun H' H'' u z e' h => (cutS_mono e').dp h) (fun x z H2 R hz e1 hr r => hg x z H2 R hz (e1.dp (cutS_le.dp hr)) r) (fun z H2 σ2 hz e1 hB Q' q' => ht z H2 σ2 hz (t1.trans e1) hB H2 _ (fun _ _ e => e) Trk.nil q') (fun z H2 σ2 T hz ht' e1 e2 trT hB hT Q' q' => ?_) (fun D ys H' s2 h0 h1 h2 => ?_)
    · obtain ⟨d, hd', h3⟩ := dpa_get hd y.2
      rw [List.getElem?_map, hz] at hd'
      cases hd'
      exact h3
    · have c1 : Same (cutS S H1) (cutS (T ++ S) H2) := by
        rw [cutS_app]
        exact cutS_mono e2
      refine he z H2 T σ2 hz ht' (t1.trans e1) ((cutS_mono t1).trans c1) hB H2 _ (fun _ _ e => e) (trk_app trT ((tr.mono s1).mono e1)) fun H3 u s3 d3 => q' H3 u s3 ?_
      rw [cutS_app] at d3
      exact d3
    · refine q H' (.ref D) (s1.trans s2) ?_
      have nD : D ∉ S := (tr.mono s1).out h0
      have h3 := a2_dpa (h := h) h2
      refine .lst (sql_of (by rw [cutS_out nD]; exact h1)) ((cutS_mono cutS_le).dpa h3)
  cases fb with
  | false => exact .inl (hl H _ e tr fun H1 v s1 d1 => by
      obtain ⟨a, xs, rfl, ha, hx⟩ := Dp.seq_of (f := false) d1
      have ha' : SqL K H1 a xs := cutS_le.sqL ha
      exact ⟨a, rfl, ⟨xs, ha'⟩, core H1 a xs _ _ s1 (fun H' e' => e'.sqL ha') hx walk_list⟩)
  | true => exact .inr (hl H _ e tr fun H1 v s1 d1 => by
      obtain ⟨a, xs, rfl, ha, hx⟩ := Dp.seq_of (f := true) d1
      have ha' : SqT K H1 a xs := cutS_le.sqT ha
      exact ⟨a, rfl, ⟨xs, ha'⟩, core H1 a xs _ _ s1 (fun H' e' => e'.sqT ha') hx walk_tup⟩)
/-- what makes a new dict of texts and numbers -/
def IsDk (H0 : Hp) (t : TE) (m : List (Str × Int)) (σ : L2.St) : Prop := ∀ (H : Hp) (Q : VK), Same H0 H → (∀ H' d, Same H H' → H d = none → H' d = some (.dK (kvM V.int m)) → Q (.ref d) H') → t σ H Q
theorem isd_dc {tl : TE} {j : Nat} {vs : List Nat} {fb : Bool} {α : Type} (zs : List α) (f : α → PyData) (key : α → Str) (val : α → Int) (hl : IsC K [] H0 tl (seqD fb (zs.map f)) σ) (ln : zs.length ≤ 4000) (hnd : (zs.map key).Nodup)
    (hw : ∀ x, wipe ((wipe σ vs).set j (some x)) vs = wipe σ vs)
    (hk : ∀ (z : α) (H1 : Hp) (x : V), z ∈ zs → Same H0 H1 → Dp K H1 x (f z) → IsC K [] H1 tk (.str (key z)) ((wipe σ vs).set j (some x)))
    (hv : ∀ (z : α) (H1 : Hp) (x : V), z ∈ zs → Same H0 H1 → Dp K H1 x (f z) → IsC K [] H1 tv (.int (val z)) ((wipe σ vs).set j (some x))) : IsDk H0 (tDcX (iSeq K tl) (gName j) tYes tk tv vs) (zs.map fun z => (key z, val z)) σ := fun H Q e q => by
  refine dc_of ?_
  have core : ∀ (H1 : Hp) (a : Addr) (xs : List V) (J : It) (G : Hp → Prop), Same H H1 → (∀ H', Same H1 H' → G H') → DpAll K H1 xs (zs.map f) → Walk J xs.length G (YAt xs) → ∀ D, H1 D = none → ∃ W : Nat → Nat → Hp → Prop, (∃ m, W 0 m (upd H1 D (.dK []))) ∧ ∀ i m H, W i m H →
      (J.stop i H ∧ Q (.ref D) H) ∨ (J.go i H ∧ ∃ Nx : Hp → Prop, (∀ H', Nx H' → ∃ m', m' < m ∧ W (i + 1) m' H') ∧ ∀ x H', J.yld i H x H' → gName j x (wipe σ vs) H' fun σ2 H2 => wipe σ2 vs = wipe σ vs ∧ tYes σ2 H2 fun b H3 =>
        if b = true then tk σ2 H3 fun y H4 => tv σ2 H4 fun z H5 => ∃ kvs k, y = kV k ∧ H5 D = some (.dK kvs) ∧ kvs.length < sizeLine ∧ Nx (upd H5 D (.dK (putK kvs k z))) else Nx H3) := fun H1 a xs J G s1 hG hd w D hD => by
    have ll := dpa_len hd
    rw [List.length_map] at ll
    refine dc_it w (fun i H' => Same H1 H' ∧ H' D = some (.dK (kvM V.int ((zs.take i).map fun z => (key z, val z))))) ⟨.upd hD, upd_same⟩ (fun i H' _ p => hG _ p.1) (fun i x H2 H2' hi p y => ?_) (fun H' p => ?_)
    · obtain ⟨e1, h1⟩ := p
      obtain ⟨rfl, hv'⟩ := y
      obtain ⟨d', hd', hdx⟩ := dpa_get hd hv'
      rw [List.getElem?_map] at hd'
      cases hz : zs[i]? with
      | none =>
        rw [hz] at hd'
        cases hd'
      | some z =>
        rw [hz] at hd'
        cases hd'
        have hzm := List.mem_of_getElem? hz
        have ht : zs.take (i + 1) = zs.take i ++ [z] := by rw [List.take_add_one, hz]; rfl
        refine ⟨hw x, ?_⟩
        dsimp only [tYes]
        refine iteT ?_
        have t1 := (e.trans s1).trans e1
        refine hk z H2' x hzm t1 (e1.dp hdx) H2' _ (fun _ _ e => e) Trk.nil fun H3 y3 s3 d3 => ?_
        rw [cutS_nil] at d3
        cases d3
        refine hv z H3 x hzm (t1.trans s3) ((e1.trans s3).dp hdx) H3 _ (fun _ _ e => e) Trk.nil fun H4 y4 s4 d4 => ?_
        rw [cutS_nil] at d4
        cases d4
        have hno : key z ∉ ((zs.take i).map fun z => (key z, val z)).map (·.1) := fun hz2 => by
          rw [List.map_map] at hz2
          have hz2 : key z ∈ (zs.take i).map key := hz2
          rw [List.map_take] at hz2
          obtain ⟨k, hk1, hk2⟩ := List.mem_take_iff_getElem.mp hz2
          rw [List.length_map] at hk1
          have := nd_ix hnd (x := key z) (by rw [List.getElem?_map, hz]; rfl) (by rw [List.getElem?_eq_getElem (show k < (zs.map key).length by rw [List.length_map]; omega)]; exact congrArg some hk2)
          omega
        refine ⟨_, .inr (key z), rfl, s4 _ _ (s3 _ _ h1), ?_, ?_, ?_⟩
        · rw [kvM_len, List.length_map, List.length_take]
          exact szL (by omega)
        · exact ((e1.trans s3).trans s4).mut hD
        · rw [upd_same, put_kvM (f := V.int), ht]
          unfold putM
          rw [lk_none hno, List.map_append]
          rfl
    · obtain ⟨e1, h1⟩ := p
      rw [ll, List.take_length] at h1
      exact q H' D (s1.trans e1) (s1.free hD) h1
  cases fb with
  | false => exact .inl (hl H _ e Trk.nil fun H1 v s1 d1 => by
      rw [cutS_nil] at d1
      obtain ⟨a, xs, rfl, ha, hx⟩ := Dp.seq_of (f := false) d1
      have ha' : SqL K H1 a xs := ha
      exact ⟨a, rfl, ⟨xs, ha'⟩, core H1 a xs _ _ s1 (fun H' e' => e'.sqL ha') hx walk_list⟩)
  | true => exact .inr (hl H _ e Trk.nil fun H1 v s1 d1 => by
      rw [cutS_nil] at d1
      obtain ⟨a, xs, rfl, ha, hx⟩ := Dp.seq_of (f := true) d1
      have ha' : SqT K H1 a xs := ha
      exact ⟨a, rfl, ⟨xs, ha'⟩, core H1 a xs _ _ s1 (fun H' e' => e'.sqT ha') hx walk_tup⟩)
end
/-! ### max(xs, default=..) of whole numbers -/
section
variable {X : Cx}
def rMaxN (K : PySem.W.Frag) : List V → List V → Hp → VK → Prop := fun vs zs H Q => ∃ (a : Addr) (ns : List Int) (d : Int), vs = [V.ref a] ∧ zs = [V.int d] ∧ SqL K H a (ns.map V.int) ∧ (ns = [] → Q (.int d) H) ∧ ∀ n ms, ns = n :: ms → Q (.int (ms.foldl max n)) H
theorem maxD_ints (n : Int) : ∀ ns : List Int, PySem.W.maxD (.int n) (ns.map .int) = .int (ns.foldl max n) := by
  intro ns
  unfold PySem.W.maxD
  induction ns generalizing n with
  | nil => rfl
  | cons k r ih =>
    rw [List.map_cons, List.foldl_cons, List.foldl_cons, ← ih]
    (try dsimp only)
    rw [PySem.W.dataLt_int]
    have e : (if decide (n < k) = true then PyData.int k else PyData.int n) = .int (max n k) := by
      by_cases hk : n < k
      · rw [if_pos (decide_eq_true hk)]
        exact congrArg PyData.int (by omega)
      · rw [if_neg (by rw [decide_eq_false hk]; decide)]
        exact congrArg PyData.int (by omega)
    rw [e]
theorem ck_maxD (hc : X.calm = true) (hu : X.A.units + 64 < cLine) : CallRK X (.builtin "max") [Str.ofString "default"] (rMaxN X.K) := by
  intro pins s σ H vs zs us ws Q I r rz h
  obtain ⟨a, ns, d, rfl, rfl, hs, q0, q⟩ := h
  obtain rfl := Vals.ref1 r
  obtain ⟨w1, rfl, e1⟩ := vals1 rz
  obtain ⟨td, rfl⟩ := e1
  obtain ⟨its, rv, hl, hz⟩ := I.list hs
  obtain ⟨as, hr⟩ := reads_ints (h := s.heap) rv
  have hd0 : ∀ l : List Int, PyData.depthAll (l.map PyData.int) = 0 := fun l => by
    induction l with
    | nil => simp [PyData.depthAll]
    | cons x l ih => simp [PyData.depthAll, PyData.depth, ih]
  show wpAny _ _ (call (.builtin "max") [.ref a] [(Str.ofString "default", _)]) _ _ _
  refine PySem.W.max_list_default (vs := its.toArray) (I.ok.hd hc) hl.isList (by simpa using hr) ⟨fun x hx y hy => ?_, fun x hx => ?_⟩ (by rw [hd0]; omega) (fun e h' tk hk => ?_) (fun y ys i v h' tk bs e hv hrd hk => ?_)
  · obtain ⟨i, _, rfl⟩ := List.mem_map.mp hx
    obtain ⟨j, _, rfl⟩ := List.mem_map.mp hy
    simp [PySem.W.alike]
  · obtain ⟨i, _, rfl⟩ := List.mem_map.mp hx
    simp
  · have e0 : ns = [] := List.map_eq_nil_iff.mp e
    exact ⟨.int d, H, I.kept (t' := tk) hk, ⟨_, rfl⟩, q0 e0⟩
  · cases ns with
    | nil => cases e
    | cons n ms =>
      cases e
      rw [maxD_ints] at hrd
      cases hrd with
      | int i t => exact ⟨.int _, H, I.kept (t' := tk) hk, ⟨t, rfl⟩, q n ms rfl⟩
end
/-! ### the same rows with other rooms and notices -/
def duoQ (q : QD) : Str × Str := (q.st, q.en)
theorem get_duo {qs qs' : List QD} (e : qs'.map duoQ = qs.map duoQ) (i : Nat) : (qs'[i]?).map duoQ = (qs[i]?).map duoQ := by
  rw [← List.getElem?_map, ← List.getElem?_map, e]
theorem tch_duo {qs qs' : List QD} (e : qs'.map duoQ = qs.map duoQ) {v : Str} {i : Nat} : tch qs' v i = tch qs v i := by
  have h := get_duo e i
  unfold tch
  cases h1 : qs'[i]? with
  | none =>
    cases h2 : qs[i]? with
    | none => rfl
    | some q => rw [h1, h2] at h; cases h
  | some q' =>
    cases h2 : qs[i]? with
    | none => rw [h1, h2] at h; cases h
    | some q =>
      rw [h1, h2] at h
      have h3 : duoQ q' = duoQ q := Option.some.inj h
      have e1 : q'.st = q.st := congrArg Prod.fst h3
      have e2 : q'.en = q.en := congrArg Prod.snd h3
      dsimp only
      rw [e1, e2]
theorem far_duo {qs qs' : List QD} (e : qs'.map duoQ = qs.map duoQ) {k : Mk} : far qs' k = far qs k := by
  have h := get_duo e k.1
  unfold far
  cases h1 : qs'[k.1]? with
  | none =>
    cases h2 : qs[k.1]? with
    | none => rfl
    | some q => rw [h1, h2] at h; cases h
  | some q' =>
    cases h2 : qs[k.1]? with
    | none => rw [h1, h2] at h; cases h
    | some q =>
      rw [h1, h2] at h
      have h3 : duoQ q' = duoQ q := Option.some.inj h
      have e1 : q'.st = q.st := congrArg Prod.fst h3
      have e2 : q'.en = q.en := congrArg Prod.snd h3
      dsimp only
      rw [e1, e2]
theorem duo_len {qs qs' : List QD} (e : qs'.map duoQ = qs.map duoQ) : qs'.length = qs.length := by
  have := congrArg List.length e
  rwa [List.length_map, List.length_map] at this
theorem rn_duo {qs qs' : List QD} (e : qs'.map duoQ = qs.map duoQ) {p : Ps} {g : List (List Mk)} (h : Rn qs p g) : Rn qs' p g := by
  induction h with
  | done f => exact .done _
  | next f o a g _ ih =>
    refine .next _ _ _ _ ?_
    have e1 : stp qs' f o a = stp qs f o a := by
      unfold stp touchN
      rw [duo_len e]
      have e1 : tch qs' (lsG a) = tch qs (lsG a) := funext fun i => tch_duo e
      have e2 : one qs' a = one qs a := by
        funext p k
        unfold one
        rw [far_duo e]
      rw [e1, e2]
    rw [e1]
    exact ih
/-- greater notices only make rings cheaper -/
def tightQ (q q' : QD) : Prop := q'.st = q.st ∧ q'.en = q.en ∧ q'.room ≤ q.room ∧ q.gap ≤ q'.gap
theorem never_mono {ws : List Str} {qs qs' : List QD} (hn : ws.Nodup) (h0 : ws ≠ []) (hG : NetG ws qs) (hG' : NetG ws qs') (h : ∀ q ∈ qs, ∃ q' ∈ qs', tightQ q q') (hv : neverF ws qs' = true) : neverF ws qs = true := by
  obtain ⟨y, hy⟩ := (never_pot hn hG' h0).mp hv
  refine (never_pot hn hG h0).mpr ⟨y, pot_q.mpr fun q hq => ?_⟩
  obtain ⟨q', hq', k1, k2, k3, k4⟩ := h q hq
  obtain ⟨p1, p2⟩ := pot_q.mp hy q' hq'
  rw [k1, k2] at p1 p2
  have hw : (0 : Int) ≤ (ws.length : Nat) := Int.natCast_nonneg _
  have m1 : (ws.length : Int) * q'.room ≤ ws.length * q.room := Int.mul_le_mul_of_nonneg_left k3 hw
  have m2 : (ws.length : Int) * (1 - q'.gap) ≤ ws.length * (1 - q.gap) := Int.mul_le_mul_of_nonneg_left (by omega) hw
  exact ⟨by omega, by omega⟩
end Jl

set_option Elab.async false
set_option linter.all false
set_option maxRecDepth 100000
set_option maxHeartbeats 1000000
set_option pp.maxSteps 300
namespace Jl
open PySem PySem.Spec PyProof.Rows L2
open Evl (sz_of sz_lt)
local macro_rules | `(tactic| walk_at "at") => `(tactic| first | exact box0 | exact box1 | exact box2)
local macro_rules | `(tactic| walk_at "sq") => `(tactic| first | (show SqL _ _ _ _; assumption) | (show SqT _ _ _ _; assumption) | (show _ = some _; assumption))
local macro_rules | `(tactic| walk_at "side") => `(tactic| first
  | (show (0 : Int) < _; decide)
  | (show (0 : Int) < _; omega)
  | exact ⟨by decide, by decide, by decide⟩
  | exact sz_of (Nat.le_of_ble_eq_true rfl)
  | exact rfl
  | exact Or.inl (by decide)
  | exact Or.inr (by decide)
  | exact Or.inr ⟨by omega, by omega⟩
  | exact Or.inl ⟨by omega, by omega⟩
  | exact ⟨by decide, by decide +kernel⟩)
local macro_rules | `(tactic| walk_at "ev1") => `(tactic| first
  | refine ⟨_, rfl, ?_⟩
  | refine ⟨_, _, rfl, rfl, ?_⟩
  | refine ⟨_, _, _, _, rfl, rfl, (by walk_at "sq"), (by walk_at "at"), ?_⟩
  | refine ⟨_, _, rfl, (by walk_at "sq"), ?_⟩
  | refine ⟨_, _, rfl, Or.inl (by walk_at "sq"), ?_⟩
  | refine ⟨_, _, rfl, Or.inr (by walk_at "sq"), ?_⟩
  | refine Or.inl ⟨_, rfl, ?_⟩
  | refine Or.inr ⟨_, rfl, ?_⟩
  | refine ⟨(by walk_at "side"), ?_⟩
  | refine ⟨.inl ⟨rfl, _, (by walk_at "sq")⟩, ?_⟩
  | refine ⟨_, _, rfl, ?_⟩)
local macro_rules | `(tactic| walk_at "nrm") => `(tactic| dsimp only [tNil, tCons, tC, tCB])
local macro_rules | `(tactic| walk_at "ev") => `(tactic| repeat (walk_at "ev1"))
abbrev sc_changed_N : List Str := ["net", "notices", "queues", "name", "start", "end", "room", "notice"]
abbrev s_changed : Stmt := topS 12
theorem sc_changed : FnScope ["net", "notices", "queues", "name", "start", "end", "room", "notice"] ["net", "notices"] (defScope s_changed) := ⟨rfl, rfl, rfl, by decide +kernel, rfl, by decide +kernel, by decide +kernel⟩
def chgQ (m : List (Str × Int)) (qs : List QD) : List QD := qs.map fun q => ⟨q.nm, q.st, q.en, q.room, (lk m q.nm).getD q.gap⟩
def chgD (m : List (Str × Int)) (q : QD) : PyData := .tuple [.str q.nm, .str q.st, .str q.en, .int q.room, .int ((lk m q.nm).getD q.gap)]
section
variable {P : Program} {w : World} {K : PySem.W.Frag} {mg : Str → Option Value} {base : Heap}
def spChanged (K : PySem.W.Frag) : Sp := fun vs H Q _ => ∃ (v : V) (d : Addr) (fb : Bool) (ws : List Str) (qs : List QD) (m : List (Str × Int)), vs = [v, .ref d] ∧ Dp K H v (netD fb ws qs) ∧ H d = some (.dK (kvM V.int m)) ∧ qs.length ≤ 4000 ∧ ∀ H' u, Same H H' → Dp K H' u (netD true ws (chgQ m qs)) → Q u H'
theorem ok_changed {f : Addr} {fd : FuncData} {k : Nat} (F : Fun K "changed" "changed" s_changed f fd) (m_tuple : mg "tuple" = none) : FnOk P w K mg base CX0 (k + 1) f fd ["net", "notices"] (spChanged K) := by
  refine F.ok sc_changed (fun vs H Q E h => ?_) (fun cdv A outer s0 H vs Q E hr h => ?_)
  · obtain ⟨v, d, fb, ws, qs, m, rfl, _⟩ := h
    rfl
  · obtain ⟨v, d, fb, ws, qs, m, rfl, hD, hd, hl, q⟩ := h
    have hu := hu_of hr
    refine ⟨_, (pss_cons (ps_setLcX (ps_setLc (i := 2) (own := [("name", 3), ("start", 4), ("end", 5), ("room", 6), ("notice", 7)]) (g := gSeq K 5 (gCons (gName 3) (gCons (gName 4) (gCons (gName 5) (gCons (gName 6) (gCons (gName 7) gNil)))))) (tt := tYes) rfl sc_changed.nd rfl rfl (sw_true rfl rfl rfl (by decide +kernel)) (pi_seq (pe_ix ix_lt (pv 0) pe_int (fun _ _ => rfl))) (blkOk_by (own := [("name", 3), ("start", 4), ("end", 5), ("room", 6), ("notice", 7)]) (N := sc_changed_N) (sc := defScope s_changed) (by decide +kernel)) (fun _ _ _ _ _ => pg_seq (pg_tup rfl (pgs_cons (pg_name (i := 3) sc_changed.nd rfl (Or.inl rfl)) (pgs_cons (pg_name (i := 4) sc_changed.nd rfl (Or.inl rfl)) (pgs_cons (pg_name (i := 5) sc_changed.nd rfl (Or.inl rfl)) (pgs_cons (pg_name (i := 6) sc_changed.nd rfl (Or.inl rfl)) (pgs_cons (pg_name (i := 7) sc_changed.nd rfl (Or.inl rfl)) pgs_nil)))))) (pg_lst rfl (pgs_cons (pg_name (i := 3) sc_changed.nd rfl (Or.inl rfl)) (pgs_cons (pg_name (i := 4) sc_changed.nd rfl (Or.inl rfl)) (pgs_cons (pg_name (i := 5) sc_changed.nd rfl (Or.inl rfl)) (pgs_cons (pg_name (i := 6) sc_changed.nd rfl (Or.inl rfl)) (pgs_cons (pg_name (i := 7) sc_changed.nd rfl (Or.inl rfl)) pgs_nil))))))) (fun _ _ _ _ _ => pts_nil) (fun _ _ _ _ _ => (pe_tup (pa_cons (pv 3) (pa_cons (pv 4) (pa_cons (pv 5) (pa_cons (pv 6) (pa_cons (pe_dget2 hu (pv 1) (pv 3) (pv 7) ⟨by rfl, by rfl, by rfl, by rfl⟩) pa_nil))))))))) 
    (pss_one (ps_ret (pe_tup (pa_cons (pe_callTy call_tuple_of (by rfl) m_tuple (by decide +kernel) (pa_cons (pe_ix ix_lt (pv 0) pe_int (fun _ _ => rfl)) pa_nil)) (pa_cons (pe_callTy call_tuple_of (by rfl) m_tuple (by decide +kernel) (pa_cons (pv 2) pa_nil)) pa_nil)))))), ?_⟩
    rw [show L2.start sc_changed_N [v, .ref d] = [some v, some (.ref d), none, none, none, none, none, none] from rfl]
    have hD' : Dp K H v (seqD fb [seqD fb (ws.map PyData.str), seqD fb (qs.map (QD.d fb))]) := hD
    refine asg_ic (K := K) (d := .list ((qs.filter fun _ => true).map (chgD m))) (ic_lcx (K := K) (S := []) qs (QD.d fb) (chgD m) (fun _ => true) (fun q σ2 => σ2 = [some v, some (.ref d), none, some (.str q.nm), some (.str q.st), some (.str q.en), some (.int q.room), some (.int q.gap)]) (ic_at (fb := fb) 1 (ic_v rfl hD') rfl) (by omega) (fun x q' H1 R hq hx r => ?_) (fun _ _ _ _ _ _ => ist_yes) (fun q' H1 T σ2 hq _ e1 e2 hB => ?_)) fun H1 v1 s1 d1 => ?_
    · obtain ⟨aq, rfl, hs⟩ := dp_q hx
      exact gSeq_at hs rfl ⟨_, _, rfl, _, _, rfl, _, _, rfl, _, _, rfl, _, _, rfl, rfl, r _ rfl rfl⟩
    · subst hB
      refine ic_tup (ac_cons (ic_var rfl (.str _)) (ac_cons (ic_var rfl (.str _)) (ac_cons (ic_var rfl (.str _)) (ac_cons (ic_var rfl (.int _)) (ac_cons ?_ ac_nil))))) (show 5 ≤ 1000 by decide)
      intro H2 Q2 e3 tr q2
      have hd2 : H2 d = some (.dK (kvM V.int m)) := (e1.trans e3) _ _ hd
      have g1 : DGet H2 d (kV (.inr q'.nm)) ((lk m q'.nm).map V.int) := .inl ⟨_, .inr q'.nm, .inl hd2, rfl, by rw [val_kvM]⟩
      refine ⟨_, rfl, d, rfl, .inl ⟨_, .inl hd2⟩, _, rfl, _, rfl, _, g1, ?_⟩
      have e4 : ((lk m q'.nm).map V.int).getD (V.int q'.gap) = V.int ((lk m q'.nm).getD q'.gap) := by cases lk m q'.nm <;> rfl
      rw [e4]
      exact q2 H2 _ (fun _ _ e => e) (.int _)
    · dsimp only [List.set]
      refine ret_ic (K := K) (d := netD true ws (chgQ m qs)) (ic_tup (ds := [seqD true (ws.map PyData.str), seqD true ((chgQ m qs).map (QD.d true))]) (ac_cons (ic_tupA (ic_at (fb := fb) 0 (ic_v rfl (s1.dp hD')) rfl)) (ac_cons (ic_tupA (fb := false) (ic_v rfl ?_)) ac_nil)) (show 2 ≤ 1000 by decide)) fun H' u s2 d2 => q H' u (s1.trans s2) d2
      rw [List.filter_eq_self.mpr fun _ _ => rfl] at d1
      unfold chgQ
      rw [List.map_map]
      exact d1
end
end Jl

set_option Elab.async false
set_option linter.all false
set_option maxRecDepth 100000
set_option maxHeartbeats 1000000
set_option pp.maxSteps 300
namespace Jl
open PySem PySem.Spec PyProof.Rows L2
open Evl (sz_of sz_lt)
local macro_rules | `(tactic| walk_at "at") => `(tactic| first | exact box0 | exact box1 | exact box2)
local macro_rules | `(tactic| walk_at "sq") => `(tactic| first | (show SqL _ _ _ _; assumption) | (show SqT _ _ _ _; assumption) | (show _ = some _; assumption))
local macro_rules | `(tactic| walk_at "side") => `(tactic| first
  | (show (0 : Int) < _; decide)
  | (show (0 : Int) < _; omega)
  | exact ⟨by decide, by decide, by decide⟩
  | exact sz_of (Nat.le_of_ble_eq_true rfl)
  | exact rfl
  | exact Or.inl (by decide)
  | exact Or.inr (by decide)
  | exact Or.inr ⟨by omega, by omega⟩
  | exact Or.inl ⟨by omega, by omega⟩
  | exact ⟨by decide, by decide +kernel⟩)
local macro_rules | `(tactic| walk_at "ev1") => `(tactic| first
  | refine ⟨_, rfl, ?_⟩
  | refine ⟨_, _, rfl, rfl, ?_⟩
  | refine ⟨_, _, _, _, rfl, rfl, (by walk_at "sq"), (by walk_at "at"), ?_⟩
  | refine ⟨_, _, rfl, (by walk_at "sq"), ?_⟩
  | refine ⟨_, _, rfl, Or.inl (by walk_at "sq"), ?_⟩
  | refine ⟨_, _, rfl, Or.inr (by walk_at "sq"), ?_⟩
  | refine Or.inl ⟨_, rfl, ?_⟩
  | refine Or.inr ⟨_, rfl, ?_⟩
  | refine ⟨(by walk_at "side"), ?_⟩
  | refine ⟨.inl ⟨rfl, _, (by walk_at "sq")⟩, ?_⟩
  | refine ⟨_, _, rfl, ?_⟩)
local macro_rules | `(tactic| walk_at "nrm") => `(tactic| dsimp only [tNil, tCons, tC, tCB])
local macro_rules | `(tactic| walk_at "ev") => `(tactic| repeat (walk_at "ev1"))
abbrev sc_greatest_notice_N : List Str := ["net", "queue", "room", "found"]
abbrev s_greatest_notice : Stmt := topS 15
theorem sc_greatest_notice : FnScope ["net", "queue", "room", "found"] ["net", "queue"] (defScope s_greatest_notice) := ⟨rfl, rfl, rfl, by decide +kernel, rfl, by decide +kernel, by decide +kernel⟩
def grF (ws : List Str) (qs : List QD) (z : QD) : Option Int := match limF ws qs z with
  | none => none
  | some (n, l) => if z.room < l then none else match n with
    | none => some z.room
    | some n => some (min n z.room)
section
variable {P : Program} {w : World} {K : PySem.W.Frag} {mg : Str → Option Value} {base : Heap}
def spGreatX (K : PySem.W.Frag) (C : Addr) : Sp := fun vs H Q E => ∃ (v : V) (fb : Bool) (ws : List Str) (qs : List QD) (x : Str), vs = [v, .str x] ∧ Dp K H v (netD fb ws qs) ∧ NetN ws qs ∧ NetG ws qs ∧ (∀ z ∈ qs, z.nm = x → ∀ H' u, Same H H' → Dp K H' u (optD (grF ws qs z)) → Q u H') ∧ ((∀ q ∈ qs, q.nm ≠ x) → Thrown E H C "queue" (.str x))
theorem okX_greatest_notice {f fF fL C : Addr} {fd fdF fdL : FuncData} {k : Nat} (F : Fun K "greatest_notice" "greatest_notice" s_greatest_notice f fd)
    (GX_find_queue : FnOk P w K mg base (L2.CX P w) k fF fdF ["net", "name"] (spFindX K C)) (g_find_queue : mg "find_queue" = some (.ref fF)) (F_find_queue : Fun K "find_queue" "find_queue" s_find_queue fF fdF) (b_find_queue : Binds K fdF ["net", "name"] [])
    (GX_limits : FnOk P w K mg base (L2.CX P w) k fL fdL ["net", "queue"] (spLimX K C)) (g_limits : mg "limits" = some (.ref fL)) (F_limits : Fun K "limits" "limits" s_limits fL fdL) (b_limits : Binds K fdL ["net", "queue"] [])
    (m_min : mg "min" = none) : FnOk P w K mg base (L2.CX P w) (k + 1) f fd ["net", "queue"] (spGreatX K C) := by
  refine F.okX sc_greatest_notice (fun vs H Q E h => ?_) (fun cdv A outer s0 H vs Q E hr h => ?_)
  · obtain ⟨v, fb, ws, qs, x, rfl, _⟩ := h
    rfl
  · obtain ⟨v, fb, ws, qs, x, rfl, hD, hN, hG, q1, q2⟩ := h
    have tk : Takes (cxOf (L2.CX P w) P w K mg base sc_greatest_notice_N "greatest_notice" (defScope s_greatest_notice) f cdv A outer s0 H E) (fun cls d _ H => E cls d H) := takes_of rfl rfl rfl rfl
    refine ⟨_, (pss_cons (ps_set (i := 2) sc_greatest_notice.nd rfl (Or.inl rfl) (pe_ix ix_lt (pe_callS GX_find_queue hr (by rfl) g_find_queue F_find_queue.kp b_find_queue (passAt tk) (pa_cons (pv 0) (pa_cons (pv 1) pa_nil))) pe_int (fun _ _ => rfl))) 
    (pss_cons (ps_set (i := 3) sc_greatest_notice.nd rfl (Or.inl rfl) (pe_callS GX_limits hr (by rfl) g_limits F_limits.kp b_limits (passAt tk) (pa_cons (pv 0) (pa_cons (pv 1) pa_nil)))) 
    (pss_cons (ps_if (PW.pt (pw_or (pt_cmpR op_isN (pv 3) pe_non (nomark _)) (pw_or1 (pt_cmpR op_gt (pe_ix ix_lt (pv 3) pe_int (fun _ _ => rfl)) (pv 2) (nomark _))))) (pss_one (ps_ret pe_non)) pss_nil) 
    (pss_one (ps_ret (pe_ifExp (pt_cmpR op_isN (pe_ix ix_lt (pv 3) pe_int (fun _ _ => rfl)) pe_non (nomark _)) (pv 2) (pe_callB (call_min2 rfl) (by rfl) m_min (by decide +kernel) (pa_cons (pe_ix ix_lt (pv 3) pe_int (fun _ _ => rfl)) (pa_cons (pv 2) pa_nil))))))))), ?_⟩
    rw [show L2.start sc_greatest_notice_N [v, .str x] = [some v, some (.str x), none, none] from rfl]
    refine asg_of ?_
    refine ⟨_, rfl, _, rfl, v, fb, ws, qs, x, rfl, hD, fun z hz hzx u hu => ?_, fun hno => q2 hno⟩
    have q1' := q1 z hz hzx
    obtain ⟨aq, rfl, hs⟩ := dp_q hu
    refine rIxF_at hs (atI_nat (j := 3) rfl) ?_
    dsimp only [List.set]
    refine asg_of ?_
    refine ⟨_, rfl, _, rfl, v, fb, ws, qs, x, rfl, hD, hN, hG, fun z' hz' hzx' H1 u s1 d1 => ?_, fun hno => q2 hno⟩
    obtain rfl := nm_eq hG hz' hz (hzx'.trans hzx.symm)
    dsimp only [List.set]
    unfold grF at q1'
    cases ho : limF ws qs z' with
    | none =>
      rw [ho] at d1 q1'
      refine if_ist (b := true) (ist_or (a := true) (b := true) (ist_cmp (ic_isN (ic_v rfl d1))) fun z => nomatch z) fun H2 s2 => iteT ?_
      exact ret_ic (K := K) ic_non fun H3 u3 s3 d3 => q1' H3 u3 ((s1.trans s2).trans s3) d3
    | some p =>
      obtain ⟨n, l⟩ := p
      rw [ho] at d1 q1'
      dsimp only at q1'
      have d1 : Dp K H1 u (seqD true [optD n, .int l]) := d1
      refine if_ist (b := decide (z'.room < l)) (ist_or (a := false) (b := decide (z'.room < l)) (ist_cmp (ic_isN (ic_v rfl d1))) fun _ => ist_cmp (ic_gtI (ic_at (d := .int l) 1 (ic_v rfl d1) rfl) (ic_v rfl (.int _)))) fun H2 s2 => ?_
      by_cases c : z'.room < l
      · rw [if_pos c] at q1'
        rw [decide_eq_true c]
        refine iteT ?_
        exact ret_ic (K := K) ic_non fun H3 u3 s3 d3 => q1' H3 u3 ((s1.trans s2).trans s3) d3
      · rw [if_neg c] at q1'
        rw [decide_eq_false c]
        refine iteF ?_
        dsimp only [tNext]
        have d2 := s2.dp d1
        cases n with
        | none => exact ret_ic (K := K) (d := .int z'.room) (ic_if (c := true) (ist_cmp (ic_isN (ic_at 0 (ic_v rfl d2) rfl))) (fun _ => ic_v rfl (.int _)) fun z => nomatch z) fun H3 u3 s3 d3 => q1' H3 u3 ((s1.trans s2).trans s3) d3
        | some n => exact ret_ic (K := K) (d := .int (min n z'.room)) (ic_if (c := false) (ist_cmp (ic_isN (ic_at 0 (ic_v rfl d2) rfl))) (fun z => nomatch z) fun _ => ic_min2 (ic_at (d := .int n) 0 (ic_v rfl d2) rfl) (ic_v rfl (.int _))) fun H3 u3 s3 d3 => q1' H3 u3 ((s1.trans s2).trans s3) d3
end
end Jl

set_option Elab.async false
set_option linter.all false
set_option maxRecDepth 100000
set_option maxHeartbeats 1000000
set_option pp.maxSteps 300
namespace Jl
open PySem PySem.Spec PyProof.Rows L2
open Evl (sz_of sz_lt)
local macro_rules | `(tactic| walk_at "at") => `(tactic| first | exact box0 | exact box1 | exact box2)
local macro_rules | `(tactic| walk_at "sq") => `(tactic| first | (show SqL _ _ _ _; assumption) | (show SqT _ _ _ _; assumption) | (show _ = some _; assumption))
local macro_rules | `(tactic| walk_at "side") => `(tactic| first
  | (show (0 : Int) < _; decide)
  | (show (0 : Int) < _; omega)
  | exact ⟨by decide, by decide, by decide⟩
  | exact sz_of (Nat.le_of_ble_eq_true rfl)
  | exact rfl
  | exact Or.inl (by decide)
  | exact Or.inr (by decide)
  | exact Or.inr ⟨by omega, by omega⟩
  | exact Or.inl ⟨by omega, by omega⟩
  | exact ⟨by decide, by decide +kernel⟩)
local macro_rules | `(tactic| walk_at "ev1") => `(tactic| first
  | refine ⟨_, rfl, ?_⟩
  | refine ⟨_, _, rfl, rfl, ?_⟩
  | refine ⟨_, _, _, _, rfl, rfl, (by walk_at "sq"), (by walk_at "at"), ?_⟩
  | refine ⟨_, _, rfl, (by walk_at "sq"), ?_⟩
  | refine ⟨_, _, rfl, Or.inl (by walk_at "sq"), ?_⟩
  | refine ⟨_, _, rfl, Or.inr (by walk_at "sq"), ?_⟩
  | refine Or.inl ⟨_, rfl, ?_⟩
  | refine Or.inr ⟨_, rfl, ?_⟩
  | refine ⟨(by walk_at "side"), ?_⟩
  | refine ⟨.inl ⟨rfl, _, (by walk_at "sq")⟩, ?_⟩
  | refine ⟨_, _, rfl, ?_⟩)
local macro_rules | `(tactic| walk_at "nrm") => `(tactic| dsimp only [tNil, tCons, tC, tCB])
local macro_rules | `(tactic| walk_at "ev") => `(tactic| repeat (walk_at "ev1"))
section
variable {K : PySem.W.Frag} {S : List Addr} {H0 : Hp} {σ : L2.St} {te ta tb : TE}
/-- row[:4] + (i,) -/
theorem ic_row4 {q : QD} {i : Int} (h : IsC K S H0 te (QD.d true q) σ) (h2 : IsC K S H0 tb (.int i) σ) : IsC K S H0 (tOp (rCatT K) (tSl (rSlT K) te tNoPart (tPart (tC (.int 4)))) (tTup (tCons tb tNil))) (QD.d true ⟨q.nm, q.st, q.en, q.room, i⟩) σ := fun H Q e tr k => h H _ e tr fun H1 v s1 d1 => by
  obtain ⟨a, rfl, hs⟩ := dp_q d1
  have hs1 : SqT K H1 a [.str q.nm, .str q.st, .str q.en, .int q.room, .int q.gap] := cutS_le.sqT hs
  refine ⟨_, rfl, a, _, rfl, hs1, (show ¬ ((0 : Nat) = 0 ∧ (4 : Nat) = 5) by decide), fun p hp => ?_⟩
  have s2 : Same H1 (upd H1 p (.tup [V.str q.nm, V.str q.st, V.str q.en, V.int q.room])) := .upd hp
  have g2 : (upd H1 p (.tup [V.str q.nm, V.str q.st, V.str q.en, V.int q.room])) p = some (.tup [V.str q.nm, V.str q.st, V.str q.en, V.int q.room]) := upd_same
  show tTup _ _ (upd H1 p (.tup [V.str q.nm, V.str q.st, V.str q.en, V.int q.room])) _
  generalize upd H1 p (.tup [V.str q.nm, V.str q.st, V.str q.en, V.int q.room]) = H2 at s2 g2 ⊢
  refine h2 H2 _ ((e.trans s1).trans s2) ((tr.mono s1).mono s2) fun H3 u s3 d3 => ?_
  cases d3
  refine ⟨by show 1 ≤ sizeLine; decide, fun pb hpb => ?_⟩
  have s4 : Same H3 (upd H3 pb (.tup [V.int i])) := .upd hpb
  have g4 : (upd H3 pb (.tup [V.int i])) pb = some (.tup [V.int i]) := upd_same
  show rCatT K _ _ (upd H3 pb (.tup [V.int i])) Q
  generalize upd H3 pb (.tup [V.int i]) = H4 at s4 g4 ⊢
  have g5 := s4 _ _ (s3 _ _ g2)
  refine ⟨p, pb, _, _, rfl, rfl, sqt_of g5, sqt_of g4, List.cons_ne_nil _ _, (show 5 ≤ sizeLine by decide), (fun z => nomatch z), fun _ pc hpc => ?_⟩
  refine k _ _ ((((s1.trans s2).trans s3).trans s4).trans (.upd hpc)) ?_
  exact dp_tup ((((tr.mono s1).mono s2).mono s3).mono s4) hpc (.cons (.str _) (.cons (.str _) (.cons (.str _) (.cons (.int _) (.cons (.int _) .nil)))))
theorem ic_neD {a b : PyData} (h1 : IsC K S H0 ta a σ) (h2 : IsC K S H0 tb b σ) (sh1 : SeqAt.shaped a = true) (sh2 : SeqAt.shaped b = true) : IsC K S H0 (tOp (rNeD K) ta tb) (.bool (!PyData.eqv a b)) σ := fun H Q e tr q => h1 H _ e tr fun H1 v s1 d1 => h2 H1 _ (e.trans s1) (tr.mono s1) fun H2 u s2 d2 => by
  exact ⟨a, b, cutS_le.dp ((cutS_mono s2).dp d1), cutS_le.dp d2, sh1, sh2, q H2 _ (s1.trans s2) (.bl _)⟩
/-- max of a row of numbers -/
theorem ic_maxL {ns : List Int} {m : Int} (h : IsC K S H0 te (.list (ns.map PyData.int)) σ) (hn : ns ≠ []) (hm : ∀ x, x ∈ ns → (∀ y, y ∈ ns → y ≤ x) → x = m) : IsC K S H0 (tCB (rMax K) (tCons te tNil)) (.int m) σ := fun H Q e tr q => h H _ e tr fun H1 v s1 d1 => by
  obtain ⟨a, xs, rfl, ha, hx⟩ := Dp.seq_of (f := false) d1
  rw [dpa_ints_of hx] at ha
  refine ⟨a, ns, rfl, cutS_le.sqL ha, List.length_pos_iff.mpr hn, fun x h1 h2 => ?_⟩
  rw [hm x h1 h2]
  exact q H1 _ s1 (.int _)
end
theorem shp_ints {ns : List Int} : SeqAt.shaped (.list (ns.map PyData.int)) = true :=
  shaped_of (can_seq (f := false) fun d hd => by obtain ⟨i, _, rfl⟩ := List.mem_map.mp hd; simp [PyData.canLay0]) (Nat.le_trans (dep_seq (f := false) (n := 0) fun d hd => by obtain ⟨i, _, rfl⟩ := List.mem_map.mp hd; simp [PyData.depth]) (by decide))
/-- the greatest notice is the greatest that fits -/
theorem gr_none {ws : List Str} {qs : List QD} {z : QD} (h : grF ws qs z = none) (g : Int) : fitsB (limF ws qs z) z.room g = false := by
  unfold grF at h
  cases ho : limF ws qs z with
  | none => rfl
  | some p =>
    obtain ⟨n, l⟩ := p
    rw [ho] at h
    dsimp only at h
    by_cases c : z.room < l
    · cases n with
      | none => exact decide_eq_false (by omega)
      | some n =>
        show (decide (g ≤ n) && decide (l ≤ z.room)) = false
        rw [decide_eq_false (show ¬ l ≤ z.room by omega), Bool.and_false]
    · rw [if_neg c] at h
      cases n <;> cases h
theorem gr_some {ws : List Str} {qs : List QD} {z : QD} {r : Int} (h : grF ws qs z = some r) (h1 : 1 ≤ z.room) : 1 ≤ r ∧ r ≤ z.room ∧ ∀ g, g ≤ z.room → (fitsB (limF ws qs z) z.room g = true ↔ g ≤ r) := by
  unfold grF at h
  cases ho : limF ws qs z with
  | none =>
    rw [ho] at h
    cases h
  | some p =>
    obtain ⟨n, l⟩ := p
    rw [ho] at h
    dsimp only at h
    obtain ⟨_, hn⟩ := limF_low ho
    by_cases c : z.room < l
    · rw [if_pos c] at h
      cases h
    · rw [if_neg c] at h
      cases n with
      | none =>
        cases h
        refine ⟨h1, Int.le_refl _, fun g hg => ⟨fun _ => hg, fun _ => decide_eq_true (by omega)⟩⟩
      | some n =>
        cases h
        have := hn n rfl
        refine ⟨by omega, by omega, fun g hg => ?_⟩
        show (decide (g ≤ n) && decide (l ≤ z.room)) = true ↔ _
        rw [decide_eq_true (show l ≤ z.room by omega), Bool.and_true, decide_eq_true_iff]
        omega
section
variable {K : PySem.W.Frag} {S : List Addr} {H0 : Hp} {σ : L2.St} {te ta tb : TE} {d : PyData} {ds es : List PyData}
theorem ic_atT {j : Int} (k : Nat) (h : IsC K S H0 te (.tuple ds) σ) (hd : ds[k]? = some d) (hj : j = (k : Nat) := by rfl) : IsC K S H0 (tOp (rIxT K) te (tC (.int j))) d σ := fun H Q e tr q => h H _ e tr fun H1 v s1 d1 => by
  obtain ⟨a, xs, rfl, ha, hx⟩ := Dp.seq_of (f := true) d1
  obtain ⟨u, hu, du⟩ := dpa_get' hx hd
  exact ⟨a, xs, _, u, rfl, rfl, cutS_le.sqT ha, by rw [hj]; exact atI_nat hu, q H1 u s1 du⟩
theorem ic_lastL (h : IsC K S H0 te (.list (es ++ [d])) σ) : IsC K S H0 (tOp (rIxL K) te (tUn (rU fun i => .int (-i)) (tC (.int 1)))) d σ := fun H Q e tr q => h H _ e tr fun H1 v s1 d1 => by
  obtain ⟨a, xs, rfl, ha, hx⟩ := Dp.seq_of (f := false) d1
  have hl := dpa_len hx
  rw [List.length_append] at hl
  have hl1 : xs.length = es.length + 1 := hl
  obtain ⟨u, hu, du⟩ := dpa_get' hx (i := es.length) (d := d) (by rw [List.getElem?_append_right (Nat.le_refl _), Nat.sub_self]; rfl)
  refine ⟨1, rfl, ⟨a, xs, _, u, rfl, rfl, cutS_le.sqL ha, ?_, q H1 u s1 du⟩⟩
  unfold atI ixN
  rw [if_neg (by decide), if_pos (by omega)]
  show xs[((xs.length : Int) + -1).toNat]? = some u
  rw [show ((xs.length : Int) + -1).toNat = es.length by omega]
  exact hu
end
end Jl

set_option Elab.async false
set_option linter.all false
set_option maxRecDepth 100000
set_option maxHeartbeats 1000000
set_option pp.maxSteps 300
namespace Jl
open PySem PySem.Spec PyProof.Rows L2
open Evl (sz_of sz_lt)
local macro_rules | `(tactic| walk_at "at") => `(tactic| first | exact box0 | exact box1 | exact box2)
local macro_rules | `(tactic| walk_at "sq") => `(tactic| first | (show SqL _ _ _ _; assumption) | (show SqT _ _ _ _; assumption) | (show _ = some _; assumption))
local macro_rules | `(tactic| walk_at "side") => `(tactic| first
  | (show (0 : Int) < _; decide)
  | (show (0 : Int) < _; omega)
  | exact ⟨by decide, by decide, by decide⟩
  | exact sz_of (Nat.le_of_ble_eq_true rfl)
  | exact rfl
  | exact Or.inl (by decide)
  | exact Or.inr (by decide)
  | exact Or.inr ⟨by omega, by omega⟩
  | exact Or.inl ⟨by omega, by omega⟩
  | exact ⟨by decide, by decide +kernel⟩)
local macro_rules | `(tactic| walk_at "ev1") => `(tactic| first
  | refine ⟨_, rfl, ?_⟩
  | refine ⟨_, _, rfl, rfl, ?_⟩
  | refine ⟨_, _, _, _, rfl, rfl, (by walk_at "sq"), (by walk_at "at"), ?_⟩
  | refine ⟨_, _, rfl, (by walk_at "sq"), ?_⟩
  | refine ⟨_, _, rfl, Or.inl (by walk_at "sq"), ?_⟩
  | refine ⟨_, _, rfl, Or.inr (by walk_at "sq"), ?_⟩
  | refine Or.inl ⟨_, rfl, ?_⟩
  | refine Or.inr ⟨_, rfl, ?_⟩
  | refine ⟨(by walk_at "side"), ?_⟩
  | refine ⟨.inl ⟨rfl, _, (by walk_at "sq")⟩, ?_⟩
  | refine ⟨_, _, rfl, ?_⟩)
local macro_rules | `(tactic| walk_at "nrm") => `(tactic| dsimp only [tNil, tCons, tC, tCB])
local macro_rules | `(tactic| walk_at "ev") => `(tactic| repeat (walk_at "ev1"))
abbrev sc_full_N : List Str := ["net", "name", "_", "room", "notice"]
abbrev s_full : Stmt := topS 16
theorem sc_full : FnScope ["net", "name", "_", "room", "notice"] ["net"] (defScope s_full) := ⟨rfl, rfl, rfl, by decide +kernel, rfl, by decide +kernel, by decide +kernel⟩
def fullF (ws : List Str) (qs : List QD) : Bool := neverF ws qs && qs.all fun z => decide (z.gap = z.room) || !neverF ws (madeQ qs z.nm z.room (z.gap + 1))
section
variable {P : Program} {w : World} {K : PySem.W.Frag} {mg : Str → Option Value} {base : Heap}
theorem made_N {ws : List Str} {qs : List QD} (hN : NetN ws qs) {x : Str} {sp gp : Int} : NetN ws (madeQ qs x sp gp) := ⟨hN.nd, fun q hq => by
  obtain ⟨o, ho, rfl⟩ := List.mem_map.mp hq
  have := hN.ne o ho
  split
  · exact this
  · exact this, hN.w1, by rw [made_len]; exact hN.q1⟩
theorem ic_never {H0 : Hp} {σ : L2.St} {E : XK} {ta : TE} {fb : Bool} {ws : List Str} {qs : List QD} (h : IsC K [] H0 ta (netD fb ws qs) σ) (hN : NetN ws qs) : IsC K [] H0 (tCall (spNever K) [] E (tCons ta tNil)) (.bool (neverF ws qs)) σ := fun H Q e tr q => h H _ e tr fun H1 v s1 d1 => by
  rw [cutS_nil] at d1
  exact ⟨v, ws, qs, rfl, netV_of d1, hN, fun H2 s2 => q H2 _ (s1.trans s2) (.bl _)⟩
def spFull (K : PySem.W.Frag) : Sp := fun vs H Q _ => ∃ (v : V) (fb : Bool) (ws : List Str) (qs : List QD), vs = [v] ∧ Dp K H v (netD fb ws qs) ∧ NetN ws qs ∧ NetG ws qs ∧ ∀ H', Same H H' → Q (.bl (fullF ws qs)) H'
theorem ok_full {f fN fR C : Addr} {fd fdN fdR : FuncData} {k : Nat} (F : Fun K "full" "full" s_full f fd)
    (G_never_held : FnOk P w K mg base CX0 k fN fdN ["net"] (spNever K)) (g_never_held : mg "never_held" = some (.ref fN)) (F_never_held : Fun K "never_held" "never_held" s_never_held fN fdN) (b_never_held : Binds K fdN ["net"] [])
    (GX_raised : FnOk P w K mg base (L2.CX P w) k fR fdR ["net", "queue", "room", "notice"] (spRaisedX K C)) (g_raised : mg "raised" = some (.ref fR)) (F_raised : Fun K "raised" "raised" s_raised fR fdR) (b_raised : Binds K fdR ["net", "queue", "room", "notice"] []) (m_all : mg "all" = none) : FnOk P w K mg base CX0 (k + 1) f fd ["net"] (spFull K) := by
  refine F.ok sc_full (fun vs H Q E h => ?_) (fun cdv A outer s0 H vs Q E hr h => ?_)
  · obtain ⟨v, fb, ws, qs, rfl, _⟩ := h
    rfl
  · obtain ⟨v, fb, ws, qs, rfl, hD, hN, hG, q⟩ := h
    refine ⟨_, (pss_cons (ps_if (pt_not (pt_val (pe_call G_never_held hr (by rfl) g_never_held F_never_held.kp b_never_held .nil pass0 (pa_cons (pv 0) pa_nil)))) (pss_one (ps_ret pe_bl)) pss_nil) 
    (pss_one (ps_ret (pe_callB (cr_all rfl) (by rfl) m_all (by decide +kernel) (pa_cons (pe_lcX (pe_lc (own := [("name", 1), ("_", 2), ("_", 2), ("room", 3), ("notice", 4)]) (g := gSeq K 5 (gCons (gName 1) (gCons (gName 2) (gCons (gName 2) (gCons (gName 3) (gCons (gName 4) gNil)))))) (tt := tYes) (te := (tOrV (tOp rEq (tVar 4) (tVar 3)) (tNotV (tCall (spNever K) [] E0 (tCons (tCall (spRaisedX K C) [] E0 (tCons (tVar 0) (tCons (tVar 1) (tCons (tVar 3) (tCons (tOp (rI0 fun i j => .int (i + j)) (tVar 4) (tC (.int 1))) tNil))))) tNil))))) (by rfl) sc_full.nd (pi_seq (pe_ix ix_lt (pv 0) pe_int (fun _ _ => rfl))) (blkOk_by (own := [("name", 1), ("_", 2), ("_", 2), ("room", 3), ("notice", 4)]) (N := sc_full_N) (sc := defScope s_full) (by decide +kernel)) (fun _ _ _ _ _ => pg_seq (pg_tup rfl (pgs_cons (pg_name (i := 1) sc_full.nd rfl (Or.inl rfl)) (pgs_cons (pg_name (i := 2) sc_full.nd rfl (Or.inl rfl)) (pgs_cons (pg_name (i := 2) sc_full.nd rfl (Or.inl rfl)) (pgs_cons (pg_name (i := 3) sc_full.nd rfl (Or.inl rfl)) (pgs_cons (pg_name (i := 4) sc_full.nd rfl (Or.inl rfl)) pgs_nil)))))) (pg_lst rfl (pgs_cons (pg_name (i := 1) sc_full.nd rfl (Or.inl rfl)) (pgs_cons (pg_name (i := 2) sc_full.nd rfl (Or.inl rfl)) (pgs_cons (pg_name (i := 2) sc_full.nd rfl (Or.inl rfl)) (pgs_cons (pg_name (i := 3) sc_full.nd rfl (Or.inl rfl)) (pgs_cons (pg_name (i := 4) sc_full.nd rfl (Or.inl rfl)) pgs_nil))))))) (fun _ _ _ _ _ => pts_nil) (fun _ _ _ _ _ => (pe_or (pe_cmpR op_eq (pv 4) (pv 3) (nomark _)) (pe_one (pe_not (pe_call G_never_held hr (by rfl) g_never_held F_never_held.kp b_never_held .nil pass0 (pa_cons (pe_call GX_raised hr (by rfl) g_raised F_raised.kp b_raised .nil passL (pa_cons (pv 0) (pa_cons (pv 1) (pa_cons (pv 3) (pa_cons (pe_op op_add (pv 4) pe_int) pa_nil))))) pa_nil)))))))) pa_nil))))), ?_⟩
    rw [show L2.start sc_full_N [v] = [some v, none, none, none, none] from rfl]
    have hD' : ∀ {H'}, Same H H' → Dp K H' v (seqD fb [seqD fb (ws.map PyData.str), seqD fb (qs.map (QD.d fb))]) := fun e => e.dp hD
    refine if_ist (ist_not (ist_val (ic_never (ic_v rfl hD) hN))) fun H1 s1 => ?_
    unfold fullF at q
    cases hv : neverF ws qs with
    | false =>
      refine iteT ?_
      rw [hv] at q
      exact ret_bl (K := K) (b := false) ic_bl fun H2 s2 => q H2 (s1.trans s2)
    | true =>
      refine iteF ?_
      dsimp only [tNext]
      rw [hv, Bool.true_and] at q
      refine ret_bl (K := K) (b := qs.all fun z => decide (z.gap = z.room) || !neverF ws (madeQ qs z.nm z.room (z.gap + 1))) (ic_b (ic_allL (bs := (qs.filter fun _ => true).map fun z => decide (z.gap = z.room) || !neverF ws (madeQ qs z.nm z.room (z.gap + 1))) ?_) (by rw [List.filter_eq_self.mpr fun _ _ => rfl, List.all_map]; rfl)) fun H2 s2 => q H2 (s1.trans s2)
      rw [List.map_map]
      refine ic_lcx (K := K) (S := []) qs (QD.d fb) (PyData.bool ∘ fun z => decide (z.gap = z.room) || !neverF ws (madeQ qs z.nm z.room (z.gap + 1))) (fun _ => true) (fun q σ2 => σ2 = [some v, some (.str q.nm), some (.str q.en), some (.int q.room), some (.int q.gap)]) (ic_at (fb := fb) 1 (ic_v rfl (hD' s1)) rfl) (by have := hN.q1; omega) (fun x q' H1 R hq hx r => ?_) (fun _ _ _ _ _ _ => ist_yes) (fun q' H2 T σ2 hq _ e1 e2 hB => ?_)
      · obtain ⟨aq, rfl, hs⟩ := dp_q hx
        exact gSeq_at hs rfl ⟨_, _, rfl, _, _, rfl, _, _, rfl, _, _, rfl, _, _, rfl, rfl, r _ rfl rfl⟩
      · subst hB
        refine ic_or (ic_eqI (ic_var rfl (.int _)) (ic_var rfl (.int _))) fun _ => ic_notV ?_
        intro H3 Q3 e3 tr q3
        refine ⟨_, rfl, _, rfl, _, rfl, _, rfl, _, _, rfl, rfl, v, fb, ws, qs, q'.nm, q'.room, q'.gap + 1, rfl, hD' ((s1.trans e1).trans e3), hN, hG, fun z' hz' hn' H4 u4 s4 d4 => ?_, fun hno => absurd rfl (hno q' hq)⟩
        exact ⟨u4, ws, _, rfl, netV_of d4, made_N hN, fun H5 s5 => q3 H5 _ (s4.trans s5) (.bl _)⟩
end
end Jl

set_option Elab.async false
set_option linter.all false
set_option maxRecDepth 100000
set_option maxHeartbeats 1000000
set_option pp.maxSteps 300
namespace Jl
open PySem PySem.Spec PyProof.Rows L2
open Evl (sz_of sz_lt)
local macro_rules | `(tactic| walk_at "at") => `(tactic| first | exact box0 | exact box1 | exact box2)
local macro_rules | `(tactic| walk_at "sq") => `(tactic| first | (show SqL _ _ _ _; assumption) | (show SqT _ _ _ _; assumption) | (show _ = some _; assumption))
local macro_rules | `(tactic| walk_at "side") => `(tactic| first
  | (show (0 : Int) < _; decide)
  | (show (0 : Int) < _; omega)
  | exact ⟨by decide, by decide, by decide⟩
  | exact sz_of (Nat.le_of_ble_eq_true rfl)
  | exact rfl
  | exact Or.inl (by decide)
  | exact Or.inr (by decide)
  | exact Or.inr ⟨by omega, by omega⟩
  | exact Or.inl ⟨by omega, by omega⟩
  | exact ⟨by decide, by decide +kernel⟩)
local macro_rules | `(tactic| walk_at "ev1") => `(tactic| first
  | refine ⟨_, rfl, ?_⟩
  | refine ⟨_, _, rfl, rfl, ?_⟩
  | refine ⟨_, _, _, _, rfl, rfl, (by walk_at "sq"), (by walk_at "at"), ?_⟩
  | refine ⟨_, _, rfl, (by walk_at "sq"), ?_⟩
  | refine ⟨_, _, rfl, Or.inl (by walk_at "sq"), ?_⟩
  | refine ⟨_, _, rfl, Or.inr (by walk_at "sq"), ?_⟩
  | refine Or.inl ⟨_, rfl, ?_⟩
  | refine Or.inr ⟨_, rfl, ?_⟩
  | refine ⟨(by walk_at "side"), ?_⟩
  | refine ⟨.inl ⟨rfl, _, (by walk_at "sq")⟩, ?_⟩
  | refine ⟨_, _, rfl, ?_⟩)
local macro_rules | `(tactic| walk_at "nrm") => `(tactic| dsimp only [tNil, tCons, tC, tCB])
local macro_rules | `(tactic| walk_at "ev") => `(tactic| repeat (walk_at "ev1"))
abbrev sc_filled_N : List Str := ["net", "order", "name", "after"]
abbrev s_filled : Stmt := topS 17
theorem sc_filled : FnScope ["net", "order", "name", "after"] ["net", "order"] (defScope s_filled) := ⟨rfl, rfl, rfl, by decide +kernel, rfl, by decide +kernel, by decide +kernel⟩
/-! ### queue by queue the greatest notice -/
def stepQ (ws : List Str) (qs : List QD) (x : Str) : List QD := match qs.find? fun q => decide (q.nm = x) with
  | none => qs
  | some z => match grF ws qs z with
    | none => qs
    | some r => madeQ qs x z.room r
def fillQ (ws : List Str) (qs : List QD) (order : List Str) : List QD := order.foldl (stepQ ws) qs
structure FillN (ws : List Str) (qs : List QD) : Prop where
  nd : ws.Nodup
  ng : NetG ws qs
  h0 : ws ≠ []
  w1 : ws.length ≤ 500
  q1 : qs.length ≤ 500
  gp : ∀ q ∈ qs, 1 ≤ q.gap ∧ q.gap ≤ q.room
theorem FillN.nn {ws : List Str} {qs : List QD} (h : FillN ws qs) : NetN ws qs := ⟨h.nd, fun q hq => (h.ng.q1 q hq).2.2, h.w1, h.q1⟩
theorem made_own {ws : List Str} {qs : List QD} (hG : NetG ws qs) {z : QD} (hz : z ∈ qs) : madeQ qs z.nm z.room z.gap = qs := by
  unfold madeQ
  conv => rhs; rw [← List.map_id qs]
  refine List.map_congr_left fun q hq => ?_
  by_cases c : q.nm = z.nm
  · rw [if_pos c, nm_eq hG hq hz c]
    rfl
  · rw [if_neg c]
    rfl
theorem FillN.made {ws : List Str} {qs : List QD} (h : FillN ws qs) {x : Str} {sp r : Int} (h1 : 1 ≤ r) (h2 : r ≤ sp) : FillN ws (madeQ qs x sp r) := ⟨h.nd, made_G h.ng, h.h0, h.w1, by rw [made_len]; exact h.q1, fun q hq => by
  obtain ⟨o, ho, rfl⟩ := List.mem_map.mp hq
  split
  · exact ⟨h1, h2⟩
  · exact h.gp o ho⟩
theorem gr_step {ws : List Str} {qs : List QD} (h : FillN ws qs) (hv : neverF ws qs = true) {z : QD} (hz : z ∈ qs) : ∃ r, grF ws qs z = some r ∧ z.gap ≤ r ∧ 1 ≤ r ∧ r ≤ z.room ∧ neverF ws (madeQ qs z.nm z.room r) = true ∧ (r = z.room ∨ neverF ws (madeQ qs z.nm z.room (r + 1)) = false) := by
  obtain ⟨g1, g2⟩ := h.gp z hz
  have hv' : neverF ws (madeQ qs z.nm z.room z.gap) = true := by
    rw [made_own h.ng hz]
    exact hv
  have f1 := fits_iff.mpr ((lim_fits h.nd h.ng h.h0 hz g1 g2).mp hv')
  cases hg : grF ws qs z with
  | none =>
    rw [gr_none hg] at f1
    cases f1
  | some r =>
    obtain ⟨r1, r2, r3⟩ := gr_some hg (by omega)
    refine ⟨r, rfl, (r3 _ g2).mp f1, r1, r2, (lim_fits h.nd h.ng h.h0 hz r1 r2).mpr (fits_iff.mp ((r3 r r2).mpr (Int.le_refl _))), ?_⟩
    by_cases c : r = z.room
    · exact .inl c
    · refine .inr ?_
      cases hn : neverF ws (madeQ qs z.nm z.room (r + 1)) with
      | false => rfl
      | true =>
        have := (r3 (r + 1) (by omega)).mp (fits_iff.mpr ((lim_fits h.nd h.ng h.h0 hz (by omega) (by omega)).mp hn))
        omega
theorem step_at {ws : List Str} {qs : List QD} (hG : NetG ws qs) {z : QD} (hz : z ∈ qs) {r : Int} (hr : grF ws qs z = some r) : stepQ ws qs z.nm = madeQ qs z.nm z.room r := by
  unfold stepQ
  cases hf : qs.find? fun q => decide (q.nm = z.nm) with
  | none =>
    have := List.find?_eq_none.mp hf z hz
    exact absurd (decide_eq_true rfl) this
  | some y =>
    have hy := List.mem_of_find?_eq_some hf
    have hn : y.nm = z.nm := of_decide_eq_true (List.find?_some (p := fun q : QD => decide (q.nm = z.nm)) hf)
    obtain rfl := nm_eq hG hy hz hn
    dsimp only
    rw [hr]
theorem chg_nil {qs : List QD} : chgQ [] qs = qs := by
  unfold chgQ
  conv => rhs; rw [← List.map_id qs]
  exact List.map_congr_left fun q hq => rfl
theorem chg_one {ws : List Str} {qs : List QD} (hG : NetG ws qs) {z : QD} (hz : z ∈ qs) {r : Int} : chgQ [(z.nm, r)] qs = madeQ qs z.nm z.room r := by
  refine List.map_congr_left fun q hq => ?_
  have hnd : ([(z.nm, r)].map (·.1)).Nodup := List.nodup_cons.mpr ⟨List.not_mem_nil, List.nodup_nil⟩
  by_cases c : q.nm = z.nm
  · rw [if_pos c, nm_eq hG hq hz c]
    have := lk_mem hnd (p := (z.nm, r)) List.mem_cons_self
    show (⟨z.nm, z.st, z.en, z.room, (lk [(z.nm, r)] z.nm).getD z.gap⟩ : QD) = _
    rw [show lk [(z.nm, r)] z.nm = some r from this]
    rfl
  · rw [if_neg c]
    have : lk [(z.nm, r)] q.nm = none := lk_none fun h => c (List.mem_singleton.mp h)
    rw [this]
    rfl
/-- what stays when names are gone through -/
structure Kept (qs0 qs : List QD) : Prop where
  nm : qs.map QD.nm = qs0.map QD.nm
  duo : qs.map duoQ = qs0.map duoQ
theorem Kept.refl {qs : List QD} : Kept qs qs := ⟨rfl, rfl⟩
theorem made_duo {qs : List QD} {x : Str} {sp gp : Int} : (madeQ qs x sp gp).map duoQ = qs.map duoQ := by
  unfold madeQ
  rw [List.map_map]
  refine List.map_congr_left fun q _ => ?_
  show duoQ (if q.nm = x then putQ q sp gp else q) = duoQ q
  split <;> rfl
theorem Kept.made {qs0 qs : List QD} (h : Kept qs0 qs) {x : Str} {sp gp : Int} : Kept qs0 (madeQ qs x sp gp) := ⟨made_nm.trans h.nm, made_duo.trans h.duo⟩
theorem fill_step {ws : List Str} {qs : List QD} (h : FillN ws qs) (hv : neverF ws qs = true) {x : Str} (hx : x ∈ qs.map QD.nm) : FillN ws (stepQ ws qs x) ∧ neverF ws (stepQ ws qs x) = true ∧ Kept qs (stepQ ws qs x) := by
  obtain ⟨z, hz, rfl⟩ := List.mem_map.mp hx
  obtain ⟨r, h1, _, h3, h4, h5, _⟩ := gr_step h hv hz
  rw [step_at h.ng hz h1]
  exact ⟨h.made h3 h4, h5, Kept.refl.made⟩
theorem fill_ok {ws : List Str} : ∀ (order : List Str) {qs : List QD}, FillN ws qs → neverF ws qs = true → (∀ x ∈ order, x ∈ qs.map QD.nm) → FillN ws (fillQ ws qs order) ∧ neverF ws (fillQ ws qs order) = true ∧ Kept qs (fillQ ws qs order)
  | [], qs, h, hv, _ => ⟨h, hv, .refl⟩
  | x :: r, qs, h, hv, hx => by
    obtain ⟨a1, a2, a3⟩ := fill_step h hv (hx x List.mem_cons_self)
    obtain ⟨b1, b2, b3⟩ := fill_ok r a1 a2 fun y hy => by rw [a3.nm]; exact hx y (List.mem_cons_of_mem _ hy)
    exact ⟨b1, b2, b3.nm.trans a3.nm, b3.duo.trans a3.duo⟩
theorem fill_snoc {ws : List Str} {qs : List QD} {o : List Str} {x : Str} : fillQ ws qs (o ++ [x]) = stepQ ws (fillQ ws qs o) x := by
  unfold fillQ
  rw [List.foldl_append]
  rfl
def fillD (ws : List Str) (qs : List QD) (order : List Str) : PyData := if neverF ws qs = true then netD true ws (fillQ ws qs order) else .none
section
variable {P : Program} {w : World} {K : PySem.W.Frag} {mg : Str → Option Value} {base : Heap}
def spFillX (K : PySem.W.Frag) (C : Addr) : Sp := fun vs H Q E => ∃ (v o : V) (fb fo : Bool) (ws : List Str) (qs : List QD) (order : List Str), vs = [v, o] ∧ Dp K H v (netD fb ws qs) ∧ Dp K H o (seqD fo (order.map PyData.str)) ∧ FillN ws qs ∧ order.length ≤ 1000 ∧
  ((∀ x ∈ order, x ∈ qs.map QD.nm) → ∀ H' u, Same H H' → Dp K H' u (fillD ws qs order) → Q u H') ∧ (∀ pre x post, order = pre ++ x :: post → (∀ y ∈ pre, y ∈ qs.map QD.nm) → x ∉ qs.map QD.nm → Thrown E H C "queue" (.str x))
theorem okX_filled {f fF fN fC fG C : Addr} {fd fdF fdN fdC fdG : FuncData} {k : Nat} (F : Fun K "filled" "filled" s_filled f fd)
    (GX_find_queue : FnOk P w K mg base (L2.CX P w) k fF fdF ["net", "name"] (spFindX K C)) (g_find_queue : mg "find_queue" = some (.ref fF)) (F_find_queue : Fun K "find_queue" "find_queue" s_find_queue fF fdF) (b_find_queue : Binds K fdF ["net", "name"] [])
    (G_never_held : FnOk P w K mg base CX0 k fN fdN ["net"] (spNever K)) (g_never_held : mg "never_held" = some (.ref fN)) (F_never_held : Fun K "never_held" "never_held" s_never_held fN fdN) (b_never_held : Binds K fdN ["net"] [])
    (G_changed : FnOk P w K mg base CX0 k fC fdC ["net", "notices"] (spChanged K)) (g_changed : mg "changed" = some (.ref fC)) (F_changed : Fun K "changed" "changed" s_changed fC fdC) (b_changed : Binds K fdC ["net", "notices"] [])
    (GX_greatest_notice : FnOk P w K mg base (L2.CX P w) k fG fdG ["net", "queue"] (spGreatX K C)) (g_greatest_notice : mg "greatest_notice" = some (.ref fG)) (F_greatest_notice : Fun K "greatest_notice" "greatest_notice" s_greatest_notice fG fdG) (b_greatest_notice : Binds K fdG ["net", "queue"] []) : FnOk P w K mg base (L2.CX P w) (k + 1) f fd ["net", "order"] (spFillX K C) := by
  refine F.okX sc_filled (fun vs H Q E h => ?_) (fun cdv A outer s0 H vs Q E hr h => ?_)
  · obtain ⟨v, o, fb, fo, ws, qs, order, rfl, _⟩ := h
    rfl
  · obtain ⟨v, o, fb, fo, ws, qs, order, rfl, hD, hO, hF, lo, q1, q2⟩ := h
    have tk : Takes (cxOf (L2.CX P w) P w K mg base sc_filled_N "filled" (defScope s_filled) f cdv A outer s0 H E) (fun cls d _ H => E cls d H) := takes_of rfl rfl rfl rfl
    have po : PassesOwn (model P w) (cxOf (L2.CX P w) P w K mg base sc_filled_N "filled" (defScope s_filled) f cdv A outer s0 H E).A (cxOf (L2.CX P w) P w K mg base sc_filled_N "filled" (defScope s_filled) f cdv A outer s0 H E).env (cxOf (L2.CX P w) P w K mg base sc_filled_N "filled" (defScope s_filled) f cdv A outer s0 H E).xe := passes_of rfl
    refine ⟨_, (pss_cons (ps_forX (ps_for po rfl (pi_seq (pv 1)) (pg_name (i := 2) sc_filled.nd rfl (Or.inl rfl)) (pss_one (ps_expr (pe_callS GX_find_queue hr (by rfl) g_find_queue F_find_queue.kp b_find_queue (passAt tk) (pa_cons (pv 0) (pa_cons (pv 2) pa_nil))))))) 
    (pss_cons (ps_if (pt_not (pt_val (pe_call G_never_held hr (by rfl) g_never_held F_never_held.kp b_never_held .nil pass0 (pa_cons (pv 0) pa_nil)))) (pss_one (ps_ret pe_non)) pss_nil) 
    (pss_cons (ps_set (i := 3) sc_filled.nd rfl (Or.inl rfl) (pe_call G_changed hr (by rfl) g_changed F_changed.kp b_changed .nil pass0 (pa_cons (pv 0) (pa_cons pe_dnewK pa_nil)))) 
    (pss_cons (ps_forX (ps_for po rfl (pi_seq (pv 1)) (pg_name (i := 2) sc_filled.nd rfl (Or.inl rfl)) (pss_one (ps_set (i := 3) sc_filled.nd rfl (Or.inl rfl) (pe_call G_changed hr (by rfl) g_changed F_changed.kp b_changed .nil pass0 (pa_cons (pv 3) (pa_cons (pe_disp (pps_cons (pv 2) (pe_call GX_greatest_notice hr (by rfl) g_greatest_notice F_greatest_notice.kp b_greatest_notice .nil passL (pa_cons (pv 3) (pa_cons (pv 2) pa_nil))) pps_nil) (by rfl) (by rfl) (by simp) (by decide)) pa_nil))))))) 
    (pss_one (ps_ret (pv 3))))))), ?_⟩
    rw [show L2.start sc_filled_N [v, o] = [some v, some o, none, none] from rfl]
    obtain ⟨ao, xo, rfl, ho, hxo⟩ := Dp.seq_of hO
    have exo := dpa_strs_of hxo
    subst exo
    have lxo : (order.map V.str).length = order.length := List.length_map _
    refine for_of ?_
    refine iSeq_at (fun R' r => ⟨_, rfl, r⟩) ho fun J wk => ?_
    refine forR_it wk (fun i σ Hc => ∃ x2 : Option V, σ = [some v, some (.ref ao), x2, none] ∧ Hc = H ∧ ∀ y ∈ order.take i, y ∈ qs.map QD.nm) ⟨none, rfl, rfl, fun _ h => absurd h List.not_mem_nil⟩ (fun i σ Hc _ hh => ?_) (fun i u σ Hc Hc' hi hh y => ?_) (fun σ Hc hh => ?_)
    · obtain ⟨x2, rfl, rfl, _⟩ := hh
      exact ho
    · obtain ⟨x2, rfl, rfl, hin⟩ := hh
      obtain ⟨rfl, hv⟩ := y
      rw [List.getElem?_map] at hv
      cases hz : order[i]? with
      | none =>
        rw [hz] at hv
        cases hv
      | some x =>
        rw [hz] at hv
        cases hv
        refine ⟨_, rfl, _, rfl, v, fb, ws, qs, x, rfl, hD, fun z hzq hzx u hu => ⟨_, rfl, rfl, fun y hy => ?_⟩, fun hno => ?_⟩
        · rw [List.take_add_one, hz] at hy
          rcases List.mem_append.mp hy with h | h
          · exact hin y h
          · rw [show y = x from List.mem_singleton.mp h, ← hzx]
            exact List.mem_map_of_mem hzq
        · refine q2 (order.take i) x (order.drop (i + 1)) ?_ hin fun h => ?_
          · have hlt := (List.getElem?_eq_some_iff.mp hz).1
            have hge := (List.getElem?_eq_some_iff.mp hz).2
            rw [← hge, ← List.drop_eq_getElem_cons hlt, List.take_append_drop]
          · obtain ⟨z, hzq, hzx⟩ := List.mem_map.mp h
            exact hno z hzq hzx
    · obtain ⟨x2, rfl, eH, hin⟩ := hh
      have eH := eH.symm
      subst eH
      rw [lxo, List.take_length] at hin
      have q1 := q1 hin
      unfold fillD at q1
      dsimp only
      refine if_ist (ist_not (ist_val (ic_never (ic_v rfl hD) hF.nn))) fun H1 s1 => ?_
      cases hv : neverF ws qs with
      | false =>
        refine iteT ?_
        rw [hv] at q1
        exact ret_ic (K := K) ic_non fun H2 u2 s2 d2 => q1 H2 u2 (s1.trans s2) d2
      | true =>
        refine iteF ?_
        dsimp only [tNext]
        rw [hv] at q1
        refine asg_of ?_
        refine ⟨_, rfl, fun d0 hd0 => ?_⟩
        refine ⟨v, d0, fb, ws, qs, [], rfl, (s1.trans (.upd hd0)).dp hD, upd_same, by have := hF.q1; omega, fun H2 u2 s2 d2 => ?_⟩
        rw [chg_nil] at d2
        dsimp only [List.set]
        have t2 := (s1.trans (.upd hd0)).trans s2
        clear s2 hd0
        refine for_of ?_
        refine iSeq_at (fun R' r => ⟨_, rfl, r⟩) (t2.sqF ho) fun J wk => ?_
        refine forR_it wk (fun i σ Hc => ∃ (x2 : Option V) (u3 : V), σ = [some v, some (.ref ao), x2, some u3] ∧ Same H Hc ∧ Dp K Hc u3 (netD true ws (fillQ ws qs (order.take i)))) ⟨_, u2, rfl, t2, d2⟩ (fun i σ Hc _ hh => ?_) (fun i u σ Hc Hc' hi hh y => ?_) (fun σ Hc hh => ?_)
        · obtain ⟨x2, u3, rfl, sc, _⟩ := hh
          exact sc.sqF ho
        · obtain ⟨x2, u3, rfl, sc, d3⟩ := hh
          obtain ⟨rfl, hv'⟩ := y
          rw [List.getElem?_map] at hv'
          cases hz : order[i]? with
          | none =>
            rw [hz] at hv'
            cases hv'
          | some x =>
            rw [hz] at hv'
            cases hv'
            obtain ⟨b1, b2, b3⟩ := fill_ok (order.take i) hF hv fun y hy => hin y (List.mem_of_mem_take hy)
            have hxn : x ∈ (fillQ ws qs (order.take i)).map QD.nm := by
              rw [b3.nm]
              exact hin x (List.mem_of_getElem? hz)
            obtain ⟨z, hzq, rfl⟩ := List.mem_map.mp hxn
            obtain ⟨r, r1, _, r3, r4, r5, _⟩ := gr_step b1 b2 hzq
            refine ⟨_, rfl, fun p hp => ⟨_, rfl, ?_⟩⟩
            have sp : Same Hc' (upd Hc' p (.dK [])) := .upd hp
            refine ⟨_, rfl, _, rfl, u3, true, ws, _, z.nm, rfl, sp.dp d3, b1.nn, b1.ng, fun z' hz' hn' H4 u4 s4 d4 => ?_, fun hno => absurd rfl (hno z hzq)⟩
            obtain rfl := nm_eq b1.ng hz' hzq hn'
            rw [r1] at d4
            cases d4
            have gp : H4 p = some (.dK []) := s4 _ _ upd_same
            refine ⟨gp, [(.inr z'.nm, .int r)], rfl, by show 1 ≤ 15; decide, ?_⟩
            have s5 : Same Hc' (upd H4 p (.dK (L2.mergeK [] [(.inr z'.nm, V.int r)]))) := (sp.trans s4).mut hp
            refine ⟨u3, p, true, ws, _, [(z'.nm, r)], rfl, s5.dp d3, by rw [upd_same]; rfl, by have := b1.q1; omega, fun H6 u6 s6 d6 => ?_⟩
            rw [chg_one b1.ng hzq, ← step_at b1.ng hzq r1] at d6
            refine ⟨_, u6, rfl, (sc.trans s5).trans s6, ?_⟩
            rw [List.take_add_one, hz]
            show Dp K H6 u6 (netD true ws (fillQ ws qs (order.take i ++ [z'.nm])))
            rw [fill_snoc]
            exact d6
        · obtain ⟨x2, u3, rfl, sc, d3⟩ := hh
          rw [lxo, List.take_length] at d3
          exact ret_ic (K := K) (ic_v rfl d3) fun H5 u5 s5 d5 => q1 H5 u5 (sc.trans s5) d5
end
end Jl

set_option Elab.async false
set_option linter.all false
set_option maxRecDepth 100000
set_option maxHeartbeats 1000000
set_option pp.maxSteps 300
namespace Jl
open PySem PySem.Spec PyProof.Rows L2
open Evl (sz_of sz_lt)
local macro_rules | `(tactic| walk_at "at") => `(tactic| first | exact box0 | exact box1 | exact box2)
local macro_rules | `(tactic| walk_at "sq") => `(tactic| first | (show SqL _ _ _ _; assumption) | (show SqT _ _ _ _; assumption) | (show _ = some _; assumption))
local macro_rules | `(tactic| walk_at "side") => `(tactic| first
  | (show (0 : Int) < _; decide)
  | (show (0 : Int) < _; omega)
  | exact ⟨by decide, by decide, by decide⟩
  | exact sz_of (Nat.le_of_ble_eq_true rfl)
  | exact rfl
  | exact Or.inl (by decide)
  | exact Or.inr (by decide)
  | exact Or.inr ⟨by omega, by omega⟩
  | exact Or.inl ⟨by omega, by omega⟩
  | exact ⟨by decide, by decide +kernel⟩)
local macro_rules | `(tactic| walk_at "ev1") => `(tactic| first
  | refine ⟨_, rfl, ?_⟩
  | refine ⟨_, _, rfl, rfl, ?_⟩
  | refine ⟨_, _, _, _, rfl, rfl, (by walk_at "sq"), (by walk_at "at"), ?_⟩
  | refine ⟨_, _, rfl, (by walk_at "sq"), ?_⟩
  | refine ⟨_, _, rfl, Or.inl (by walk_at "sq"), ?_⟩
  | refine ⟨_, _, rfl, Or.inr (by walk_at "sq"), ?_⟩
  | refine Or.inl ⟨_, rfl, ?_⟩
  | refine Or.inr ⟨_, rfl, ?_⟩
  | refine ⟨(by walk_at "side"), ?_⟩
  | refine ⟨.inl ⟨rfl, _, (by walk_at "sq")⟩, ?_⟩
  | refine ⟨_, _, rfl, ?_⟩)
local macro_rules | `(tactic| walk_at "nrm") => `(tactic| dsimp only [tNil, tCons, tC, tCB])
local macro_rules | `(tactic| walk_at "ev") => `(tactic| repeat (walk_at "ev1"))
/-- the greatest notice, found by trying -/
theorem gr_is {ws : List Str} {qs : List QD} {z : QD} (hn : ws.Nodup) (hG : NetG ws qs) (h0 : ws ≠ []) (hz : z ∈ qs) {r : Int} (h1 : 1 ≤ r) (h2 : r ≤ z.room) (hv : neverF ws (madeQ qs z.nm z.room r) = true) (hno : r = z.room ∨ neverF ws (madeQ qs z.nm z.room (r + 1)) = false) : grF ws qs z = some r := by
  have f1 := fits_iff.mpr ((lim_fits hn hG h0 hz h1 h2).mp hv)
  cases h : grF ws qs z with
  | none =>
    rw [gr_none h] at f1
    cases f1
  | some x =>
    obtain ⟨x1, x2, x3⟩ := gr_some h (by omega)
    have le := (x3 r h2).mp f1
    rcases hno with e | hno
    · rw [show x = r by omega]
    · by_cases c : x = r
      · rw [c]
      · have := (x3 (r + 1) (by omega)).mpr (by omega)
        have := (lim_fits hn hG h0 hz (by omega) (by omega)).mpr (fits_iff.mp this)
        rw [hno] at this
        cases this
theorem gr_isn {ws : List Str} {qs : List QD} {z : QD} (hn : ws.Nodup) (hG : NetG ws qs) (h0 : ws ≠ []) (hz : z ∈ qs) (h1 : 1 ≤ z.room) (hno : neverF ws (madeQ qs z.nm z.room 1) = false) : grF ws qs z = none := by
  cases h : grF ws qs z with
  | none => rfl
  | some x =>
    obtain ⟨x1, x2, x3⟩ := gr_some h h1
    have := (x3 1 h1).mpr x1
    have := (lim_fits hn hG h0 hz (Int.le_refl _) h1).mpr (fits_iff.mp this)
    rw [hno] at this
    cases this
theorem LimN.any2 {ws : List Str} {qs : List QD} {g : List (List Mk)} (h : LimN ws qs g) {x : Str} {sp gp : Int} (h2 : gp ≤ sp) : (!(badR (madeQ qs x sp gp) g).isEmpty) = !neverF ws (madeQ qs x sp gp) := by
  rw [never_rings h.nd (made_G h.ng (x := x) (sp := sp) (gp := gp)) h.h0 (rn_made h.rn) fun q hq => by
    obtain ⟨o, ho, rfl⟩ := List.mem_map.mp hq
    split
    · exact h2
    · exact h.gp o ho]
theorem LimN.any0 {ws : List Str} {qs : List QD} {g : List (List Mk)} (h : LimN ws qs g) : (!(badR qs g).isEmpty) = !neverF ws qs := by
  rw [never_rings h.nd h.ng h.h0 h.rn h.gp]
theorem LimN.kept {ws : List Str} {qs qs' : List QD} {g : List (List Mk)} (h : LimN ws qs g) (hF : FillN ws qs') (hk : Kept qs qs') : LimN ws qs' g := ⟨h.nd, hF.ng, h.h0, h.wl, by rw [duo_len hk.duo]; exact h.ql, rn_duo hk.duo h.rn, fun q hq => (hF.gp q hq).2⟩
/-! ### once all have got theirs, nothing changes -/
def MaxN (ws : List Str) (qs : List QD) (x : Str) : Prop := ∀ z ∈ qs, z.nm = x → grF ws qs z = some z.gap
theorem max_same {ws : List Str} {qs : List QD} (hF : FillN ws qs) {x : Str} (hx : x ∈ qs.map QD.nm) (hm : MaxN ws qs x) : stepQ ws qs x = qs := by
  obtain ⟨z, hz, rfl⟩ := List.mem_map.mp hx
  rw [step_at hF.ng hz (hm z hz rfl), made_own hF.ng hz]
theorem max_new {ws : List Str} {qs : List QD} (hF : FillN ws qs) (hv : neverF ws qs = true) {x : Str} (hx : x ∈ qs.map QD.nm) : MaxN ws (stepQ ws qs x) x := by
  obtain ⟨z, hz, rfl⟩ := List.mem_map.mp hx
  obtain ⟨r, r1, r2, r3, r4, r5, r6⟩ := gr_step hF hv hz
  rw [step_at hF.ng hz r1]
  intro y hy hn
  have hM := hF.made (x := z.nm) r3 r4
  obtain ⟨o, ho, e⟩ := List.mem_map.mp hy
  have ey : y = putQ z z.room r := by
    by_cases c : o.nm = z.nm
    · rw [if_pos c, nm_eq hF.ng ho hz c] at e
      exact e.symm
    · rw [if_neg c] at e
      rw [← e] at hn
      exact absurd hn c
  subst ey
  have em : ∀ k : Int, madeQ (madeQ qs z.nm z.room r) z.nm z.room k = madeQ qs z.nm z.room k := fun k => by
    unfold madeQ
    rw [List.map_map]
    refine List.map_congr_left fun q _ => ?_
    show (if (if q.nm = z.nm then putQ q z.room r else q).nm = z.nm then putQ (if q.nm = z.nm then putQ q z.room r else q) z.room k else (if q.nm = z.nm then putQ q z.room r else q)) = _
    by_cases c : q.nm = z.nm
    · rw [if_pos c, if_pos c]
      rw [if_pos (show (putQ q z.room r).nm = z.nm from c)]
      rfl
    · rw [if_neg c, if_neg c]
  refine gr_is hM.nd hM.ng hM.h0 hy r3 r4 ?_ ?_
  · show neverF ws (madeQ (madeQ qs z.nm z.room r) z.nm z.room r) = true
    rw [em]
    exact r5
  · show r = z.room ∨ neverF ws (madeQ (madeQ qs z.nm z.room r) z.nm z.room (r + 1)) = false
    rw [em]
    exact r6
theorem max_keep {ws : List Str} {qs : List QD} (hF : FillN ws qs) (hv : neverF ws qs = true) {x y : Str} (hy : y ∈ qs.map QD.nm) (hm : MaxN ws qs x) : MaxN ws (stepQ ws qs y) x := by
  obtain ⟨b1, b2, b3⟩ := fill_step hF hv hy
  obtain ⟨zy, hzy, rfl⟩ := List.mem_map.mp hy
  obtain ⟨r, r1, r2, r3, r4, r5, r6⟩ := gr_step hF hv hzy
  by_cases exy : x = zy.nm
  · rw [exy]
    exact max_new hF hv hy
  · rw [step_at hF.ng hzy r1] at b1 b2 ⊢
    intro z' hz' hn
    obtain ⟨o, ho, e⟩ := List.mem_map.mp hz'
    have eo : o = z' := by
      by_cases c : o.nm = zy.nm
      · rw [if_pos c] at e
        rw [← e] at hn
        exact absurd (hn.symm.trans c) exy
      · rw [if_neg c] at e
        exact e
    subst eo
    obtain ⟨k, k1, k2, k3, k4, k5, k6⟩ := gr_step hF hv ho
    have ek : k = o.gap := by
      have := hm o ho hn
      rw [k1] at this
      exact Option.some.inj this
    subst ek
    refine gr_is b1.nd b1.ng b1.h0 hz' k3 k4 ?_ ?_
    · rw [made_own b1.ng hz']
      exact b2
    · rcases k6 with k6 | k6
      · exact .inl k6
      · refine .inr ?_
        cases hc : neverF ws (madeQ (madeQ qs zy.nm zy.room r) o.nm o.room (o.gap + 1)) with
        | false => rfl
        | true =>
          have key : ∀ q ∈ madeQ qs o.nm o.room (o.gap + 1), ∃ q' ∈ madeQ (madeQ qs zy.nm zy.room r) o.nm o.room (o.gap + 1), tightQ q q' := fun q hq => ?_
          · have := never_mono hF.nd hF.h0 (made_G hF.ng) (made_G b1.ng) key hc
            rw [this] at k6
            cases k6
          · obtain ⟨p, hp, rfl⟩ := List.mem_map.mp hq
            refine ⟨_, List.mem_map.mpr ⟨_, List.mem_map.mpr ⟨p, hp, rfl⟩, rfl⟩, ?_⟩
            by_cases c1 : p.nm = zy.nm
            · have c2 : ¬ p.nm = o.nm := fun z => exy (hn.symm.trans (z.symm.trans c1))
              rw [if_neg c2, if_pos c1]
              rw [if_neg (show ¬ (putQ p zy.room r).nm = o.nm from c2)]
              have ep := nm_eq hF.ng hp hzy c1
              subst ep
              exact ⟨rfl, rfl, Int.le_refl _, r2⟩
            · rw [if_neg c1]
              exact ⟨rfl, rfl, Int.le_refl _, Int.le_refl _⟩
theorem fill_keep {ws : List Str} {x : Str} : ∀ (order : List Str) {qs : List QD}, FillN ws qs → neverF ws qs = true → (∀ y ∈ order, y ∈ qs.map QD.nm) → MaxN ws qs x → MaxN ws (fillQ ws qs order) x
  | [], _, _, _, _, h => h
  | y :: r, qs, hF, hv, ho, h => by
    obtain ⟨a1, a2, a3⟩ := fill_step hF hv (ho y List.mem_cons_self)
    exact fill_keep r a1 a2 (fun z hz => by rw [a3.nm]; exact ho z (List.mem_cons_of_mem _ hz)) (max_keep hF hv (ho y List.mem_cons_self) h)
theorem fill_max {ws : List Str} {x : Str} : ∀ (order : List Str) {qs : List QD}, FillN ws qs → neverF ws qs = true → (∀ y ∈ order, y ∈ qs.map QD.nm) → x ∈ order → MaxN ws (fillQ ws qs order) x
  | y :: r, qs, hF, hv, ho, hx => by
    obtain ⟨a1, a2, a3⟩ := fill_step hF hv (ho y List.mem_cons_self)
    have ho' : ∀ z ∈ r, z ∈ (stepQ ws qs y).map QD.nm := fun z hz => by rw [a3.nm]; exact ho z (List.mem_cons_of_mem _ hz)
    rcases List.mem_cons.mp hx with rfl | hx
    · exact fill_keep r a1 a2 ho' (max_new hF hv (ho _ List.mem_cons_self))
    · exact fill_max r a1 a2 ho' hx
theorem fill_again {ws : List Str} : ∀ (order : List Str) {qs : List QD}, FillN ws qs → (∀ x ∈ order, x ∈ qs.map QD.nm ∧ MaxN ws qs x) → fillQ ws qs order = qs
  | [], _, _, _ => rfl
  | y :: r, qs, hF, h => by
    obtain ⟨h1, h2⟩ := h y List.mem_cons_self
    show fillQ ws (stepQ ws qs y) r = qs
    rw [max_same hF h1 h2]
    exact fill_again r hF fun x hx => h x (List.mem_cons_of_mem _ hx)
theorem full_max {ws : List Str} {qs : List QD} (hF : FillN ws qs) (hv : neverF ws qs = true) (h : ∀ x ∈ qs.map QD.nm, MaxN ws qs x) : fullF ws qs = true := by
  unfold fullF
  rw [hv, Bool.true_and, List.all_eq_true]
  intro z hz
  obtain ⟨r, r1, r2, r3, r4, r5, r6⟩ := gr_step hF hv hz
  have := h _ (List.mem_map_of_mem hz) z hz rfl
  rw [r1] at this
  have e : r = z.gap := Option.some.inj this
  subst e
  rcases r6 with r6 | r6
  · rw [decide_eq_true r6]
    rfl
  · rw [r6, Bool.not_false, Bool.or_true]
end Jl

set_option Elab.async false
set_option linter.all false
set_option maxRecDepth 100000
set_option maxHeartbeats 1000000
set_option pp.maxSteps 300
namespace Jl
open PySem PySem.Spec PyProof.Rows L2
open Evl (sz_of sz_lt)
local macro_rules | `(tactic| walk_at "at") => `(tactic| first | exact box0 | exact box1 | exact box2)
local macro_rules | `(tactic| walk_at "sq") => `(tactic| first | (show SqL _ _ _ _; assumption) | (show SqT _ _ _ _; assumption) | (show _ = some _; assumption))
local macro_rules | `(tactic| walk_at "side") => `(tactic| first
  | (show (0 : Int) < _; decide)
  | (show (0 : Int) < _; omega)
  | exact ⟨by decide, by decide, by decide⟩
  | exact sz_of (Nat.le_of_ble_eq_true rfl)
  | exact rfl
  | exact Or.inl (by decide)
  | exact Or.inr (by decide)
  | exact Or.inr ⟨by omega, by omega⟩
  | exact Or.inl ⟨by omega, by omega⟩
  | exact ⟨by decide, by decide +kernel⟩)
local macro_rules | `(tactic| walk_at "ev1") => `(tactic| first
  | refine ⟨_, rfl, ?_⟩
  | refine ⟨_, _, rfl, rfl, ?_⟩
  | refine ⟨_, _, _, _, rfl, rfl, (by walk_at "sq"), (by walk_at "at"), ?_⟩
  | refine ⟨_, _, rfl, (by walk_at "sq"), ?_⟩
  | refine ⟨_, _, rfl, Or.inl (by walk_at "sq"), ?_⟩
  | refine ⟨_, _, rfl, Or.inr (by walk_at "sq"), ?_⟩
  | refine Or.inl ⟨_, rfl, ?_⟩
  | refine Or.inr ⟨_, rfl, ?_⟩
  | refine ⟨(by walk_at "side"), ?_⟩
  | refine ⟨.inl ⟨rfl, _, (by walk_at "sq")⟩, ?_⟩
  | refine ⟨_, _, rfl, ?_⟩)
local macro_rules | `(tactic| walk_at "nrm") => `(tactic| dsimp only [tNil, tCons, tC, tCB])
local macro_rules | `(tactic| walk_at "ev") => `(tactic| repeat (walk_at "ev1"))
abbrev sc_w_is_full_N : List Str := ["_law_web_here", "_law_found", "_law_some", "_law_own"]
abbrev s_w_is_full : Stmt := topS 33
theorem sc_w_is_full : FnScope ["_law_web_here", "_law_found", "_law_some", "_law_own"] ["_law_web_here", "_law_found"] (defScope s_w_is_full) := ⟨rfl, rfl, rfl, by decide +kernel, rfl, by decide +kernel, by decide +kernel⟩
section
variable {K : PySem.W.Frag} {S : List Addr} {H0 : Hp} {σ : L2.St} {te : TE} {d : PyData} {ds : List PyData}
theorem ic_atL {j : Int} (k : Nat) (h : IsC K S H0 te (.list ds) σ) (hd : ds[k]? = some d) (hj : j = (k : Nat) := by rfl) : IsC K S H0 (tOp (rIxL K) te (tC (.int j))) d σ := fun H Q e tr q => h H _ e tr fun H1 v s1 d1 => by
  obtain ⟨a, xs, rfl, ha, hx⟩ := Dp.seq_of (f := false) d1
  obtain ⟨u, hu, du⟩ := dpa_get' hx hd
  exact ⟨a, xs, _, u, rfl, rfl, cutS_le.sqL ha, by rw [hj]; exact atI_nat hu, q H1 u s1 du⟩
end
theorem all_congr' {α : Type} {f g : α → Bool} : ∀ {l : List α}, (∀ x ∈ l, f x = g x) → l.all f = l.all g
  | [], _ => rfl
  | a :: l, h => by
    rw [List.all_cons, List.all_cons, h a List.mem_cons_self, all_congr' fun x hx => h x (List.mem_cons_of_mem _ hx)]
def qrow (z : QD) : List PyData := [.str z.nm, .str z.st, .str z.en, .int z.room, .int z.gap]
theorem filter_one {ws : List Str} {qs : List QD} (hG : NetG ws qs) {z : QD} (hz : z ∈ qs) : (qs.filter fun q => decide (q.nm = z.nm))[0]? = some z := by
  have hm : z ∈ qs.filter fun q => decide (q.nm = z.nm) := List.mem_filter.mpr ⟨hz, decide_eq_true rfl⟩
  cases hf : qs.filter fun q => decide (q.nm = z.nm) with
  | nil =>
    rw [hf] at hm
    cases hm
  | cons a b =>
    have ha : a ∈ qs.filter fun q => decide (q.nm = z.nm) := by rw [hf]; exact List.mem_cons_self
    obtain ⟨h1, h2⟩ := List.mem_filter.mp ha
    rw [nm_eq hG h1 hz (of_decide_eq_true h2)]
    rfl
section
variable {P : Program} {w : World} {K : PySem.W.Frag} {mg : Str → Option Value} {base : Heap}
theorem ic_anyW {H0 : Hp} {σ : L2.St} {E1 E2 : XK} {t1 t2 t3 t4 t5 : TE} {ws : List Str} {qs : List QD} {g : List (List Mk)} {x : Str} {sp gp : Int} (h1 : IsC K [] H0 t1 (netD true ws qs) σ) (h2 : IsC K [] H0 t2 (.str x) σ) (h3 : IsC K [] H0 t3 (.int sp) σ) (h4 : IsC K [] H0 t4 (.int gp) σ) (h5 : IsC K [] H0 t5 (.list (g.map rowL)) σ) (hL : LimN ws qs g) (hg : gp ≤ sp) : IsC K [] H0 (tCall (spAnyB K) [] E1 (tCons (tCall (spWith K) [] E2 (tCons t1 (tCons t2 (tCons t3 (tCons t4 tNil))))) (tCons t5 tNil))) (.bool (!neverF ws (madeQ qs x sp gp))) σ := fun H Q e tr q => by
  refine h1 H _ e tr fun H1 v1 s1 d1 => h2 H1 _ (e.trans s1) (tr.mono s1) fun H2 v2 s2 d2 => h3 H2 _ ((e.trans s1).trans s2) ((tr.mono s1).mono s2) fun H3 v3 s3 d3 => h4 H3 _ (((e.trans s1).trans s2).trans s3) (((tr.mono s1).mono s2).mono s3) fun H4 v4 s4 d4 => ?_
  rw [cutS_nil] at d1 d2 d3 d4
  cases d2
  cases d3
  cases d4
  have t4' := ((e.trans s1).trans s2).trans (s3.trans s4)
  refine ⟨v1, ws, qs, x, sp, gp, rfl, ((s2.trans s3).trans s4).dp d1, by have := hL.ql; omega, fun H5 u5 s5 d5 => h5 H5 _ (t4'.trans s5) Trk.nil fun H6 u6 s6 d6 => ?_⟩
  rw [cutS_nil] at d6
  refine ⟨u5, u6, ws, madeQ qs x sp gp, g, rfl, s6.dp d5, d6, (fun r hr => by rw [made_len]; exact hL.rows r hr), fun H7 s7 => ?_⟩
  rw [hL.any2 hg]
  exact q H7 _ ((((s1.trans s2).trans (s3.trans s4)).trans s5).trans (s6.trans s7)) (.bl _)
theorem ic_any0 {H0 : Hp} {σ : L2.St} {E1 : XK} {t1 t5 : TE} {ws : List Str} {qs : List QD} {g : List (List Mk)} (h1 : IsC K [] H0 t1 (netD true ws qs) σ) (h5 : IsC K [] H0 t5 (.list (g.map rowL)) σ) (hL : LimN ws qs g) : IsC K [] H0 (tCall (spAnyB K) [] E1 (tCons t1 (tCons t5 tNil))) (.bool (!neverF ws qs)) σ := fun H Q e tr q => by
  refine h1 H _ e tr fun H1 v1 s1 d1 => h5 H1 _ (e.trans s1) (tr.mono s1) fun H2 v2 s2 d2 => ?_
  rw [cutS_nil] at d1 d2
  refine ⟨v1, v2, ws, qs, g, rfl, s2.dp d1, d2, hL.rows, fun H7 s7 => ?_⟩
  rw [hL.any0]
  exact q H7 _ ((s1.trans s2).trans s7) (.bl _)
def spIsFull (K : PySem.W.Frag) : Sp := fun vs H Q _ => ∃ (v u : V) (ws : List Str) (qs : List QD) (g : List (List Mk)), vs = [v, u] ∧ Dp K H v (netD true ws qs) ∧ Dp K H u (.list (g.map rowL)) ∧ LimN ws qs g ∧ ∀ H', Same H H' → Q (.bl (fullF ws qs)) H'
theorem ok_w_is_full {f fB fW : Addr} {fd fdB fdW : FuncData} {k : Nat} (F : Fun K "_law_is_full" "_law_is_full" s_w_is_full f fd)
    (G_w_with : FnOk P w K mg base CX0 k fW fdW ["_law_web_here", "_law_mark", "_law_space", "_law_gap"] (spWith K)) (g_w_with : mg "_law_with" = some (.ref fW)) (F_w_with : Fun K "_law_with" "_law_with" s_w_with fW fdW) (b_w_with : Binds K fdW ["_law_web_here", "_law_mark", "_law_space", "_law_gap"] [])
    (G_w_any_bad : FnOk P w K mg base CX0 k fB fdB ["_law_web_here", "_law_found"] (spAnyB K)) (g_w_any_bad : mg "_law_any_bad" = some (.ref fB)) (F_w_any_bad : Fun K "_law_any_bad" "_law_any_bad" s_w_any_bad fB fdB) (b_w_any_bad : Binds K fdB ["_law_web_here", "_law_found"] []) (m_all : mg "all" = none) : FnOk P w K mg base CX0 (k + 1) f fd ["_law_web_here", "_law_found"] (spIsFull K) := by
  refine F.ok sc_w_is_full (fun vs H Q E h => ?_) (fun cdv A outer s0 H vs Q E hr h => ?_)
  · obtain ⟨v, u, ws, qs, g, rfl, _⟩ := h
    rfl
  · obtain ⟨v, u, ws, qs, g, rfl, hD, hU, hL, q⟩ := h
    refine ⟨_, (pss_cons (ps_if (pt_val (pe_call G_w_any_bad hr (by rfl) g_w_any_bad F_w_any_bad.kp b_w_any_bad .nil pass0 (pa_cons (pv 0) (pa_cons (pv 1) pa_nil)))) (pss_one (ps_ret pe_bl)) pss_nil) 
    (pss_cons (ps_setLcX (ps_setLc (i := 2) (own := [("_law_own", 3)]) (g := gName 3) (tt := (tTest (tOp (rI0 fun i j => .bl (decide (i < j))) (tOp (rIxF K) (tVar 3) (tC (.int 4))) (tOp (rIxF K) (tVar 3) (tC (.int 3)))))) rfl sc_w_is_full.nd rfl rfl (sw_true rfl rfl rfl (by decide +kernel)) (pi_seq (pe_ix ix_lt (pv 0) pe_int (fun _ _ => rfl))) (blkOk_by (own := [("_law_own", 3)]) (N := sc_w_is_full_N) (sc := defScope s_w_is_full) (by decide +kernel)) (fun _ _ _ _ _ => pg_name (i := 3) sc_w_is_full.nd rfl (Or.inl rfl)) (fun _ _ _ _ _ => (pts_one (pt_cmpR op_lt (pe_ix ix_lt (pv 3) pe_int (fun _ _ => rfl)) (pe_ix ix_lt (pv 3) pe_int (fun _ _ => rfl)) (nomark _)))) (fun _ _ _ _ _ => (pv 3)))) 
    (pss_one (ps_ret (pe_callB (cr_all rfl) (by rfl) m_all (by decide +kernel) (pa_cons (pe_lcX (pe_lc (own := [("_law_own", 3)]) (g := gName 3) (tt := tYes) (te := (tCall (spAnyB K) [] E0 (tCons (tCall (spWith K) [] E0 (tCons (tVar 0) (tCons (tOp (rIxF K) (tVar 3) (tC (.int 0))) (tCons (tOp (rIxF K) (tVar 3) (tC (.int 3))) (tCons (tOp (rI0 fun i j => .int (i + j)) (tOp (rIxF K) (tVar 3) (tC (.int 4))) (tC (.int 1))) tNil))))) (tCons (tVar 1) tNil)))) (by rfl) sc_w_is_full.nd (pi_seq (pv 2)) (blkOk_by (own := [("_law_own", 3)]) (N := sc_w_is_full_N) (sc := defScope s_w_is_full) (by decide +kernel)) (fun _ _ _ _ _ => pg_name (i := 3) sc_w_is_full.nd rfl (Or.inl rfl)) (fun _ _ _ _ _ => pts_nil) (fun _ _ _ _ _ => (pe_call G_w_any_bad hr (by rfl) g_w_any_bad F_w_any_bad.kp b_w_any_bad .nil pass0 (pa_cons (pe_call G_w_with hr (by rfl) g_w_with F_w_with.kp b_w_with .nil pass0 (pa_cons (pv 0) (pa_cons (pe_ix ix_lt (pv 3) pe_int (fun _ _ => rfl)) (pa_cons (pe_ix ix_lt (pv 3) pe_int (fun _ _ => rfl)) (pa_cons (pe_op op_add (pe_ix ix_lt (pv 3) pe_int (fun _ _ => rfl)) pe_int) pa_nil))))) (pa_cons (pv 1) pa_nil)))))) pa_nil)))))), ?_⟩
    rw [show L2.start sc_w_is_full_N [v, u] = [some v, some u, none, none] from rfl]
    have hql := hL.ql
    have hD' : Dp K H v (seqD true [seqD true (ws.map PyData.str), seqD true (qs.map (QD.d true))]) := hD
    refine if_ist (ist_val (ic_any0 (ic_v rfl hD) (ic_v rfl hU) hL)) fun H1 s1 => ?_
    unfold fullF at q
    cases hv : neverF ws qs with
    | false =>
      refine iteT ?_
      rw [hv] at q
      exact ret_bl (K := K) (b := false) ic_bl fun H2 s2 => q H2 (s1.trans s2)
    | true =>
      refine iteF ?_
      dsimp only [tNext]
      rw [hv, Bool.true_and] at q
      have row : ∀ {H : Hp} {x : V} {z : QD}, Dp K H x (QD.d true z) → Dp K H x (seqD true (qrow z)) := fun h => h
      refine asg_ic (K := K) (d := .list ((qs.filter fun z : QD => decide (z.gap < z.room)).map (QD.d true))) (ic_lcf (K := K) (S := []) (fb := true) qs (QD.d true) (QD.d true) (fun z : QD => decide (z.gap < z.room)) (ic_at (fb := true) 1 (ic_v rfl (s1.dp hD')) rfl) (by omega) (fun x => rfl) (fun z H2 x hz e hx => ist_cmp (ic_ltI (ic_at (ds := qrow z) 4 (ic_v rfl (row hx)) rfl) (ic_at (ds := qrow z) 3 (ic_v rfl (row hx)) rfl))) fun z H2 T x hz _ e1 e2 hx => ic_var rfl hx) fun H2 v2 s2 d2 => ?_
      dsimp only [List.set]
      have t2 := s1.trans s2
      refine ret_bl (K := K) (ic_allL (bs := (qs.filter fun z : QD => decide (z.gap < z.room)).map fun z : QD => !neverF ws (madeQ qs z.nm z.room (z.gap + 1))) ?_) fun H3 s3 => ?_
      · rw [List.map_map]
        refine ic_lc (K := K) (S := []) (fb := false) (qs.filter fun z : QD => decide (z.gap < z.room)) (QD.d true) (PyData.bool ∘ fun z : QD => !neverF ws (madeQ qs z.nm z.room (z.gap + 1))) (ic_v rfl d2) (Nat.le_trans (List.length_filter_le _ _) (by omega)) (fun x => rfl) fun z H3 T x hz e1 e2 hx => ?_
        have hlt : z.gap < z.room := of_decide_eq_true (List.mem_filter.mp hz).2
        have hx' : Dp K H3 x (seqD true (qrow z)) := cutS_le.dp hx
        have ic := ic_anyW (K := K) (E1 := E0) (E2 := E0) (x := z.nm) (sp := z.room) (gp := z.gap + 1) (σ := [some v, some u, some v2, some x]) (t1 := tVar 0) (t2 := tOp (rIxF K) (tVar 3) (tC (.int 0))) (t3 := tOp (rIxF K) (tVar 3) (tC (.int 3))) (t4 := tOp (rI0 fun i j => .int (i + j)) (tOp (rIxF K) (tVar 3) (tC (.int 4))) (tC (.int 1))) (t5 := tVar 1) (ic_v rfl ((t2.trans e1).dp hD)) (ic_at (ds := qrow z) 0 (ic_v rfl hx') rfl) (ic_at (ds := qrow z) 3 (ic_v rfl hx') rfl) (ic_addI (ic_at (ds := qrow z) 4 (ic_v rfl hx') rfl) ic_int) (ic_v rfl ((t2.trans e1).dp hU)) hL (by omega)
        intro H4 Q4 e4 tr4 q4
        exact ic H4 Q4 e4 Trk.nil fun H5 v5 s5 d5 => by
          rw [cutS_nil] at d5
          cases d5
          exact q4 H5 _ s5 (.bl _)
      · have e : ((qs.filter fun z : QD => decide (z.gap < z.room)).map fun z : QD => !neverF ws (madeQ qs z.nm z.room (z.gap + 1))).all id = qs.all fun z : QD => decide (z.gap = z.room) || !neverF ws (madeQ qs z.nm z.room (z.gap + 1)) := by
          rw [List.all_map, List.all_filter]
          refine all_congr' fun z hz => ?_
          have := hL.gp z hz
          by_cases c : z.gap = z.room
          · rw [decide_eq_true c, decide_eq_false (show ¬ z.gap < z.room by omega)]
            rfl
          · rw [decide_eq_false c, decide_eq_true (show z.gap < z.room by omega)]
            rfl
        rw [e]
        exact q H3 (t2.trans s3)
end
end Jl

set_option Elab.async false
set_option linter.all false
set_option maxRecDepth 100000
set_option maxHeartbeats 1000000
set_option pp.maxSteps 300
namespace Jl
open PySem PySem.Spec PyProof.Rows L2
open Evl (sz_of sz_lt)
local macro_rules | `(tactic| walk_at "at") => `(tactic| first | exact box0 | exact box1 | exact box2)
local macro_rules | `(tactic| walk_at "sq") => `(tactic| first | (show SqL _ _ _ _; assumption) | (show SqT _ _ _ _; assumption) | (show _ = some _; assumption))
local macro_rules | `(tactic| walk_at "side") => `(tactic| first
  | (show (0 : Int) < _; decide)
  | (show (0 : Int) < _; omega)
  | exact ⟨by decide, by decide, by decide⟩
  | exact sz_of (Nat.le_of_ble_eq_true rfl)
  | exact rfl
  | exact Or.inl (by decide)
  | exact Or.inr (by decide)
  | exact Or.inr ⟨by omega, by omega⟩
  | exact Or.inl ⟨by omega, by omega⟩
  | exact ⟨by decide, by decide +kernel⟩)
local macro_rules | `(tactic| walk_at "ev1") => `(tactic| first
  | refine ⟨_, rfl, ?_⟩
  | refine ⟨_, _, rfl, rfl, ?_⟩
  | refine ⟨_, _, _, _, rfl, rfl, (by walk_at "sq"), (by walk_at "at"), ?_⟩
  | refine ⟨_, _, rfl, (by walk_at "sq"), ?_⟩
  | refine ⟨_, _, rfl, Or.inl (by walk_at "sq"), ?_⟩
  | refine ⟨_, _, rfl, Or.inr (by walk_at "sq"), ?_⟩
  | refine Or.inl ⟨_, rfl, ?_⟩
  | refine Or.inr ⟨_, rfl, ?_⟩
  | refine ⟨(by walk_at "side"), ?_⟩
  | refine ⟨.inl ⟨rfl, _, (by walk_at "sq")⟩, ?_⟩
  | refine ⟨_, _, rfl, ?_⟩)
local macro_rules | `(tactic| walk_at "nrm") => `(tactic| dsimp only [tNil, tCons, tC, tCB])
local macro_rules | `(tactic| walk_at "ev") => `(tactic| repeat (walk_at "ev1"))
abbrev sc_w_pass_N : List Str := ["_law_web_here", "_law_found", "_law_marks", "_law_made", "_law_mark", "_law_own", "_law_gap", "_law_bit"]
abbrev s_w_pass : Stmt := topS 34
theorem sc_w_pass : FnScope ["_law_web_here", "_law_found", "_law_marks", "_law_made", "_law_mark", "_law_own", "_law_gap", "_law_bit"] ["_law_web_here", "_law_found", "_law_marks"] (defScope s_w_pass) := ⟨rfl, rfl, rfl, by decide +kernel, rfl, by decide +kernel, by decide +kernel⟩
section
variable {P : Program} {w : World} {K : PySem.W.Frag} {mg : Str → Option Value} {base : Heap}
theorem ic_with {H0 : Hp} {σ : L2.St} {E2 : XK} {t1 t2 t3 t4 : TE} {ws : List Str} {qs : List QD} {x : Str} {sp gp : Int} (h1 : IsC K [] H0 t1 (netD true ws qs) σ) (h2 : IsC K [] H0 t2 (.str x) σ) (h3 : IsC K [] H0 t3 (.int sp) σ) (h4 : IsC K [] H0 t4 (.int gp) σ) (hl : qs.length ≤ 500) : IsC K [] H0 (tCall (spWith K) [] E2 (tCons t1 (tCons t2 (tCons t3 (tCons t4 tNil))))) (netD true ws (madeQ qs x sp gp)) σ := fun H Q e tr q => by
  refine h1 H _ e tr fun H1 v1 s1 d1 => h2 H1 _ (e.trans s1) (tr.mono s1) fun H2 v2 s2 d2 => h3 H2 _ ((e.trans s1).trans s2) ((tr.mono s1).mono s2) fun H3 v3 s3 d3 => h4 H3 _ (((e.trans s1).trans s2).trans s3) (((tr.mono s1).mono s2).mono s3) fun H4 v4 s4 d4 => ?_
  rw [cutS_nil] at d1 d2 d3 d4
  cases d2
  cases d3
  cases d4
  exact ⟨v1, ws, qs, x, sp, gp, rfl, ((s2.trans s3).trans s4).dp d1, hl, fun H5 u5 s5 d5 => q H5 u5 (((s1.trans s2).trans (s3.trans s4)).trans s5) (by rw [cutS_nil]; exact d5)⟩
def spPass (K : PySem.W.Frag) : Sp := fun vs H Q _ => ∃ (v u o : V) (ws : List Str) (qs : List QD) (g : List (List Mk)) (marks : List Str), vs = [v, u, o] ∧ Dp K H v (netD true ws qs) ∧ Dp K H u (.list (g.map rowL)) ∧ Dp K H o (.tuple (marks.map PyData.str)) ∧ LimN ws qs g ∧ FillN ws qs ∧ neverF ws qs = true ∧ (∀ q ∈ qs, q.room < 2 ^ 62) ∧ (∀ x ∈ marks, x ∈ qs.map QD.nm) ∧ ∀ H' u, Same H H' → Dp K H' u (netD true ws (fillQ ws qs marks)) → Q u H'
theorem ok_w_pass {f fB fW : Addr} {fd fdB fdW : FuncData} {k : Nat} (F : Fun K "_law_pass" "_law_pass" s_w_pass f fd)
    (G_w_with : FnOk P w K mg base CX0 k fW fdW ["_law_web_here", "_law_mark", "_law_space", "_law_gap"] (spWith K)) (g_w_with : mg "_law_with" = some (.ref fW)) (F_w_with : Fun K "_law_with" "_law_with" s_w_with fW fdW) (b_w_with : Binds K fdW ["_law_web_here", "_law_mark", "_law_space", "_law_gap"] [])
    (G_w_any_bad : FnOk P w K mg base CX0 k fB fdB ["_law_web_here", "_law_found"] (spAnyB K)) (g_w_any_bad : mg "_law_any_bad" = some (.ref fB)) (F_w_any_bad : Fun K "_law_any_bad" "_law_any_bad" s_w_any_bad fB fdB) (b_w_any_bad : Binds K fdB ["_law_web_here", "_law_found"] []) : FnOk P w K mg base CX0 (k + 1) f fd ["_law_web_here", "_law_found", "_law_marks"] (spPass K) := by
  refine F.ok sc_w_pass (fun vs H Q E h => ?_) (fun cdv A outer s0 H vs Q E hr h => ?_)
  · obtain ⟨v, u, o, ws, qs, g, marks, rfl, _⟩ := h
    rfl
  · obtain ⟨v, u, o, ws, qs, g, marks, rfl, hD, hU, hO, hL, hF, hv, hroom, hin, q⟩ := h
    refine ⟨_, (pss_cons (ps_set (i := 3) sc_w_pass.nd rfl (Or.inl rfl) (pv 0)) 
    (pss_cons (ps_forX (ps_for PassesOwn.never rfl (pi_seq (pv 2)) (pg_name (i := 4) sc_w_pass.nd rfl (Or.inr rfl)) 
      (pss_cons (ps_set (i := 5) sc_w_pass.nd rfl (Or.inl rfl) (pe_ix ix_list (pe_lcX (pe_lc (own := [("_law_bit", 7)]) (g := gName 7) (tt := (tTest (tOp rEq (tOp (rIxF K) (tVar 7) (tC (.int 0))) (tVar 4)))) (by rfl) sc_w_pass.nd (pi_seq (pe_ix ix_lt (pv 3) pe_int (fun _ _ => rfl))) (blkOk_by (own := [("_law_bit", 7)]) (N := sc_w_pass_N) (sc := defScope s_w_pass) (by decide +kernel)) (fun _ _ _ _ _ => pg_name (i := 7) sc_w_pass.nd rfl (Or.inl rfl)) (fun _ _ _ _ _ => (pts_one (pt_cmpR op_eq (pe_ix ix_lt (pv 7) pe_int (fun _ _ => rfl)) (pv 4) (nomark _)))) (fun _ _ _ _ _ => (pv 7)))) pe_int (fun _ _ => rfl))) 
      (pss_cons (ps_set (i := 6) sc_w_pass.nd rfl (Or.inl rfl) (pe_ix ix_lt (pv 5) pe_int (fun _ _ => rfl))) 
      (pss_cons (ps_whileX (ps_while PassesOwn.never (PW.pt (pw_and (pt_cmpR op_lt (pv 6) (pe_ix ix_lt (pv 5) pe_int (fun _ _ => rfl)) (nomark _)) (pw_and1 (pt_not (pt_val (pe_call G_w_any_bad hr (by rfl) g_w_any_bad F_w_any_bad.kp b_w_any_bad .nil pass0 (pa_cons (pe_call G_w_with hr (by rfl) g_w_with F_w_with.kp b_w_with .nil pass0 (pa_cons (pv 3) (pa_cons (pv 4) (pa_cons (pe_ix ix_lt (pv 5) pe_int (fun _ _ => rfl)) (pa_cons (pe_op op_add (pv 6) pe_int) pa_nil))))) (pa_cons (pv 1) pa_nil)))))))) (pss_one (ps_set (i := 6) sc_w_pass.nd rfl (Or.inl rfl) (pe_op op_add (pv 6) pe_int))))) 
      (pss_one (ps_set (i := 3) sc_w_pass.nd rfl (Or.inl rfl) (pe_call G_w_with hr (by rfl) g_w_with F_w_with.kp b_w_with .nil pass0 (pa_cons (pv 3) (pa_cons (pv 4) (pa_cons (pe_ix ix_lt (pv 5) pe_int (fun _ _ => rfl)) (pa_cons (pv 6) pa_nil)))))))))))) 
    (pss_one (ps_ret (pv 3))))), ?_⟩
    rw [show L2.start sc_w_pass_N [v, u, o] = [some v, some u, some o, none, none, none, none, none] from rfl]
    have hql := hL.ql
    obtain ⟨ao, xo, rfl, ho, hxo⟩ := Dp.seq_of (f := true) hO
    have exo := dpa_strs_of hxo
    subst exo
    have lxo : (marks.map V.str).length = marks.length := List.length_map _
    refine asg_of ?_
    refine ⟨_, rfl, ?_⟩
    dsimp only [List.set]
    refine for_of ?_
    refine iSeq_at (fun R' r => ⟨_, rfl, r⟩) ho fun J wk => ?_
    refine forR_it wk (fun i σ Hc => ∃ (u3 : V) (x4 x5 x6 : Option V), σ = [some v, some u, some (.ref ao), some u3, x4, x5, x6, none] ∧ Same H Hc ∧ Dp K Hc u3 (netD true ws (fillQ ws qs (marks.take i)))) ⟨v, none, none, none, rfl, (fun _ _ e => e), hD⟩ (fun i σ Hc _ hh => ?_) (fun i y σ Hc Hc' hi hh hy => ?_) (fun σ Hc hh => ?_)
    · obtain ⟨u3, x4, x5, x6, rfl, sc, _⟩ := hh
      exact sc.sqF ho
    · obtain ⟨u3, x4, x5, x6, rfl, sc, d3⟩ := hh
      obtain ⟨rfl, hv'⟩ := hy
      rw [List.getElem?_map] at hv'
      cases hzm : marks[i]? with
      | none =>
        rw [hzm] at hv'
        cases hv'
      | some x =>
        rw [hzm] at hv'
        cases hv'
        obtain ⟨b1, b2, b3⟩ := fill_ok (marks.take i) hF hv fun y hy => hin y (List.mem_of_mem_take hy)
        have hL' := hL.kept b1 b3
        have hxn : x ∈ (fillQ ws qs (marks.take i)).map QD.nm := by
          rw [b3.nm]
          exact hin x (List.mem_of_getElem? hzm)
        obtain ⟨z, hz, rfl⟩ := List.mem_map.mp hxn
        obtain ⟨g1, g2⟩ := b1.gp z hz
        have hev : fillQ ws qs (marks.take (i + 1)) = stepQ ws (fillQ ws qs (marks.take i)) z.nm := by
          rw [List.take_add_one, hzm]
          exact fill_snoc
        generalize fillQ ws qs (marks.take i) = qc at d3 b1 b2 b3 hL' hz hev
        have d3' : Dp K Hc' u3 (seqD true [seqD true (ws.map PyData.str), seqD true (qc.map (QD.d true))]) := d3
        have row : ∀ {H : Hp} {x : V} {z : QD}, Dp K H x (QD.d true z) → Dp K H x (seqD true (qrow z)) := fun h => h
        have hlc := hL'.ql
        refine asg_ic (K := K) (d := QD.d true z) (ic_atL (K := K) (S := []) (ds := (qc.filter fun y : QD => decide (y.nm = z.nm)).map (QD.d true)) 0 (ic_lcf (K := K) (S := []) (fb := true) qc (QD.d true) (QD.d true) (fun y : QD => decide (y.nm = z.nm)) (ic_at (fb := true) 1 (ic_v rfl d3') rfl) (by omega) (fun x => rfl) (fun y H2 x hy e hx => ist_cmp (ic_eqS (ic_at (ds := qrow y) 0 (ic_v rfl (row hx)) rfl) (ic_v rfl (.str _)))) fun y H2 T x hy _ e1 e2 hx => ic_var rfl hx) (by rw [List.getElem?_map, filter_one b1.ng hz]; rfl)) fun H1 v5 s1 d5 => ?_
        dsimp only [List.set]
        have d5' : Dp K H1 v5 (seqD true (qrow z)) := d5
        refine asg_ic (K := K) (d := .int z.gap) (ic_at (ds := qrow z) 4 (ic_v rfl d5') rfl) fun H2 v6 s2 d6 => ?_
        cases d6
        dsimp only [List.set]
        have t2 := s1.trans s2
        refine seq_byC (fun σ Hz => ∃ r : Int, σ = [some v, some u, some (.ref ao), some u3, some (.str z.nm), some v5, some (.int r), none] ∧ Same H2 Hz ∧ grF ws qc z = some r) (fun σ Hz hh => ?_) (fun D' hD' => ?_)
        · obtain ⟨r, rfl, sz, hr⟩ := hh
          have tz := t2.trans sz
          refine asg_one (K := K) (ic_with (ic_v rfl (tz.dp d3)) (ic_v rfl (.str _)) (ic_at (ds := qrow z) 3 (ic_v rfl ((s2.trans sz).dp d5')) rfl) (ic_v rfl (.int _)) (by omega)) fun H5 u5 s5 d5 => ⟨u5, _, _, _, rfl, (sc.trans tz).trans s5, ?_⟩
          rw [hev, step_at b1.ng hz hr]
          exact d5
        · refine .yes ⟨fun n σ Hc => ∃ r : Int, n = (z.room - r).toNat ∧ σ = [some v, some u, some (.ref ao), some u3, some (.str z.nm), some v5, some (.int r), none] ∧ Same H2 Hc ∧ z.gap ≤ r ∧ r ≤ z.room ∧ neverF ws (madeQ qc z.nm z.room r) = true, ⟨_, z.gap, rfl, rfl, (fun _ _ e => e), Int.le_refl _, g2, by rw [made_own b1.ng hz]; exact b2⟩, fun n σ Hd hW => ?_⟩
          obtain ⟨r, rfl, rfl, sd, r1, r2, r3⟩ := hW
          have td := t2.trans sd
          have d5d := (s2.trans sd).dp d5'
          have tt : IsT [] Hd (tAnd (tTest (tOp (rI0 fun i j => .bl (decide (i < j))) (tVar 6) (tOp (rIxF K) (tVar 5) (tC (.int 3))))) (tNot (tB (tCall (spAnyB K) [] E0 (tCons (tCall (spWith K) [] E0 (tCons (tVar 3) (tCons (tVar 4) (tCons (tOp (rIxF K) (tVar 5) (tC (.int 3))) (tCons (tOp (rI0 fun i j => .int (i + j)) (tVar 6) (tC (.int 1))) tNil))))) (tCons (tVar 1) tNil)))))) (decide (r < z.room) && neverF ws (madeQ qc z.nm z.room (r + 1))) [some v, some u, some (.ref ao), some u3, some (.str z.nm), some v5, some (.int r), none] :=
            ist_and (ist_cmp (ic_ltI (ic_v rfl (.int _)) (ic_at (ds := qrow z) 3 (ic_v rfl d5d) rfl))) fun hlt => ist_b (ist_not (ist_val (ic_anyW (ic_v rfl (td.dp d3)) (ic_v rfl (.str _)) (ic_at (ds := qrow z) 3 (ic_v rfl d5d) rfl) (ic_addI (ic_v rfl (.int _)) ic_int) (ic_v rfl ((sc.trans td).dp hU)) hL' (by have := of_decide_eq_true hlt; omega)))) (Bool.not_not _)
          refine tt Hd _ (fun _ _ e => e) Trk.nil fun He se => ?_
          by_cases c : r < z.room
          · cases hn : neverF ws (madeQ qc z.nm z.room (r + 1)) with
            | true =>
              rw [decide_eq_true c]
              refine iteT ⟨fun σ Hn => ∃ r' : Int, (z.room - r').toNat < (z.room - r).toNat ∧ σ = [some v, some u, some (.ref ao), some u3, some (.str z.nm), some v5, some (.int r'), none] ∧ Same H2 Hn ∧ z.gap ≤ r' ∧ r' ≤ z.room ∧ neverF ws (madeQ qc z.nm z.room r') = true, fun σ' H' hh => ?_, ?_⟩
              · obtain ⟨r', k0, k1, k2, k3, k4, k5⟩ := hh
                exact ⟨_, k0, r', rfl, k1, k2, k3, k4, k5⟩
              · refine asg_one (K := K) (d := .int (r + 1)) (ic_addI (ic_v rfl (.int _)) ic_int) fun H5 v5' s5 d5 => ?_
                cases d5
                exact ⟨r + 1, by omega, rfl, (sd.trans se).trans s5, by omega, by omega, hn⟩
            | false =>
              rw [Bool.and_false]
              refine iteF (hD' _ _ ⟨r, rfl, sd.trans se, gr_is b1.nd b1.ng b1.h0 hz (by omega) r2 r3 (.inr hn)⟩)
          · rw [decide_eq_false c, Bool.false_and]
            exact iteF (hD' _ _ ⟨r, rfl, sd.trans se, gr_is b1.nd b1.ng b1.h0 hz (by omega) r2 r3 (.inl (by omega))⟩)
    · obtain ⟨u3, x4, x5, x6, rfl, sc, d3⟩ := hh
      rw [lxo, List.take_length] at d3
      exact ret_ic (K := K) (ic_v rfl d3) fun H5 u5 s5 d5 => q H5 u5 (sc.trans s5) d5
end
end Jl

set_option Elab.async false
set_option linter.all false
set_option maxRecDepth 100000
set_option maxHeartbeats 1000000
set_option pp.maxSteps 300
namespace Jl
open PySem PySem.Spec PyProof.Rows L2
open Evl (sz_of sz_lt)
local macro_rules | `(tactic| walk_at "at") => `(tactic| first | exact box0 | exact box1 | exact box2)
local macro_rules | `(tactic| walk_at "sq") => `(tactic| first | (show SqL _ _ _ _; assumption) | (show SqT _ _ _ _; assumption) | (show _ = some _; assumption))
local macro_rules | `(tactic| walk_at "side") => `(tactic| first
  | (show (0 : Int) < _; decide)
  | (show (0 : Int) < _; omega)
  | exact ⟨by decide, by decide, by decide⟩
  | exact sz_of (Nat.le_of_ble_eq_true rfl)
  | exact rfl
  | exact Or.inl (by decide)
  | exact Or.inr (by decide)
  | exact Or.inr ⟨by omega, by omega⟩
  | exact Or.inl ⟨by omega, by omega⟩
  | exact ⟨by decide, by decide +kernel⟩)
local macro_rules | `(tactic| walk_at "ev1") => `(tactic| first
  | refine ⟨_, rfl, ?_⟩
  | refine ⟨_, _, rfl, rfl, ?_⟩
  | refine ⟨_, _, _, _, rfl, rfl, (by walk_at "sq"), (by walk_at "at"), ?_⟩
  | refine ⟨_, _, rfl, (by walk_at "sq"), ?_⟩
  | refine ⟨_, _, rfl, Or.inl (by walk_at "sq"), ?_⟩
  | refine ⟨_, _, rfl, Or.inr (by walk_at "sq"), ?_⟩
  | refine Or.inl ⟨_, rfl, ?_⟩
  | refine Or.inr ⟨_, rfl, ?_⟩
  | refine ⟨(by walk_at "side"), ?_⟩
  | refine ⟨.inl ⟨rfl, _, (by walk_at "sq")⟩, ?_⟩
  | refine ⟨_, _, rfl, ?_⟩)
local macro_rules | `(tactic| walk_at "nrm") => `(tactic| dsimp only [tNil, tCons, tC, tCB])
local macro_rules | `(tactic| walk_at "ev") => `(tactic| repeat (walk_at "ev1"))
abbrev sc_w_odd_right_N : List Str := ["_law_web_here", "_law_marks", "_law_got", "_law_some", "e"]
abbrev s_w_odd_right : Stmt := topS 35
theorem sc_w_odd_right : FnScope ["_law_web_here", "_law_marks", "_law_got", "_law_some", "e"] ["_law_web_here", "_law_marks"] (defScope s_w_odd_right) := ⟨rfl, rfl, rfl, by decide +kernel, rfl, by decide +kernel, by decide +kernel⟩
section
variable {K : PySem.W.Frag} {S : List Addr} {H0 : Hp} {σ : L2.St} {te ta tb : TE} {d : PyData} {ds es : List PyData}
theorem ic_catS (h1 : IsC K S H0 ta (.tuple ds) σ) (h2 : IsC K S H0 tb (.tuple es) σ) (hl : ds.length + es.length ≤ 100000) : IsC K S H0 (tOp (rCatA K) ta tb) (.tuple (ds ++ es)) σ := fun H Q e tr q => h1 H _ e tr fun H1 v s1 d1 => h2 H1 _ (e.trans s1) (tr.mono s1) fun H2 u s2 d2 => by
  obtain ⟨a, xs, rfl, ha, hx⟩ := Dp.seq_of (f := true) ((cutS_mono s2).dp d1)
  obtain ⟨b, ys, rfl, hb, hy⟩ := Dp.seq_of (f := true) d2
  have lx := dpa_len hx
  have ly := dpa_len hy
  refine ⟨a, b, xs, ys, rfl, rfl, cutS_le.sqT ha, cutS_le.sqT hb, Nat.le_trans (show xs.length + ys.length ≤ 100000 by omega) (by decide), fun e => ?_, fun _ e => ?_, fun _ _ p hp => ?_⟩
  · subst e
    cases hx
    exact q H2 _ (s1.trans s2) (.tup hb hy)
  · subst e
    cases hy
    refine q H2 _ (s1.trans s2) ?_
    rw [List.append_nil]
    exact .tup ha hx
  · exact q _ _ ((s1.trans s2).trans (.upd hp)) (dp_tup ((tr.mono s1).mono s2) hp (dpa_app hx hy))
theorem cut_1 {x : V} {xs : List V} : cutV (x :: xs) (some 1) none = xs := by
  unfold cutV
  have e : HT.sIx (x :: xs).length 0 (some 1) = 1 := by
    show (if (1 : Int) < 0 then ((1 : Int) + ((x :: xs).length : Int)).toNat else min (1 : Int).toNat (x :: xs).length) = 1
    rw [if_neg (by decide), List.length_cons]
    exact Nat.min_eq_left (by omega)
  rw [e, show HT.sIx (x :: xs).length (x :: xs).length none = (x :: xs).length from HT.sIx_none _ _, List.drop_one, List.tail_cons, List.length_cons, Nat.add_sub_cancel, List.take_length]
theorem ic_tailS (h : IsC K S H0 te (.tuple (d :: es)) σ) : IsC K S H0 (tSl (rSlA K) te (tPart (tC (.int 1))) tNoPart) (.tuple es) σ := fun H Q e tr q => h H _ e tr fun H1 v s1 d1 => by
  obtain ⟨a, xs, rfl, ha, hx⟩ := Dp.seq_of (f := true) d1
  cases hx with
  | @cons x xs _ _ du hx =>
    refine ⟨1, rfl, a, _, rfl, cutS_le.sqT ha, fun z => ?_, fun _ p hp => ?_⟩
    · have e : HT.sIx (x :: xs).length 0 (some 1) = 1 := by
        show (if (1 : Int) < 0 then ((1 : Int) + ((x :: xs).length : Int)).toNat else min (1 : Int).toNat (x :: xs).length) = 1
        rw [if_neg (by decide), List.length_cons]
        exact Nat.min_eq_left (by omega)
      have z1 := z.1
      rw [e] at z1
      cases z1
    · rw [cut_1]
      exact q _ _ (s1.trans (.upd hp)) (dp_tup (tr.mono s1) hp hx)
theorem ic_listT {f : Bool} (h : IsC K S H0 te (seqD f ds) σ) : IsC K S H0 (tCB (fun xs H Q => ∃ p ys, xs = [.ref p] ∧ (SqL K H p ys ∨ SqT K H p ys) ∧ ∀ l, H l = none → Q (.ref l) (upd H l (.lst ys))) (tCons te tNil)) (.list ds) σ := fun H Q e tr q => h H _ e tr fun H1 v s1 d1 => by
  obtain ⟨a, xs, rfl, ha, hx⟩ := Dp.seq_of d1
  exact ⟨a, xs, rfl, SqF.or (cutS_le.sqF ha), fun p hp => q _ _ (s1.trans (.upd hp)) (dp_lst (tr.mono s1) hp hx)⟩
end
theorem first_one {N : List Str} {y y' : Str} : ∀ {p p' r r' : List Str}, p ++ y :: r = p' ++ y' :: r' → (∀ x ∈ p, x ∈ N) → (∀ x ∈ p', x ∈ N) → y ∉ N → y' ∉ N → y = y'
  | [], [], _, _, e, _, _, _, _ => by cases e; rfl
  | [], a :: p', _, _, e, _, h, hy, _ => by
    cases e
    exact absurd (h _ List.mem_cons_self) hy
  | a :: p, [], _, _, e, h, _, _, hy => by
    cases e
    exact absurd (h _ List.mem_cons_self) hy
  | a :: p, b :: p', _, _, e, h, h', hy, hy' => by
    rw [List.cons_append, List.cons_append] at e
    exact first_one (List.cons.inj e).2 (fun x hx => h x (List.mem_cons_of_mem _ hx)) (fun x hx => h' x (List.mem_cons_of_mem _ hx)) hy hy'
section
variable {P : Program} {w : World} {K : PySem.W.Frag} {mg : Str → Option Value} {base : Heap}
def duesO : List Str := [Str.ofString "zz", Str.ofString "zz", Str.ofString "e."]
def spOdd (K : PySem.W.Frag) : Sp := fun vs H Q _ => ∃ (v m : V) (ws : List Str) (qs : List QD) (marks : List Str), vs = [v, m] ∧ Dp K H v (netD true ws qs) ∧ Dp K H m (.tuple (marks.map PyData.str)) ∧ FillN ws qs ∧ marks ≠ [] ∧ marks.length ≤ 60 ∧ (∀ x ∈ marks, x ∈ qs.map QD.nm) ∧ (∀ q ∈ qs, nmOk q.nm = true) ∧ ∀ H', Same H H' → Q (.bl true) H'
theorem ok_w_odd_right {f fF C : Addr} {fd fdF : FuncData} {k : Nat} (F : Fun K "_law_odd_right" "_law_odd_right" s_w_odd_right f fd) (mg_NoQueue : mg "NoQueue" = some (.ref C)) (XI_NoQueue : XcI K C) (XC_NoQueue : XcC K C) (nf_NoQueue_queue : PySem.W.findIn K (.ref C) "queue" = some none) (sub_NoQueue_NoQueue : PySem.W.subIn K (.ref C) (.ref C) = some true)
    (GX_filled : FnOk P w K mg base (L2.CX P w) k fF fdF ["net", "order"] (spFillX K C)) (g_filled : mg "filled" = some (.ref fF)) (F_filled : Fun K "filled" "filled" s_filled fF fdF) (b_filled : Binds K fdF ["net", "order"] []) (m_list : mg "list" = none) : FnOk P w K mg base CX0 (k + 1) f fd ["_law_web_here", "_law_marks"] (spOdd K) := by
  refine F.ok sc_w_odd_right (fun vs H Q E h => ?_) (fun cdv A outer sS H vs Q E hr h => ?_)
  · obtain ⟨v, m, ws, qs, marks, rfl, _⟩ := h
    rfl
  · obtain ⟨v, m, ws, qs, marks, rfl, hD, hM, hF, hne, hlm, hin, hnk, q⟩ := h
    refine ⟨_, (pss_cons (ps_set (i := 2) sc_w_odd_right.nd rfl (Or.inl rfl) (pe_lst pa_nil)) 
    (pss_cons (ps_forX (ps_for PassesOwn.never rfl (pi_tup (pe_tup (pa_cons (pe_op op_catA (pv 1) (pe_tup (pa_cons pe_str pa_nil))) (pa_cons (pe_op op_catA (pe_op op_catA (pe_tup (pa_cons pe_str pa_nil)) (pv 1)) (pe_tup (pa_cons pe_str pa_nil))) (pa_cons (pe_op op_catL (pe_callTy call_list_of (by rfl) m_list (by decide +kernel) (pa_cons (pe_slice sl_tupA (pv 1) (po_some pe_int) po_none) pa_nil)) (pe_lst (pa_cons pe_str (pa_cons pe_str pa_nil)))) pa_nil))))) (pg_name (i := 3) sc_w_odd_right.nd rfl (Or.inl rfl)) (pss_one (ps_try_keep (i := 4) rfl rfl sc_w_odd_right.nd rfl rfl (test1 ⟨by rfl, by decide, .inl mg_NoQueue⟩) takes0 (fun W pn xe tk _ => (pss_one (ps_expr (pe_callS GX_filled hr (by rfl) g_filled F_filled.kp b_filled (passAt tk) (pa_cons (pv 0) (pa_cons (pv 3) pa_nil)))))) (fun a pn => (pss_one (ps_expr (pe_bmK (K := K) rfl PySem.F.plainAttrs_list PySem.F.slot_list_append PySem.F.type_list_append mt_append (pv 2) (pa_cons (pe_xk XI_NoQueue nf_NoQueue_queue (pv 4)) pa_nil))))))))) 
    (pss_one (ps_ret (pe_cmpR (op_eqD hr.units) (pv 2) (pe_lst (pa_cons pe_str (pa_cons pe_str (pa_cons pe_str pa_nil)))) (nomark _)))))), ?_⟩
    rw [show L2.start sc_w_odd_right_N [v, m] = [some v, some m, none, none, none] from rfl]
    have hm : PySem.W.exmOne K (.ref C) (.ref C) = some true := exmOne_ref XC_NoQueue sub_NoQueue_NoQueue
    have no : ∀ {y : Str}, (y = Str.ofString "zz" ∨ y = Str.ofString "e.") → y ∉ qs.map QD.nm := fun {y} hy h => by
      obtain ⟨q', hq', rfl⟩ := List.mem_map.mp h
      obtain ⟨_, n1, n2, _⟩ := nm_sok (hnk q' hq')
      rcases hy with h | h
      · exact n1 h
      · exact n2 h
    refine asg_of ?_
    refine ⟨Nat.zero_le _, fun p hp => ?_⟩
    have hS0 : Same H (cutS [p] (upd H p (.lst []))) := by
      have := cutS_cons (S := []) (o := .lst []) hp
      rwa [cutS_nil] at this
    have hp0 : (upd H p (.lst [])) p = some (.lst []) := upd_same
    have ht0 : Trk [p] (upd H p (.lst [])) := Trk.cons Trk.nil hp0
    have hu0 : Same H (upd H p (.lst [])) := .upd hp
    dsimp only [List.set]
    generalize upd H p (.lst []) = H0 at hS0 hp0 ht0 hu0 ⊢
    obtain ⟨m1, mt, rfl⟩ : ∃ a b, marks = a :: b := by
      cases marks with
      | nil => exact absurd rfl hne
      | cons a b => exact ⟨a, b, rfl⟩
    have hM0 : Dp K (cutS [p] H0) m (.tuple ((m1 :: mt).map PyData.str)) := hS0.dp hM
    let os : List (Bool × List Str) := [(true, (m1 :: mt) ++ [Str.ofString "zz"]), (true, ([Str.ofString "zz"] ++ (m1 :: mt)) ++ [Str.ofString "yy"]), (false, mt ++ [Str.ofString "e.", Str.ofString "zz"])]
    have i1 : IsC K [p] H0 (tTup (tCons (tOp (rCatA K) (tVar 1) (tTup (tCons (tC (.str (Str.ofString "zz"))) tNil))) (tCons (tOp (rCatA K) (tOp (rCatA K) (tTup (tCons (tC (.str (Str.ofString "zz"))) tNil)) (tVar 1)) (tTup (tCons (tC (.str (Str.ofString "yy"))) tNil))) (tCons (tOp (rCatL K) (tCB (fun xs H Q => ∃ p ys, xs = [.ref p] ∧ (SqL K H p ys ∨ SqT K H p ys) ∧ ∀ l, H l = none → Q (.ref l) (upd H l (.lst ys))) (tCons (tSl (rSlA K) (tVar 1) (tPart (tC (.int 1))) tNoPart) tNil)) (tLst (tCons (tC (.str (Str.ofString "e."))) (tCons (tC (.str (Str.ofString "zz"))) tNil)))) tNil)))) (.tuple (os.map fun o => seqD o.1 (o.2.map PyData.str))) [some v, some m, some (.ref p), none, none] := by
      have c1 : IsC K [p] H0 (tVar 1) (.tuple ((m1 :: mt).map PyData.str)) [some v, some m, some (.ref p), none, none] := ic_var rfl hM0
      have hl : ((m1 :: mt).map PyData.str).length ≤ 60 := by rw [List.length_map]; exact hlm
      have hl2 : mt.length ≤ 59 := by
        have : (m1 :: mt).length = mt.length + 1 := rfl
        omega
      refine ic_tup (ac_cons ?_ (ac_cons ?_ (ac_cons ?_ ac_nil))) (show 3 ≤ 1000 by decide)
      · show IsC K [p] H0 _ (.tuple (((m1 :: mt) ++ [Str.ofString "zz"]).map PyData.str)) _
        rw [List.map_append]
        exact ic_catS c1 (ic_tup (ac_cons ic_str ac_nil) (show 1 ≤ 1000 by decide)) (by show _ + 1 ≤ 100000; omega)
      · show IsC K [p] H0 _ (.tuple ((([Str.ofString "zz"] ++ (m1 :: mt)) ++ [Str.ofString "yy"]).map PyData.str)) _
        rw [List.map_append, List.map_append]
        exact ic_catS (ic_catS (ic_tup (ac_cons ic_str ac_nil) (show 1 ≤ 1000 by decide)) c1 (by show 1 + _ ≤ 100000; omega)) (ic_tup (ac_cons ic_str ac_nil) (show 1 ≤ 1000 by decide)) (by rw [List.length_append]; show (1 + _) + 1 ≤ 100000; omega)
      · show IsC K [p] H0 _ (.list ((mt ++ [Str.ofString "e.", Str.ofString "zz"]).map PyData.str)) _
        rw [List.map_append]
        exact ic_catL (ic_listT (f := true) (ds := mt.map PyData.str) (ic_tailS (d := .str m1) c1)) (ic_lst (ac_cons ic_str (ac_cons ic_str ac_nil)) (show 2 ≤ 1000 by decide)) (by rw [List.length_map]; show _ + 2 ≤ 1000; omega)
    refine for_of ?_
    refine i1 H0 _ (fun _ _ e => e) ht0 fun H1 u s1 d1 => ?_
    obtain ⟨l, xs, rfl, hl, hx⟩ := Dp.seq_of (f := true) d1
    have hl : SqT K (cutS [p] H1) l xs := hl
    refine ⟨l, rfl, ⟨xs, cutS_le.sqT hl⟩, ?_⟩
    have lx : xs.length = 3 := dpa_len hx
    refine forR_it (walk_tup (xs := xs)) (fun i σ Hc => ∃ x3 : Option V, σ = [some v, some m, some (.ref p), x3, none] ∧ Same (cutS [p] H1) (cutS [p] Hc) ∧ Hc p = some (.lst ((duesO.take i).map V.str))) ⟨none, rfl, (fun _ _ e => e), s1 _ _ hp0⟩ (fun i σ Hc _ hh => ?_) (fun i x σ Hc Hc' hi hh y => ?_) (fun σ Hc hh => ?_)
    · obtain ⟨x3, rfl, sc, _⟩ := hh
      exact cutS_le.sqT (sc.sqT hl)
    · obtain ⟨x3, rfl, sc, gp⟩ := hh
      obtain ⟨rfl, hv⟩ := y
      obtain ⟨d, hd, hdv⟩ := dpa_get hx hv
      have hdx := cutS_le.dp (sc.dp hdv)
      have hDc : Dp K Hc' v (netD true ws qs) := cutS_le.dp (sc.dp ((cutS_mono s1).dp (hS0.dp hD)))
      -- the first that is no queue
      obtain ⟨fo, order, pre, due, post, rfl, e1, e2, e3, e4, e5⟩ : ∃ (fo : Bool) (order pre : List Str) (due : Str) (post : List Str), d = seqD fo (order.map PyData.str) ∧ order = pre ++ due :: post ∧ (∀ x ∈ pre, x ∈ qs.map QD.nm) ∧ due ∉ qs.map QD.nm ∧ duesO[i]? = some due ∧ order.length ≤ 1000 := by
        rw [List.getElem?_map] at hd
        have hlm2 : mt.length + 1 ≤ 60 := hlm
        rcases (by omega : i = 0 ∨ i = 1 ∨ i = 2) with rfl | rfl | rfl
        · cases hd
          exact ⟨true, _, m1 :: mt, Str.ofString "zz", [], rfl, rfl, hin, no (.inl rfl), rfl, by show ((m1 :: mt) ++ [Str.ofString "zz"]).length ≤ 1000; rw [List.length_append]; show (mt.length + 1) + 1 ≤ 1000; omega⟩
        · cases hd
          exact ⟨true, _, [], Str.ofString "zz", (m1 :: mt) ++ [Str.ofString "yy"], rfl, rfl, (fun _ h => absurd h List.not_mem_nil), no (.inl rfl), rfl, by show (([Str.ofString "zz"] ++ (m1 :: mt)) ++ [Str.ofString "yy"]).length ≤ 1000; rw [List.length_append, List.length_append]; show (1 + (mt.length + 1)) + 1 ≤ 1000; omega⟩
        · cases hd
          exact ⟨false, _, mt, Str.ofString "e.", [Str.ofString "zz"], rfl, rfl, (fun x hx => hin x (List.mem_cons_of_mem _ hx)), no (.inr rfl), rfl, by show (mt ++ [Str.ofString "e.", Str.ofString "zz"]).length ≤ 1000; rw [List.length_append]; show mt.length + 2 ≤ 1000; omega⟩
      refine ⟨_, rfl, _, rfl, v, x, true, fo, ws, qs, order, rfl, hDc, hdx, hF, e5, fun hall => absurd (hall due (by rw [e1]; exact List.mem_append_right _ List.mem_cons_self)) e3, fun pre' y post' ey hy1 hy2 => ?_⟩
      obtain rfl : due = y := first_one (e1.symm.trans ey) e2 hy1 e3 hy2
      intro HY dx s hdx'
      refine ⟨true, hm, fun _ a ha => ?_, fun z => nomatch z⟩
      obtain ⟨c1, c2⟩ := caught_at s hdx' ha
      have gy := c1 _ _ gp
      dsimp only [List.set]
      refine ⟨_, rfl, .inl ⟨rfl, _, sql_of gy⟩, _, rfl, _, c2, ⟨p, _, _, rfl, rfl, gy, ?_, ?_⟩⟩
      · rw [List.length_map, List.length_take]
        exact szL (by omega)
      · refine ⟨_, rfl, ?_, ?_⟩
        · rw [cutS_upd List.mem_cons_self]
          exact sc.trans (cutS_mono c1)
        · rw [upd_same, List.take_add_one, e4, List.map_append]
          rfl
    · obtain ⟨x3, rfl, sc, gp⟩ := hh
      rw [lx] at gp
      have ss : SeqAt.shaped (.list (duesO.map PyData.str)) = true := by decide +kernel
      refine ret_bl (K := K) (b := true) (ic_b (ic_eqD (a := .list (duesO.map PyData.str)) (ic_v rfl (.lst (sql_of gp) dpa_strs)) (ic_lst (ac_cons ic_str (ac_cons ic_str (ac_cons ic_str ac_nil))) (show 3 ≤ 1000 by decide)) ss ss) (eqv_sh ss)) fun H6 s6 => q H6 ?_
      exact fun b o hb => s6 _ _ (cutS_le _ _ (sc _ _ (cutS_mono s1 _ _ (hS0 _ _ hb))))
end
end Jl

set_option Elab.async false
set_option linter.all false
set_option maxRecDepth 100000
set_option maxHeartbeats 1000000
set_option pp.maxSteps 900
namespace Jl
open PySem PySem.Spec PyProof.Rows L2
open Evl (sz_of sz_lt)
local macro_rules | `(tactic| walk_at "at") => `(tactic| first | exact box0 | exact box1 | exact box2)
local macro_rules | `(tactic| walk_at "sq") => `(tactic| first | (show SqL _ _ _ _; assumption) | (show SqT _ _ _ _; assumption) | (show _ = some _; assumption))
local macro_rules | `(tactic| walk_at "side") => `(tactic| first
  | (show (0 : Int) < _; decide)
  | (show (0 : Int) < _; omega)
  | exact ⟨by decide, by decide, by decide⟩
  | exact sz_of (Nat.le_of_ble_eq_true rfl)
  | exact rfl
  | exact Or.inl (by decide)
  | exact Or.inr (by decide)
  | exact Or.inr ⟨by omega, by omega⟩
  | exact Or.inl ⟨by omega, by omega⟩
  | exact ⟨by decide, by decide +kernel⟩)
local macro_rules | `(tactic| walk_at "ev1") => `(tactic| first
  | refine ⟨_, rfl, ?_⟩
  | refine ⟨_, _, rfl, rfl, ?_⟩
  | refine ⟨_, _, _, _, rfl, rfl, (by walk_at "sq"), (by walk_at "at"), ?_⟩
  | refine ⟨_, _, rfl, (by walk_at "sq"), ?_⟩
  | refine ⟨_, _, rfl, Or.inl (by walk_at "sq"), ?_⟩
  | refine ⟨_, _, rfl, Or.inr (by walk_at "sq"), ?_⟩
  | refine Or.inl ⟨_, rfl, ?_⟩
  | refine Or.inr ⟨_, rfl, ?_⟩
  | refine ⟨(by walk_at "side"), ?_⟩
  | refine ⟨.inl ⟨rfl, _, (by walk_at "sq")⟩, ?_⟩
  | refine ⟨_, _, rfl, ?_⟩)
local macro_rules | `(tactic| walk_at "nrm") => `(tactic| dsimp only [tNil, tCons, tC, tCB])
local macro_rules | `(tactic| walk_at "ev") => `(tactic| repeat (walk_at "ev1"))

/-! ### t[::-1] of a tuple -/
section
open HT
variable {prog : Program} {w : World} {A : Around} {E : Value → Shared → Prop} {s : Shared}
theorem places_rev (n : Nat) : Builtin.Slice.slicePlaces ((n : Int) - 1) (-1) (-1) = n := by
  unfold Builtin.Slice.slicePlaces
  rw [if_neg (by decide)]
  by_cases h : (n : Int) - 1 > -1
  · rw [if_pos h, show (-(-1) : Int) = 1 from rfl, Int.ediv_one]
    omega
  · rw [if_neg h]
    omega
theorem sliceApplied_rev {sl : Addr} {vs : Value} {n : Nat} {Q : Int × Int × Nat → Shared → Prop} (hs : s.heap.IsSliceOf sl .none .none vs) (ps : IsPart vs (some (-1)))
    (h : Q ((n : Int) - 1, -1, n) s) : wpAny (model prog w) A (Builtin.Slice.sliceApplied (.ref sl) (pure (n : Int))) Q E s := by
  obtain ⟨os, hos, hcs, hds⟩ := id hs
  unfold Builtin.Slice.sliceApplied Builtin.Slice.sliceFields
  refine wpAny_bind (wpAny_bind (wpAny_field hos hds (x := .none) rfl (wpAny_bind (wpAny_field hos hds (x := .none) rfl (wpAny_bind (wpAny_field hos hds (x := vs) rfl (wpAny_pure ?_)))))))
  refine wpAny_bind (slicePart_ ps ?_)
  show wpAny _ _ (if ((-1 : Int) == 0) = true then _ else _) _ _ s
  rw [if_neg (by decide)]
  refine wpAny_bind (slicePart_none (wpAny_bind (slicePart_none (wpAny_bind (wpAny_pure ?_)))))
  show wpAny _ _ (pure ((n : Int) - 1, (-1 : Int), Builtin.Slice.slicePlaces ((n : Int) - 1) (-1) (-1))) _ _ s
  rw [places_rev]
  exact wpAny_pure h
theorem pick_rev (xs : Array Value) : ((List.range xs.size).filterMap fun (m : Nat) => xs[(((xs.size : Nat) : Int) - 1 + (m : Int) * (-1)).toNat]?).toArray = xs.toList.reverse.toArray := by
  congr 1
  have e : (fun (m : Nat) => xs[(((xs.size : Nat) : Int) - 1 + (m : Int) * (-1)).toNat]?) = (fun (i : Nat) => xs[i]?) ∘ fun (m : Nat) => (((xs.size : Nat) : Int) - 1 + (m : Int) * (-1)).toNat := rfl
  rw [e, ← List.filterMap_map]
  have e2 : (List.range xs.size).map (fun (m : Nat) => (((xs.size : Nat) : Int) - 1 + (m : Int) * (-1)).toNat) = (List.range xs.size).map fun k => xs.size - 1 - k := List.map_congr_left fun k hk => by omega
  rw [e2]
  have e3 := PySem.W.krv_range xs.size
  rw [e3, List.filterMap_reverse, PySem.W.krv_all]
theorem getItem_tuple_rev {t sl : Addr} {items : Array Value} {vs : Value} {Q : Value → Shared → Prop} (ht : IsTup s.heap t items) (hs : s.heap.IsSliceOf sl .none .none vs) (ps : IsPart vs (some (-1)))
    (h : Q (.ref s.heap.objs.size) { s with heap := s.heap.push { cls := .type "tuple", data := .seq items.toList.reverse.toArray } })
    (hsz : items.size ≤ sizeLine) : wpAny (model prog w) A (getItem (.ref t) (.ref sl)) Q E s := by
  have htake : sizeOk (.seq items.toList.reverse.toArray) := by
    show items.toList.reverse.toArray.size ≤ sizeLine
    rw [List.size_toArray, List.length_reverse, Array.length_toList]
    exact hsz
  obtain ⟨os, hos, hcs, hds⟩ := id hs
  have hTs : s.TypeIs (.ref sl) "slice" := ⟨os, hos, hcs⟩
  unfold getItem
  try with_reducible refine wpAny_holding ?_
  first | refine wpAny_bind (wpAny_pure ?_) | skip
  refine wpAny_bind (wpAny_sequenceKey ht.typeIs (by decide) ?_)
  refine wpAny_bind (wpAny_callSpecial?_slot (name := Str.ofString "__getitem__") ht.typeIs PyProof.Rows.slot_tuple_getitem
    (wpAny_call_entry PyProof.Rows.slot_tuple_getitem ht.typeIs entry_tuple_getitem ?_ (args_tuple_getitem _ _)))
  show wpAny _ _ (Builtin.Tuple.tupleItemsOf (.ref t) >>= _) _ _ s
  refine wpAny_bind (tupleItemsOf_ ht ?_)
  refine wpAny_bind (wpAny_typeOf hTs ?_)
  rw [if_pos (by decide)]
  refine wpAny_bind (sliceApplied_rev hs ps ?_)
  have hno : ¬ (((((items.size : Nat) : Int) - 1) == 0 && (-1 : Int) == 1 && items.size == items.size) = true) := by
    intro q
    rw [Bool.and_eq_true, Bool.and_eq_true] at q
    exact absurd q.1.2 (by decide)
  show wpAny _ _ (if ((((items.size : Nat) : Int) - 1) == 0 && (-1 : Int) == 1 && items.size == items.size) = true then _ else _) _ _ s
  rw [if_neg hno, pick_rev]
  first
    | exact wpAny_bind (m := Builtin.Tuple.tupleExact _) (wpAny_newObj_type (wpAny_pure ⟨_, rfl, wpAny_pure h⟩) htake)
    | exact wpAny_bind (m := Builtin.Tuple.tupleExact _) (wpAny_newObj_type (wpAny_bind (wpAny_pure (wpAny_pure ⟨_, rfl, wpAny_pure h⟩))) htake)
    | exact wpAny_bind (wpAny_bind (m := Builtin.Tuple.tupleExact _) (wpAny_newObj_type (wpAny_pure (wpAny_pure ⟨_, rfl, wpAny_pure h⟩)) htake))
    | exact wpAny_bind (wpAny_bind (m := Builtin.Tuple.tupleExact _) (wpAny_newObj_type (wpAny_pure ⟨_, rfl, wpAny_pure h⟩) htake))
end
section
variable {X : Cx}
def tRevT (K : PySem.W.Frag) (te : TE) : TE := fun σ H Q => te σ H fun x H1 => ∃ a xs, x = .ref a ∧ SqT K H1 a xs ∧ ∀ p, H1 p = none → Q (.ref p) (upd H1 p (.tup xs.reverse))
theorem pe_revT {e : Expr} {te : TE} {k : Nat} {p1 p2 p3 pos : Pos} (he : PE X e te) : PE X (.Subscript e (.Slice none none (some (.UnaryOp .USub (.Constant (.int 1) k p1) p2)) p3) pos) (tRevT X.K te) := by
  refine ⟨fun pins s σ H Q I h => ?_⟩
  refine Subscript_ (thn (he.run pins s σ H _ I h) fun v s1 ⟨x, H1, I1, r1, q1⟩ => ?_)
  obtain ⟨a, xs, ex, hx, q⟩ := q1
  subst ex
  cases r1
  have hst : PO X (some (.UnaryOp .USub (.Constant (.int 1) k p1) p2)) (tPart (tUn (rU fun i => .int (-i)) (tC (.int 1)))) := po_some (pe_un un_neg pe_int)
  refine wpAny_Slice (thn (po_none.run pins s1 σ H1 (fun o H2 => o = none ∧ H2 = H1) I1 ⟨rfl, rfl⟩) fun vl s2 ⟨l, H2, I2, pl, el, e2⟩ => ?_)
  subst el e2
  refine thn (po_none.run pins s2 σ H2 (fun o H3 => o = none ∧ H3 = H2) I2 ⟨rfl, rfl⟩) fun vu s3 ⟨u, H3, I3, pu, eu, e3⟩ => ?_
  subst eu e3
  refine thn (hst.run pins s3 σ H3 (fun o H4 => o = some (-1) ∧ H4 = H3) I3 ⟨1, rfl, -1, rfl, rfl, rfl⟩) fun vs s4 ⟨o, H4, I4, ps, eo, e4⟩ => ?_
  subst eo e4
  cases pl
  cases pu
  have I5 : L2.Inv X pins σ H4 { s4 with heap := s4.heap.push { cls := .type "slice", data := .fields #[.none, .none, vs] } } := I4.kept (t' := s4.toks) fun b ob q => Heap.get?_push_of_some _ q
  obtain ⟨its, r, ht, hz⟩ := I5.tuple hx
  have hlen := r.length
  show wpAny (model X.prog X.w) X.A (subscriptTail e (.Slice none none (some (.UnaryOp .USub (.Constant (.int 1) k p1) p2)) p3) (.ref a) (.ref s4.heap.objs.size)) (EP X pins σ Q) X.xe { s4 with heap := s4.heap.push { cls := .type "slice", data := .fields #[.none, .none, vs] } }
  refine tail_any (ops := [.ref a, .ref s4.heap.objs.size]) ht.typeIs PyProof.Rows.slot_tuple_getitem.lookup ?_ (by with_unfolding_all rfl)
  refine getItem_tuple_rev ht (Heap.IsSliceOf.new _ .none .none vs) ps ?_ (by rw [List.size_toArray]; omega)
  refine ⟨.ref _, _, I5.laid (t' := s4.toks) (o := .tup xs.reverse) (fun b ob q => Heap.get?_push_of_some _ q) (Nat.le_refl _) ?_, rfl, q _ (I5.hok.fresh (Nat.le_refl _))⟩
  exact ⟨by rw [List.length_reverse]; exact hz, _, r.reverse, IsTup.new _ _⟩
end
end Jl

set_option Elab.async false
set_option linter.all false
set_option maxRecDepth 100000
set_option maxHeartbeats 1000000
set_option pp.maxSteps 300
namespace Jl
open PySem PySem.Spec PyProof.Rows L2
open Evl (sz_of sz_lt)
local macro_rules | `(tactic| walk_at "at") => `(tactic| first | exact box0 | exact box1 | exact box2)
local macro_rules | `(tactic| walk_at "sq") => `(tactic| first | (show SqL _ _ _ _; assumption) | (show SqT _ _ _ _; assumption) | (show _ = some _; assumption))
local macro_rules | `(tactic| walk_at "side") => `(tactic| first
  | (show (0 : Int) < _; decide)
  | (show (0 : Int) < _; omega)
  | exact ⟨by decide, by decide, by decide⟩
  | exact sz_of (Nat.le_of_ble_eq_true rfl)
  | exact rfl
  | exact Or.inl (by decide)
  | exact Or.inr (by decide)
  | exact Or.inr ⟨by omega, by omega⟩
  | exact Or.inl ⟨by omega, by omega⟩
  | exact ⟨by decide, by decide +kernel⟩)
local macro_rules | `(tactic| walk_at "ev1") => `(tactic| first
  | refine ⟨_, rfl, ?_⟩
  | refine ⟨_, _, rfl, rfl, ?_⟩
  | refine ⟨_, _, _, _, rfl, rfl, (by walk_at "sq"), (by walk_at "at"), ?_⟩
  | refine ⟨_, _, rfl, (by walk_at "sq"), ?_⟩
  | refine ⟨_, _, rfl, Or.inl (by walk_at "sq"), ?_⟩
  | refine ⟨_, _, rfl, Or.inr (by walk_at "sq"), ?_⟩
  | refine Or.inl ⟨_, rfl, ?_⟩
  | refine Or.inr ⟨_, rfl, ?_⟩
  | refine ⟨(by walk_at "side"), ?_⟩
  | refine ⟨.inl ⟨rfl, _, (by walk_at "sq")⟩, ?_⟩
  | refine ⟨_, _, rfl, ?_⟩)
local macro_rules | `(tactic| walk_at "nrm") => `(tactic| dsimp only [tNil, tCons, tC, tCB])
local macro_rules | `(tactic| walk_at "ev") => `(tactic| repeat (walk_at "ev1"))
abbrev gP_0 {α : Type} (us ws : List α) : List α := gP [0] us ws
def pairOf (x : Int) : Prop := True
section
variable {K : PySem.W.Frag} {H0 : Hp} {σ : L2.St} {C : Addr} {E E1 : XK} {ta tb tc te : TE}
theorem mks_box {H : Hp} {F : Addr} {fv : List V} (hF : H F = some (.lst fv)) : ∀ {r : List Mk} {xs : List V}, DpAll K H xs (r.map mkL) → DpAll K (cutS [F] H) xs (r.map mkL)
  | [], _, .nil => .nil
  | m :: r, _, .cons h1 h2 => by
    refine .cons ?_ (mks_box hF h2)
    obtain ⟨t, xt, rfl, ht, hx⟩ := Dp.seq_of (f := true) h1
    have ht : SqT K H t xt := ht
    cases hx with
    | cons k1 hx =>
      cases hx with
      | cons k2 hx =>
        cases hx
        cases k1
        cases k2
        exact .tup (sqt_cut ht hF) (.cons (.int _) (.cons (.int _) .nil))
theorem rows_box {H : Hp} {F : Addr} {c0 c1 c2 : Int} (hF : H F = some (.lst (boxV c0 c1 c2))) : ∀ {g : List (List Mk)} {xs : List V}, DpAll K H xs (g.map rowL) → DpAll K (cutS [F] H) xs (g.map rowL)
  | [], _, .nil => .nil
  | r :: g, _, .cons h1 h2 => by
    refine .cons ?_ (rows_box hF h2)
    obtain ⟨a, xa, rfl, ha, hx⟩ := Dp.seq_of (f := false) h1
    have ha : SqL K H a xa := ha
    have nb : xa ≠ boxV c0 c1 c2 := fun z => by
      rw [z] at hx
      cases r with
      | nil => cases hx
      | cons m r =>
        cases hx with
        | cons k1 _ => cases k1
    refine .lst ?_ (mks_box hF hx)
    rcases ha with (h | ⟨o, h⟩) | h
    · refine .inl (.inl (cutS_at h (not1 fun z => ?_)))
      rw [z, hF] at h
      cases h
      exact nb rfl
    · refine .inl (.inr ⟨o, cutS_at h (not1 fun z => ?_)⟩)
      rw [z, hF] at h
      cases h
    · exact .inr h
theorem ic_filled {fb fo : Bool} {ws : List Str} {qs : List QD} {order : List Str} (h1 : IsC K [] H0 ta (netD fb ws qs) σ) (h2 : IsC K [] H0 tb (seqD fo (order.map PyData.str)) σ) (hF : FillN ws qs) (hl : order.length ≤ 1000) (hin : ∀ x ∈ order, x ∈ qs.map QD.nm) : IsC K [] H0 (tCall (spFillX K C) [] E (tCons ta (tCons tb tNil))) (fillD ws qs order) σ := fun H Q e tr q => h1 H _ e tr fun H1 v s1 d1 => h2 H1 _ (e.trans s1) (tr.mono s1) fun H2 u s2 d2 => by
  rw [cutS_nil] at d1 d2
  refine ⟨v, u, fb, fo, ws, qs, order, rfl, s2.dp d1, d2, hF, hl, fun _ H' u' s' d' => q H' u' ((s1.trans s2).trans s') (by rw [cutS_nil]; exact d'), fun pre x post e2 _ hx => absurd (hin x (by rw [e2]; exact List.mem_append_right _ List.mem_cons_self)) hx⟩
theorem ic_filledK {fb fo : Bool} {ws : List Str} {qs : List QD} {order : List Str} (h2 : IsC K [] H0 tb (seqD fo (order.map PyData.str)) σ) (h1 : IsC K [] H0 ta (netD fb ws qs) σ) (hF : FillN ws qs) (hl : order.length ≤ 1000) (hin : ∀ x ∈ order, x ∈ qs.map QD.nm) : IsC K [] H0 (tCallK0 (spFillX K C) gP_10 E (tCons tb (tCons ta tNil))) (fillD ws qs order) σ := fun H Q e tr q => h2 H _ e tr fun H1 u s1 d2 => h1 H1 _ (e.trans s1) (tr.mono s1) fun H2 v s2 d1 => by
  rw [cutS_nil] at d1 d2
  refine ⟨v, u, fb, fo, ws, qs, order, rfl, d1, s2.dp d2, hF, hl, fun _ H' u' s' d' => q H' u' ((s1.trans s2).trans s') (by rw [cutS_nil]; exact d'), fun pre x post e2 _ hx => absurd (hin x (by rw [e2]; exact List.mem_append_right _ List.mem_cons_self)) hx⟩
theorem ic_fullC {fb : Bool} {ws : List Str} {qs : List QD} (h1 : IsC K [] H0 ta (netD fb ws qs) σ) (hN : NetN ws qs) (hG : NetG ws qs) : IsC K [] H0 (tCall (spFull K) [] E (tCons ta tNil)) (.bool (fullF ws qs)) σ := fun H Q e tr q => h1 H _ e tr fun H1 v s1 d1 => by
  rw [cutS_nil] at d1
  exact ⟨v, fb, ws, qs, rfl, d1, hN, hG, fun H' s' => q H' _ (s1.trans s') (.bl _)⟩
theorem ic_fullK {fb : Bool} {ws : List Str} {qs : List QD} (h1 : IsC K [] H0 ta (netD fb ws qs) σ) (hN : NetN ws qs) (hG : NetG ws qs) : IsC K [] H0 (tCallK0 (spFull K) gP_0 E (tCons ta tNil)) (.bool (fullF ws qs)) σ := fun H Q e tr q => h1 H _ e tr fun H1 v s1 d1 => by
  rw [cutS_nil] at d1
  exact ⟨v, fb, ws, qs, rfl, d1, hN, hG, fun H' s' => q H' _ (s1.trans s') (.bl _)⟩
theorem ic_isfull {ws : List Str} {qs : List QD} {g : List (List Mk)} (h1 : IsC K [] H0 ta (netD true ws qs) σ) (h2 : IsC K [] H0 tb (.list (g.map rowL)) σ) (hL : LimN ws qs g) : IsC K [] H0 (tCall (spIsFull K) [] E (tCons ta (tCons tb tNil))) (.bool (fullF ws qs)) σ := fun H Q e tr q => h1 H _ e tr fun H1 v s1 d1 => h2 H1 _ (e.trans s1) (tr.mono s1) fun H2 u s2 d2 => by
  rw [cutS_nil] at d1 d2
  exact ⟨v, u, ws, qs, g, rfl, s2.dp d1, d2, hL, fun H' s' => q H' _ ((s1.trans s2).trans s') (.bl _)⟩
theorem ic_listsW {ws : List Str} {qs : List QD} (h1 : IsC K [] H0 ta (netD true ws qs) σ) (ok : okD 5 (netD true ws qs)) : IsC K [] H0 (tCall (spLists K 5) [] E (tCons ta tNil)) (netD false ws qs) σ := fun H Q e tr q => h1 H _ e tr fun H1 v s1 d1 => by
  exact ⟨v, netD true ws qs, [], rfl, Trk.nil, d1, ok, fun H' y s' d' => q H' y (s1.trans s') (by rw [net_lists] at d'; exact d')⟩
theorem ic_rep2 {d : PyData} (h : IsC K [] H0 te d σ) : IsC K [] H0 (tOp rRep (tLst (tCons te tNil)) (tC (.int 2))) (.list [d, d]) σ := fun H Q e tr q => h H _ e tr fun H1 v s1 d1 => by
  rw [cutS_nil] at d1
  refine ⟨by show 1 ≤ sizeLine; decide, fun l hl => ?_⟩
  have s2 : Same H1 (upd H1 l (.lst [v])) := .upd hl
  refine ⟨l, 2, [v], rfl, rfl, upd_same, by decide, by decide, by show 1 * 2 ≤ sizeLine; decide, fun p hp => ?_⟩
  refine q _ _ ((s1.trans s2).trans (.upd hp)) ?_
  rw [cutS_nil]
  have d2 := (s2.trans (.upd (o := .lst (List.replicate (2 : Int).toNat [v]).flatten) hp)).dp d1
  exact .lst (sql_of upd_same) (.cons d2 (.cons d2 .nil))
theorem ic_revS {xs : List Str} (h : IsC K [] H0 te (.tuple (xs.map PyData.str)) σ) : IsC K [] H0 (tRevT K te) (.tuple (xs.reverse.map PyData.str)) σ := fun H Q e tr q => h H _ e tr fun H1 v s1 d1 => by
  rw [cutS_nil] at d1
  obtain ⟨a, ys, rfl, ha, hx⟩ := Dp.seq_of (f := true) d1
  have ey := dpa_strs_of hx
  subst ey
  refine ⟨a, _, rfl, ha, fun p hp => q _ _ (s1.trans (.upd hp)) ?_⟩
  rw [cutS_nil, ← List.map_reverse]
  exact .tup (sqt_of upd_same) dpa_strs
theorem ic_notTrue {a : Bool} (h : IsC K [] H0 te (.bool a) σ) : IsC K [] H0 (tOp rNotB te (tC (.bl true))) (.bool (a != true)) σ := fun H Q e tr q => h H _ e tr fun H1 v s1 d1 => by
  cases d1
  exact ⟨a, true, rfl, rfl, q H1 _ s1 (.bl _)⟩
end
theorem GoodW.fill {ws : List Str} {qs : List QD} (h : GoodW ws qs) : FillN ws qs := ⟨h.nd, h.ng, h.h0, by have := h.wl; omega, by have := h.ql; omega, fun q hq => ⟨(h.qok q hq).2.1, (h.qok q hq).2.2.1⟩⟩
end Jl

set_option Elab.async false
set_option linter.all false
set_option maxRecDepth 100000
set_option maxHeartbeats 1000000
set_option pp.maxSteps 300
namespace Jl
open PySem PySem.Spec PyProof.Rows L2
open Evl (sz_of sz_lt)
local macro_rules | `(tactic| walk_at "at") => `(tactic| first | exact box0 | exact box1 | exact box2)
local macro_rules | `(tactic| walk_at "sq") => `(tactic| first | (show SqL _ _ _ _; assumption) | (show SqT _ _ _ _; assumption) | (show _ = some _; assumption))
local macro_rules | `(tactic| walk_at "side") => `(tactic| first
  | (show (0 : Int) < _; decide)
  | (show (0 : Int) < _; omega)
  | exact ⟨by decide, by decide, by decide⟩
  | exact sz_of (Nat.le_of_ble_eq_true rfl)
  | exact rfl
  | exact Or.inl (by decide)
  | exact Or.inr (by decide)
  | exact Or.inr ⟨by omega, by omega⟩
  | exact Or.inl ⟨by omega, by omega⟩
  | exact ⟨by decide, by decide +kernel⟩)
local macro_rules | `(tactic| walk_at "ev1") => `(tactic| first
  | refine ⟨_, rfl, ?_⟩
  | refine ⟨_, _, rfl, rfl, ?_⟩
  | refine ⟨_, _, _, _, rfl, rfl, (by walk_at "sq"), (by walk_at "at"), ?_⟩
  | refine ⟨_, _, rfl, (by walk_at "sq"), ?_⟩
  | refine ⟨_, _, rfl, Or.inl (by walk_at "sq"), ?_⟩
  | refine ⟨_, _, rfl, Or.inr (by walk_at "sq"), ?_⟩
  | refine Or.inl ⟨_, rfl, ?_⟩
  | refine Or.inr ⟨_, rfl, ?_⟩
  | refine ⟨(by walk_at "side"), ?_⟩
  | refine ⟨.inl ⟨rfl, _, (by walk_at "sq")⟩, ?_⟩
  | refine ⟨_, _, rfl, ?_⟩)
local macro_rules | `(tactic| walk_at "nrm") => `(tactic| dsimp only [tNil, tCons, tC, tCB])
local macro_rules | `(tactic| walk_at "ev") => `(tactic| repeat (walk_at "ev1"))
abbrev sc_w_web_right_N : List Str := ["_law_box_here", "_law_web_here", "_law_found", "_law_soft", "_law_held_so", "_law_turn", "_law_marks", "_law_told", "_law_due", "_law_got", "_law_own"]
abbrev s_w_web_right : Stmt := topS 36
theorem sc_w_web_right : FnScope ["_law_box_here", "_law_web_here", "_law_found", "_law_soft", "_law_held_so", "_law_turn", "_law_marks", "_law_told", "_law_due", "_law_got", "_law_own"] ["_law_box_here", "_law_web_here"] (defScope s_w_web_right) := ⟨rfl, rfl, rfl, by decide +kernel, rfl, by decide +kernel, by decide +kernel⟩
theorem ic_b' {K : PySem.W.Frag} {S : List Addr} {H0 : Hp} {σ : L2.St} {te : TE} {a b : Bool} (h : IsC K S H0 te (.bool a) σ) (e : a = b) : IsC K S H0 te (.bool b) σ := e ▸ h
theorem rows3_ok {ws : List Str} {qs : List QD} (h1 : ws.length ≤ 60) (h2 : qs.length ≤ 60) : okD 5 (.list [netD true ws qs, netD true ws qs, netD true ws qs]) := ⟨by show 3 ≤ 4000000; decide, fun d hd => by
  rcases mem3 hd with rfl | rfl | rfl <;> exact net_okD h1 h2⟩
section
variable {P : Program} {w : World} {K : PySem.W.Frag} {mg : Str → Option Value} {base : Heap}
def spWR (K : PySem.W.Frag) : Sp := fun vs H Q _ => ∃ (b : Addr) (v : V) (ws : List Str) (qs : List QD) (bx : List V) (N : Nat), vs = [.ref b, v] ∧ H b = some (.lst bx) ∧ BoxL bx N ∧ N < 2 ^ 50 ∧ Dp K (cutS [b] H) v (netD true ws qs) ∧ GoodW ws qs ∧ ∀ (H' : Hp) (bx' : List V), H' b = some (.lst bx') → BoxL bx' (N + 40) → Same (cutS [b] H) (cutS [b] H') → Q (.bl true) H'
theorem ok_w_web_right {f fR fI fB fN fU fI2 fP fL fA fO fS C : Addr} {fd fdR fdI fdB fdN fdU fdI2 fdP fdL fdA fdO fdS : FuncData} {k : Nat} (F : Fun K "_law_web_right" "_law_web_right" s_w_web_right f fd)
    (G_w_rings : FnOk P w K mg base CX0 k fR fdR ["_law_web_here"] (spLR K)) (g_w_rings : mg "_law_rings" = some (.ref fR)) (F_w_rings : Fun K "_law_rings" "_law_rings" s_w_rings fR fdR) (b_w_rings : Binds K fdR ["_law_web_here"] [])
    (G_w_lists : FnOk P w K mg base CX0 k fI fdI ["_law_matter"] (spLists K 5)) (g_w_lists : mg "_law_lists" = some (.ref fI)) (F_w_lists : Fun K "_law_lists" "_law_lists" s_w_lists fI fdI) (b_w_lists : Binds K fdI ["_law_matter"] [])
    (G_w_any_bad : FnOk P w K mg base CX0 k fB fdB ["_law_web_here", "_law_found"] (spAnyB K)) (g_w_any_bad : mg "_law_any_bad" = some (.ref fB)) (F_w_any_bad : Fun K "_law_any_bad" "_law_any_bad" s_w_any_bad fB fdB) (b_w_any_bad : Binds K fdB ["_law_web_here", "_law_found"] [])
    (G_never_held : FnOk P w K mg base CX0 k fN fdN ["net"] (spNever K)) (g_never_held : mg "never_held" = some (.ref fN)) (F_never_held : Fun K "never_held" "never_held" s_never_held fN fdN) (b_never_held : Binds K fdN ["net"] [])
    (G_full : FnOk P w K mg base CX0 k fU fdU ["net"] (spFull K)) (g_full : mg "full" = some (.ref fU)) (F_full : Fun K "full" "full" s_full fU fdU) (b_full : Binds K fdU ["net"] []) (kb_full : KBinds K fdU ["net"] ["net"] gP_0 gP_0)
    (G_w_is_full : FnOk P w K mg base CX0 k fI2 fdI2 ["_law_web_here", "_law_found"] (spIsFull K)) (g_w_is_full : mg "_law_is_full" = some (.ref fI2)) (F_w_is_full : Fun K "_law_is_full" "_law_is_full" s_w_is_full fI2 fdI2) (b_w_is_full : Binds K fdI2 ["_law_web_here", "_law_found"] [])
    (G_w_pick : FnOk P w K mg base CX0 k fP fdP ["_law_box_here", "_law_pool", "_law_size_so"] (spPick K)) (g_w_pick : mg "_law_pick" = some (.ref fP)) (F_w_pick : Fun K "_law_pick" "_law_pick" s_w_pick fP fdP) (b_w_pick : Binds K fdP ["_law_box_here", "_law_pool", "_law_size_so"] [])
    (GX_filled : FnOk P w K mg base (L2.CX P w) k fL fdL ["net", "order"] (spFillX K C)) (g_filled : mg "filled" = some (.ref fL)) (F_filled : Fun K "filled" "filled" s_filled fL fdL) (b_filled : Binds K fdL ["net", "order"] []) (kb_filled : KBinds K fdL ["net", "order"] ["order", "net"] gP_10 gP_10)
    (G_w_pass : FnOk P w K mg base CX0 k fA fdA ["_law_web_here", "_law_found", "_law_marks"] (spPass K)) (g_w_pass : mg "_law_pass" = some (.ref fA)) (F_w_pass : Fun K "_law_pass" "_law_pass" s_w_pass fA fdA) (b_w_pass : Binds K fdA ["_law_web_here", "_law_found", "_law_marks"] [])
    (G_w_odd_right : FnOk P w K mg base CX0 k fO fdO ["_law_web_here", "_law_marks"] (spOdd K)) (g_w_odd_right : mg "_law_odd_right" = some (.ref fO)) (F_w_odd_right : Fun K "_law_odd_right" "_law_odd_right" s_w_odd_right fO fdO) (b_w_odd_right : Binds K fdO ["_law_web_here", "_law_marks"] [])
    (G_w_same : FnOk P w K mg base CX0 k fS fdS ["_law_got", "_law_due"] (spSame K 5)) (g_w_same : mg "_law_same" = some (.ref fS)) (F_w_same : Fun K "_law_same" "_law_same" s_w_same fS fdS) (b_w_same : Binds K fdS ["_law_got", "_law_due"] [])
    (m_range : mg "range" = none) (m_len : mg "len" = none) (m_tuple : mg "tuple" = none) (m_list : mg "list" = none) : FnOk P w K mg base CX0 (k + 1) f fd ["_law_box_here", "_law_web_here"] (spWR K) := by
  refine F.ok sc_w_web_right (fun vs H Q E h => ?_) (fun cdv A outer sS H vs Q E hr h => ?_)
  · obtain ⟨b, v, ws, qs, bx, N, rfl, _⟩ := h
    rfl
  · obtain ⟨b, v, ws, qs, bx, N, rfl, hb, hB, hN, hD, hW, q⟩ := h
    refine ⟨_, (pss_cons (ps_par (i := 2) (j := 3) (by rfl) sc_w_web_right.nd rfl rfl (by decide) rfl rfl (pa_cons (pe_call G_w_rings hr (by rfl) g_w_rings F_w_rings.kp b_w_rings .nil pass0 (pa_cons (pv 1) pa_nil)) (pa_cons (pe_call G_w_lists hr (by rfl) g_w_lists F_w_lists.kp b_w_lists .nil pass0 (pa_cons (pv 1) pa_nil)) pa_nil)) (by rfl)) 
    (pss_cons (ps_set (i := 4) sc_w_web_right.nd rfl (Or.inl rfl) (pe_call G_w_any_bad hr (by rfl) g_w_any_bad F_w_any_bad.kp b_w_any_bad .nil pass0 (pa_cons (pv 1) (pa_cons (pv 2) pa_nil)))) 
    (pss_cons (ps_if (pt_not (pt_val (pe_call G_w_same hr (by rfl) g_w_same F_w_same.kp b_w_same .nil pass0 (pa_cons (pe_lst (pa_cons (pe_call G_full hr (by rfl) g_full F_full.kp b_full .nil pass0 (pa_cons (pv 1) pa_nil)) (pa_cons (pe_callK0 G_full hr (by rfl) g_full F_full.kp kb_full pass0 (pk_cons (pv 3) pk_nil)) (pa_cons (pe_call G_never_held hr (by rfl) g_never_held F_never_held.kp b_never_held .nil pass0 (pa_cons (pv 1) pa_nil)) pa_nil)))) (pa_cons (pe_op op_catL (pe_op op_rep (pe_lst (pa_cons (pe_call G_w_is_full hr (by rfl) g_w_is_full F_w_is_full.kp b_w_is_full .nil pass0 (pa_cons (pv 1) (pa_cons (pv 2) pa_nil))) pa_nil)) pe_int) (pe_lst (pa_cons (pe_not (pv 4)) pa_nil))) pa_nil))))) (pss_one (ps_ret pe_bl)) pss_nil) 
    (pss_cons (ps_forX (ps_for PassesOwn.never rfl (pi_range1 (by rfl) m_range (pa_cons pe_int pa_nil)) (pg_name (i := 5) sc_w_web_right.nd rfl (Or.inl rfl)) 
      (pss_cons (ps_set (i := 6) sc_w_web_right.nd rfl (Or.inl rfl) (pe_callTy call_tuple_of (by rfl) m_tuple (by decide +kernel) (pa_cons (pe_call G_w_pick hr (by rfl) g_w_pick F_w_pick.kp b_w_pick .nil pass0 (pa_cons (pv 0) (pa_cons (pe_lcX (pe_lc (own := [("_law_own", 10)]) (g := gName 10) (tt := tYes) (te := (tOp (rIxF K) (tVar 10) (tC (.int 0)))) (by rfl) sc_w_web_right.nd (pi_seq (pe_ix ix_lt (pv 1) pe_int (fun _ _ => rfl))) (blkOk_by (own := [("_law_own", 10)]) (N := sc_w_web_right_N) (sc := defScope s_w_web_right) (by decide +kernel)) (fun _ _ _ _ _ => pg_name (i := 10) sc_w_web_right.nd rfl (Or.inl rfl)) (fun _ _ _ _ _ => pts_nil) (fun _ _ _ _ _ => (pe_ix ix_lt (pv 10) pe_int (fun _ _ => rfl))))) (pa_cons (pe_callB call_len_seq (by rfl) m_len PySem.boot_len (pa_cons (pe_ix ix_lt (pv 1) pe_int (fun _ _ => rfl)) pa_nil)) pa_nil)))) pa_nil))) 
      (pss_cons (ps_set (i := 7) sc_w_web_right.nd rfl (Or.inl rfl) (pe_call GX_filled hr (by rfl) g_filled F_filled.kp b_filled .nil passL (pa_cons (pv 1) (pa_cons (pv 6) pa_nil)))) 
      (pss_cons (ps_if (pt_val (pv 4)) (pss_one (ps_if (PW.pt (pw_or (pt_cmpR op_notN (pv 7) pe_non (nomark _)) (pw_or1 (pt_cmpR op_notN (pe_callK0 GX_filled hr (by rfl) g_filled F_filled.kp kb_filled passL (pk_cons (pe_callTy call_list_of (by rfl) m_list (by decide +kernel) (pa_cons (pv 6) pa_nil)) (pk_cons (pv 3) pk_nil))) pe_non (nomark _))))) (pss_one (ps_ret pe_bl)) pss_nil)) 
        (pss_cons (ps_set (i := 8) sc_w_web_right.nd rfl (Or.inl rfl) (pe_call G_w_pass hr (by rfl) g_w_pass F_w_pass.kp b_w_pass .nil pass0 (pa_cons (pv 1) (pa_cons (pv 2) (pa_cons (pv 6) pa_nil))))) 
        (pss_cons (ps_set (i := 9) sc_w_web_right.nd rfl (Or.inl rfl) (pe_lst (pa_cons (pv 7) (pa_cons (pe_callK0 GX_filled hr (by rfl) g_filled F_filled.kp kb_filled passL (pk_cons (pe_callTy call_list_of (by rfl) m_list (by decide +kernel) (pa_cons (pv 6) pa_nil)) (pk_cons (pv 3) pk_nil))) (pa_cons (pe_call GX_filled hr (by rfl) g_filled F_filled.kp b_filled .nil passL (pa_cons (pv 7) (pa_cons (pe_revT (pv 6)) pa_nil))) pa_nil))))) 
        (pss_one (ps_if (PW.pt (pw_or (pt_not (pt_val (pe_call G_w_same hr (by rfl) g_w_same F_w_same.kp b_w_same .nil pass0 (pa_cons (pv 9) (pa_cons (pe_lst (pa_cons (pv 8) (pa_cons (pv 8) (pa_cons (pv 8) pa_nil)))) pa_nil))))) (pw_or (pt_not (pt_val (pe_call G_w_is_full hr (by rfl) g_w_is_full F_w_is_full.kp b_w_is_full .nil pass0 (pa_cons (pv 8) (pa_cons (pv 2) pa_nil))))) (pw_or1 (pt_cmpR op_notBl (pe_call G_full hr (by rfl) g_full F_full.kp b_full .nil pass0 (pa_cons (pv 7) pa_nil)) pe_bl (nomark _)))))) (pss_one (ps_ret pe_bl)) pss_nil))))) 
      (pss_one (ps_if (pt_not (pt_val (pe_call G_w_odd_right hr (by rfl) g_w_odd_right F_w_odd_right.kp b_w_odd_right .nil pass0 (pa_cons (pv 1) (pa_cons (pv 6) pa_nil))))) (pss_one (ps_ret pe_bl)) pss_nil))))))) 
    (pss_one (ps_ret (pe_cmpR (op_eqD hr.units) (pv 3) (pe_call G_w_lists hr (by rfl) g_w_lists F_w_lists.kp b_w_lists .nil pass0 (pa_cons (pv 1) pa_nil)) (nomark _)))))))), ?_⟩
    rw [show L2.start sc_w_web_right_N [.ref b, v] = [some (.ref b), some v, none, none, none, none, none, none, none, none, none] from rfl]
    obtain ⟨g, hL, hR⟩ := hW.lim
    have hF := hW.fill
    have hql := hL.ql
    have hwl := hL.wl
    have okn : ∀ {q' : List QD}, q'.length ≤ 8 → okD 5 (netD true ws q') := fun h => okD_up (net_okD (by omega) (by omega))
    have tb : Trk [b] H := Trk.cons Trk.nil hb
    refine ⟨_, rfl, v, ws, qs, g, rfl, cutS_le.dp hD, hR, hW.wok, fun H1 r rs s1 hr0 hr1' hra => ?_⟩
    have hb1 := s1 _ _ hb
    have nrb : r ≠ b := fun z => by
      rw [z, hb] at hr0
      cases hr0
    obtain ⟨c0, c1, c2, ebx, _⟩ := hB
    have dr : Dp K (cutS [b] H1) (.ref r) (.list (g.map rowL)) := .lst (sql_of (by rw [cutS_out (not1 nrb)]; exact hr1')) (rows_box (by rw [hb1, ebx]) (cutS_le.dpa hra))
    have hB : BoxL bx N := ⟨c0, c1, c2, ebx, by assumption⟩
    refine ⟨_, rfl, v, netD true ws qs, [b], rfl, tb.mono s1, (cutS_mono s1).dp hD, okn hql, fun H2 y2 s2 d2 => ⟨_, _, rfl, ?_⟩⟩
    rw [net_lists] at d2
    dsimp only [List.set]
    have e2 := cutS_mono (S := [b]) s2
    have D2 := (e2.dp ((cutS_mono s1).dp hD))
    have r2 := e2.dp dr
    have eB := cutS_mono (S := [b]) (s1.trans s2)
    have hb2 := s2 _ _ hb1
    clear dr hr0 hr1' hra
    refine asg_ic (K := K) (d := .bool (!neverF ws qs)) (ic_any0 (ic_v rfl (cutS_le.dp D2)) (ic_v rfl (cutS_le.dp r2)) hL) fun H3 v3 s3 d3 => ?_
    cases d3
    dsimp only [List.set]
    have sn : SeqAt.shaped (netD false ws qs) = true := shp_net hW.wok (fun q hq => (nm_sok (hW.qok q hq).1).1) fun q hq => ⟨(hL.ng.q1 q hq).1, (hL.ng.q1 q hq).2.1⟩
    have D3 := s3.dp (cutS_le.dp D2)
    refine if_no (ist_not (a := true) (ist_val (ic_same (K := K) (d := .list [.bool (fullF ws qs), .bool (fullF ws qs), .bool (neverF ws qs)]) (ic_lst (ac_cons (ic_fullC (ic_v rfl D3) hF.nn hF.ng) (ac_cons (ic_fullK (fb := false) (ic_v rfl (s3.dp (cutS_le.dp d2))) hF.nn hF.ng) (ac_cons (ic_never (ic_v rfl D3) hF.nn) ac_nil))) (show 3 ≤ 1000 by decide)) (ic_catL (ds := [.bool (fullF ws qs), .bool (fullF ws qs)]) (es := [.bool (neverF ws qs)]) (ic_rep2 (ic_isfull (ic_v rfl D3) (ic_v rfl (s3.dp (cutS_le.dp r2))) hL)) (ic_lst (ac_cons (ic_b' (ic_notV (ic_v rfl (.bl _))) (Bool.not_not _)) ac_nil) (show 1 ≤ 1000 by decide)) (show 3 ≤ 1000 by decide)) ⟨by show 3 ≤ 4000000; decide, fun d hd => by rcases mem3 hd with rfl | rfl | rfl <;> exact trivial⟩))) fun H4 s4 => ?_
    have e4 := cutS_mono (S := [b]) (s3.trans s4)
    have D4 := e4.dp D2
    have r4 := e4.dp r2
    have y4 := e4.dp d2
    have eB4 := eB.trans e4
    have hb4 := (s3.trans s4) _ _ hb2
    refine for_of ?_
    refine ⟨3, rfl, by decide, by decide, ?_⟩
    refine forR_it (walk_range (lo := 0) (n := 3)) (fun i σ Hc => ∃ (x5 x6 x7 x8 x9 : Option V) (bxc : List V), σ = [some (.ref b), some v, some (.ref r), some y2, some (.bl (!neverF ws qs)), x5, x6, x7, x8, x9, none] ∧ Hc b = some (.lst bxc) ∧ BoxL bxc (N + 10 * i) ∧ Same (cutS [b] H4) (cutS [b] Hc)) ⟨none, none, none, none, none, bx, rfl, hb4, hB, fun _ _ e => e⟩ (fun _ _ _ _ _ => trivial) (fun i x σ Hc Hc' hi hh y => ?_) (fun σ Hc hh => ?_)
    · obtain ⟨x5, x6, x7, x8, x9, bxc, rfl, hbc, hBc, sc⟩ := hh
      obtain ⟨rfl, rfl⟩ := y
      have Dc := cutS_le.dp (sc.dp D4)
      have Dc' : Dp K Hc' v (seqD true [seqD true (ws.map PyData.str), seqD true (qs.map (QD.d true))]) := Dc
      refine asg_of ?_
      refine ⟨_, rfl, ic_lc (K := K) (S := []) (H0 := Hc') (fb := true) qs (QD.d true) (fun q => PyData.str q.nm) (ic_at (fb := true) 1 (ic_v rfl Dc') rfl) (by omega) (fun x => rfl) (fun z H1 T x hz e1 e2 hx => ic_at (fb := true) (ds := [.str z.nm, .str z.st, .str z.en, .int z.room, .int z.gap]) 0 (ic_var rfl hx) rfl) Hc' _ (fun _ _ e => e) Trk.nil fun H5 u5 s5 d5 => ?_⟩
      rw [cutS_nil] at d5
      obtain ⟨l, xs, rfl, hl, hx⟩ := Dp.seq_of (f := false) d5
      have hl : SqL K H5 l xs := hl
      have ex : xs = (qs.map QD.nm).map V.str := dpa_strs_of (by rw [List.map_map]; exact hx)
      subst ex
      refine ic_len (K := K) (S := []) (H0 := H5) (f := true) (ds := qs.map (QD.d true)) (ic_at (fb := true) (ds := [seqD true (ws.map PyData.str), seqD true (qs.map (QD.d true))]) 1 (ic_v rfl (s5.dp Dc')) rfl) H5 _ (fun _ _ e => e) Trk.nil fun H6 u6 s6 d6 => ?_
      cases d6
      have s56 := s5.trans s6
      refine ⟨b, l, _, bxc, N + 10 * i, qs.map QD.nm, rfl, s56 _ _ hbc, hBc, by rw [List.length_map]; omega, s6.sqL hl, by rw [List.length_map]; omega, by omega, by rw [List.length_map]; omega, fun H7 p ys rs bx7 hperm hlen hp0 hp1 hb7 hB7 hS7 => ?_⟩
      have hys : ys.Perm (qs.map QD.nm) := by
        have hl7 := hperm.length_eq
        rw [List.length_append] at hl7
        rw [List.length_map, List.length_map] at hlen
        rw [List.length_map] at hl7
        have : rs = [] := List.eq_nil_of_length_eq_zero (by omega)
        rw [this, List.append_nil] at hperm
        exact hperm
      have hin : ∀ x ∈ ys, x ∈ qs.map QD.nm := fun x hx => hys.mem_iff.mp hx
      have hyl : ys.length ≤ 8 := by
        have := hys.length_eq
        rw [List.length_map] at this
        omega
      refine ⟨p, _, rfl, .inl ⟨sql_of hp1, fun t ht => ?_⟩⟩
      have hb7' : (upd H7 t (.tup (ys.map V.str))) b = some (.lst bx7) := (Same.upd ht) _ _ hb7
      have ntb : t ≠ b := fun z => by
        rw [z, hb7] at ht
        cases ht
      have s78 : Same (cutS [b] Hc') (cutS [b] (upd H7 t (.tup (ys.map V.str)))) := ((cutS_mono s56).trans hS7).trans (cutS_mono (.upd ht))
      have hm8 : Dp K (cutS [b] (upd H7 t (.tup (ys.map V.str)))) (.ref t) (.tuple (ys.map PyData.str)) := .tup (sqt_of (by rw [cutS_out (not1 ntb), upd_same])) dpa_strs
      dsimp only [List.set]
      generalize upd H7 t (.tup (ys.map V.str)) = H8 at hb7' s78 hm8 ⊢
      have sc8 := sc.trans s78
      have D8 := sc8.dp D4
      have r8 := sc8.dp r4
      have y8 := sc8.dp y4
      have hB8 : BoxL bx7 (N + 10 * (i + 1)) := hB7.mono (by omega)
      clear hB7 hS7 hb7 hp1 hp0 s56 s5 s6 hl hx d5 hperm
      refine asg_ic (K := K) (d := fillD ws qs ys) (ic_filled (fb := true) (fo := true) (ic_v rfl (cutS_le.dp D8)) (ic_v rfl (cutS_le.dp hm8)) hF (by omega) hin) fun H9 u9 s9 d9 => ?_
      dsimp only [List.set]
      have e9 := cutS_mono (S := [b]) s9
      have D9 := e9.dp D8
      have r9 := e9.dp r8
      have y9 := e9.dp y8
      have m9 := e9.dp hm8
      refine seq_byC (fun σ Hz => ∃ (x7 x8 x9 : Option V), σ = [some (.ref b), some v, some (.ref r), some y2, some (.bl (!neverF ws qs)), some (.int (0 + (i : Nat))), some (.ref t), x7, x8, x9, none] ∧ Same H9 Hz) (fun σ Hz hh => ?_) (fun D' hD' => ?_)
      · obtain ⟨x7, x8, x9, rfl, sz⟩ := hh
        have ez := cutS_mono (S := [b]) sz
        refine if_no (ist_not (a := true) (ist_val (K := K) ?_)) fun HA sA => ⟨_, _, _, _, _, bx7, rfl, (s9.trans (sz.trans sA)) _ _ hb7', hB8, sc8.trans (cutS_mono (s9.trans (sz.trans sA)))⟩
        intro Hy Qy ey tr qy
        refine ⟨_, rfl, _, rfl, v, .ref t, ws, qs, ys, rfl, ey.dp (cutS_le.dp (ez.dp D9)), ey.dp (cutS_le.dp (ez.dp m9)), hF, ?_, by omega, hin, (fun q hq => (hW.qok q hq).1), fun H' s' => qy H' _ s' (.bl _)⟩
        intro e
        rw [e] at hys
        have := hys.length_eq
        rw [List.length_map] at this
        have := hW.q1
        simp at *
        omega
      · unfold fillD at d9
        rcases Bool.eq_false_or_eq_true (neverF ws qs) with hv | hv
        rotate_left
        · rw [hv] at d9
          have d9 : Dp K H9 u9 .none := d9
          refine if_ist (b := true) (ist_b (ist_val (K := K) (ic_v rfl (.bl _))) (by rw [hv]; rfl)) fun HA sA => iteT ?_
          exact if_no (ist_or (a := false) (b := false) (ist_cmp (ic_notN (d := .none) (ic_v rfl (sA.dp d9)))) fun _ => ist_b (ist_cmp (ic_notN (ic_filledK (K := K) (fb := false) (fo := false) (order := ys) (ic_listT (f := true) (ic_v rfl (sA.dp (cutS_le.dp m9)))) (ic_v rfl (sA.dp (cutS_le.dp y9))) hF (by omega) hin))) (by unfold fillD; rw [hv]; rfl)) fun HB sB => hD' _ _ ⟨_, _, _, rfl, sA.trans sB⟩
        · rw [hv] at d9
          have d9 : Dp K H9 u9 (netD true ws (fillQ ws qs ys)) := d9
          obtain ⟨b1, b2, b3⟩ := fill_ok ys hF hv hin
          have hmax : ∀ x ∈ (fillQ ws qs ys).map QD.nm, MaxN ws (fillQ ws qs ys) x := fun x hx => fill_max ys hF hv hin (by rw [b3.nm] at hx; exact hys.mem_iff.mpr hx)
          have hL' := hL.kept b1 b3
          refine if_ist (b := false) (ist_b (ist_val (K := K) (ic_v rfl (.bl _))) (by rw [hv]; rfl)) fun HA sA => iteF ?_
          have eA := cutS_mono (S := [b]) sA
          refine asg_of ?_
          refine ⟨_, rfl, _, rfl, _, rfl, v, .ref r, .ref t, ws, qs, g, ys, rfl, cutS_le.dp (eA.dp D9), cutS_le.dp (eA.dp r9), cutS_le.dp (eA.dp m9), hL, hF, hv, (fun q hq => by have := (hW.qok q hq).2.2.2; omega), hin, fun HB uB sB dB => ?_⟩
          dsimp only [List.set]
          have sAB := sA.trans sB
          refine asg_ic (K := K) (d := .list [netD true ws (fillQ ws qs ys), netD true ws (fillQ ws qs ys), netD true ws (fillQ ws qs ys)]) (ic_lst (ac_cons (ic_v rfl (sAB.dp d9)) (ac_cons ?_ (ac_cons ?_ ac_nil))) (show 3 ≤ 1000 by decide)) fun HC uC sC dC => ?_
          · have h := ic_filledK (K := K) (C := C) (E := E0) (H0 := HB) (σ := [some (.ref b), some v, some (.ref r), some y2, some (.bl (!neverF ws qs)), some (.int (0 + (i : Nat))), some (.ref t), some u9, some uB, x9, none]) (fb := false) (fo := false) (order := ys) (tb := tCB (fun xs H Q => ∃ p ys, xs = [.ref p] ∧ (SqL K H p ys ∨ SqT K H p ys) ∧ ∀ l, H l = none → Q (.ref l) (upd H l (.lst ys))) (tCons (tVar 6) tNil)) (ta := tVar 3) (ic_listT (f := true) (ic_v rfl (sAB.dp (cutS_le.dp m9)))) (ic_v rfl (sAB.dp (cutS_le.dp y9))) hF (by omega) hin
            unfold fillD at h
            rw [hv] at h
            exact h
          · have h := ic_filled (K := K) (C := C) (E := E0) (H0 := HB) (σ := [some (.ref b), some v, some (.ref r), some y2, some (.bl (!neverF ws qs)), some (.int (0 + (i : Nat))), some (.ref t), some u9, some uB, x9, none]) (fb := true) (fo := true) (ws := ws) (qs := fillQ ws qs ys) (order := ys.reverse) (ta := tVar 7) (tb := tRevT K (tVar 6)) (ic_v rfl (sAB.dp d9)) (ic_revS (ic_v rfl (sAB.dp (cutS_le.dp m9)))) b1 (by rw [List.length_reverse]; omega) (fun x hx => by rw [b3.nm]; exact hin x (List.mem_reverse.mp hx))
            unfold fillD at h
            rw [b2, fill_again ys.reverse b1 fun x hx => ⟨by rw [b3.nm]; exact hin x (List.mem_reverse.mp hx), hmax x (by rw [b3.nm]; exact hin x (List.mem_reverse.mp hx))⟩] at h
            exact h
          · dsimp only [List.set]
            have hfu := full_max b1 b2 hmax
            have sABC := sAB.trans sC
            have lq : (fillQ ws qs ys).length ≤ 60 := by
              rw [duo_len b3.duo]
              omega
            refine if_no (ist_or (a := false) (b := false) (ist_not (a := true) (ist_val (ic_same (ic_v rfl dC) (ic_lst (ac_cons (ic_v rfl (sC.dp dB)) (ac_cons (ic_v rfl (sC.dp dB)) (ac_cons (ic_v rfl (sC.dp dB)) ac_nil))) (show 3 ≤ 1000 by decide)) (rows3_ok (by omega) lq)))) fun _ => ist_or (a := false) (b := false) (ist_not (a := true) (ist_val (ic_b (ic_isfull (ic_v rfl (sC.dp dB)) (ic_v rfl (sABC.dp (cutS_le.dp r9))) hL') hfu))) fun _ => ist_b (ist_cmp (ic_notTrue (ic_fullC (ic_v rfl (sABC.dp d9)) b1.nn b1.ng))) (by rw [hfu]; rfl)) fun HD sD => hD' _ _ ⟨_, _, _, rfl, sABC.trans sD⟩
    · obtain ⟨x5, x6, x7, x8, x9, bxc, rfl, hbc, hBc, sc⟩ := hh
      refine ret_bl (K := K) (b := true) (ic_b (ic_eqD (ic_v rfl (cutS_le.dp (sc.dp y4))) (ic_listsW (ic_v rfl (cutS_le.dp (sc.dp D4))) (okn hql)) sn sn) (eqv_sh sn)) fun H6 s6 => q H6 bxc (s6 _ _ hbc) (hBc.mono (by omega)) ((eB4.trans sc).trans (cutS_mono s6))
end
end Jl

set_option Elab.async false
set_option linter.all false
set_option maxRecDepth 100000
set_option maxHeartbeats 1000000
set_option pp.maxSteps 300
namespace Jl
open PySem PySem.Spec PyProof.Rows L2
open Evl (sz_of sz_lt)
local macro_rules | `(tactic| walk_at "at") => `(tactic| first | exact box0 | exact box1 | exact box2)
local macro_rules | `(tactic| walk_at "sq") => `(tactic| first | (show SqL _ _ _ _; assumption) | (show SqT _ _ _ _; assumption) | (show _ = some _; assumption))
local macro_rules | `(tactic| walk_at "side") => `(tactic| first
  | (show (0 : Int) < _; decide)
  | (show (0 : Int) < _; omega)
  | exact ⟨by decide, by decide, by decide⟩
  | exact sz_of (Nat.le_of_ble_eq_true rfl)
  | exact rfl
  | exact Or.inl (by decide)
  | exact Or.inr (by decide)
  | exact Or.inr ⟨by omega, by omega⟩
  | exact Or.inl ⟨by omega, by omega⟩
  | exact ⟨by decide, by decide +kernel⟩)
local macro_rules | `(tactic| walk_at "ev1") => `(tactic| first
  | refine ⟨_, rfl, ?_⟩
  | refine ⟨_, _, rfl, rfl, ?_⟩
  | refine ⟨_, _, _, _, rfl, rfl, (by walk_at "sq"), (by walk_at "at"), ?_⟩
  | refine ⟨_, _, rfl, (by walk_at "sq"), ?_⟩
  | refine ⟨_, _, rfl, Or.inl (by walk_at "sq"), ?_⟩
  | refine ⟨_, _, rfl, Or.inr (by walk_at "sq"), ?_⟩
  | refine Or.inl ⟨_, rfl, ?_⟩
  | refine Or.inr ⟨_, rfl, ?_⟩
  | refine ⟨(by walk_at "side"), ?_⟩
  | refine ⟨.inl ⟨rfl, _, (by walk_at "sq")⟩, ?_⟩
  | refine ⟨_, _, rfl, ?_⟩)
local macro_rules | `(tactic| walk_at "nrm") => `(tactic| dsimp only [tNil, tCons, tC, tCB])
local macro_rules | `(tactic| walk_at "ev") => `(tactic| repeat (walk_at "ev1"))
section
variable {K : PySem.W.Frag} {S : List Addr} {H0 : Hp} {σ : L2.St} {te ta tb : TE} {d : PyData} {ds es : List PyData}
theorem ic_mulS {i j : Int} (h1 : IsC K S H0 ta (.int i) σ) (h2 : IsC K S H0 tb (.int j) σ) (hi : -(2 ^ 64) < i ∧ i < 2 ^ 64) : IsC K S H0 (tOp (rI CMul fun i j => .int (i * j)) ta tb) (.int (i * j)) σ := fun H Q e tr q => h1 H _ e tr fun H1 v s1 d1 => h2 H1 _ (e.trans s1) (tr.mono s1) fun H2 u s2 d2 => by
  cases d1
  cases d2
  exact ⟨_, _, rfl, rfl, .inl hi, q H2 _ (s1.trans s2) (.int _)⟩
theorem ic_takeL {k : Nat} (h : IsC K S H0 te (.list ds) σ) : IsC K S H0 (tSl (rSlL K) te tNoPart (tPart (tC (.int (k : Nat))))) (.list (ds.take k)) σ := fun H Q e tr q => h H _ e tr fun H1 v s1 d1 => by
  obtain ⟨a, xs, rfl, ha, hx⟩ := Dp.seq_of (f := false) d1
  refine ⟨_, rfl, a, xs, rfl, cutS_le.sqL ha, fun p hp => ?_⟩
  have e1 : cutV xs none (some ((k : Nat) : Int)) = xs.take k := by
    have := cutV_map (f := id) (xs := xs) (k := k)
    rwa [List.map_id, List.map_id] at this
  rw [e1]
  have tk : ∀ {xs : List V} {ds : List PyData} (k : Nat), DpAll K (cutS S H1) xs ds → DpAll K (cutS S H1) (xs.take k) (ds.take k) := by
    intro xs ds k h
    induction k generalizing xs ds with
    | zero => exact .nil
    | succ k ih =>
      cases h with
      | nil => exact .nil
      | cons h1 h2 => exact .cons h1 (ih h2)
  exact q _ _ (s1.trans (.upd hp)) (dp_lst (tr.mono s1) hp (tk k hx))
/-- [e for x, y in zip(a, b)] of two tuples -/
theorem ic_lcz {j1 j2 : Nat} {vs : List Nat} {α : Type} (zs : List α) (f1 f2 h : α → PyData) (h1 : IsC K S H0 ta (.tuple (zs.map f1)) σ) (h2 : IsC K S H0 tb (.tuple (zs.map f2)) σ) (ln : zs.length ≤ 1000)
    (hw : ∀ x y, wipe (((wipe σ vs).set j1 (some x)).set j2 (some y)) vs = wipe σ vs)
    (he : ∀ (z : α) (H1 : Hp) (T : List Addr) (x y : V), z ∈ zs → Same H0 H1 → Same (cutS S H0) (cutS (T ++ S) H1) → Dp K (cutS (T ++ S) H1) x (f1 z) → Dp K (cutS (T ++ S) H1) y (f2 z) → IsC K (T ++ S) H1 te (h z) (((wipe σ vs).set j1 (some x)).set j2 (some y))) : IsC K S H0 (tLcX (RZ.iZipA K (tCons ta (tCons tb tNil))) (gTup K 2 (gCons (gName j1) (gCons (gName j2) gNil))) tYes te vs) (.list (zs.map h)) σ := fun H Q e tr q => by
  refine lc_of (h1 H _ e tr fun Ha v sa da => h2 Ha _ (e.trans sa) (tr.mono sa) fun Hb u sb db => ?_)
  obtain ⟨a, xs, rfl, ha, hx⟩ := Dp.seq_of (f := true) ((cutS_mono sb).dp da)
  obtain ⟨b, ys, rfl, hb, hy⟩ := Dp.seq_of (f := true) db
  have ha : SqT K Hb a xs := cutS_le.sqT ha
  have hb : SqT K Hb b ys := cutS_le.sqT hb
  have lx := dpa_len hx
  have ly := dpa_len hy
  rw [List.length_map] at lx ly
  have t0 := e.trans (sa.trans sb)
  have trb := tr.mono (sa.trans sb)
  refine ⟨a, b, xs, ys, rfl, .inr ⟨ha, hb, fun D hD => ?_⟩⟩
  have w := walk_zipTT (K := K) (a := a) (b := b) (xs := xs) (ys := ys) (by omega)
  have nD : D ∉ S := trb.out hD
  refine lc_it w (Qd := fun H => Q (.ref D) H) (fun i H1 => ∃ rs, Same Hb H1 ∧ H1 D = some (.lst rs) ∧ DpAll K (cutS ([D] ++ S) H1) rs ((zs.take i).map h)) ⟨[], .upd hD, upd_same, .nil⟩ (fun i H1 _ p => by obtain ⟨rs, s1, _⟩ := p; exact ⟨s1.sqT ha, s1.sqT hb⟩) (fun i x H1 H1' hi p y => ?_) (fun H1 p => ?_)
  · obtain ⟨rs, s1, g1, r1⟩ := p
    obtain ⟨T, x1, x2, rfl, hTn, rfl, k1, k2⟩ := y
    obtain ⟨d1, e1, hd1⟩ := dpa_get hx k1
    obtain ⟨d2, e2, hd2⟩ := dpa_get hy k2
    rw [List.getElem?_map] at e1 e2
    cases hz : zs[i]? with
    | none =>
      rw [hz] at e1
      cases e1
    | some z =>
      rw [hz] at e1 e2
      cases e1
      cases e2
      have s2 : Same H1 (upd H1 T (.tup [x1, x2])) := .upd hTn
      refine ⟨T, [x1, x2], rfl, .inl (.inl upd_same), rfl, x1, [x2], rfl, x2, [], rfl, rfl, hw _ _, ?_⟩
      dsimp only [tYes]
      refine iteT ?_
      have s12 := s1.trans s2
      have hDb : cutS S Hb D = none := cutS_none hD
      have cc : Same (cutS S Hb) (cutS ([D] ++ S) (upd H1 T (.tup [x1, x2]))) := fun b o hb => by
        have nb : b ≠ D := fun z => by rw [z, hDb] at hb; cases hb
        have := (cutS_mono (S := S) s12) b o hb
        obtain ⟨h3, h4⟩ := cutS_some this
        exact cutS_at h4 fun z => (List.mem_cons.mp z).elim nb h3
      have trD : Trk ([D] ++ S) (upd H1 T (.tup [x1, x2])) := trk_app (Trk.cons Trk.nil (s2 _ _ g1)) (trb.mono s12)
      refine he z _ [D] x1 x2 (List.mem_of_getElem? hz) (t0.trans s12) ((cutS_mono t0).trans cc) (cc.dp hd1) (cc.dp hd2) _ _ (fun _ _ e => e) trD fun H3 u3 s3 d3 => ?_
      have g3 := s3 _ _ (s2 _ _ g1)
      refine ⟨rs, g3, ?_, rs ++ [u3], (s12.trans s3).mut hD, upd_same, ?_⟩
      · rw [dpa_len r1, List.length_map, List.length_take]
        exact szL (by omega)
      · rw [cutS_upd (List.mem_append_left _ List.mem_cons_self), List.take_add_one, hz, List.map_append]
        exact dpa_app ((cutS_mono (s2.trans s3)).dpa r1) (.cons d3 .nil)
  · obtain ⟨rs, s1, g1, r1⟩ := p
    rw [lx, List.take_length] at r1
    refine q H1 (.ref D) ((sa.trans sb).trans s1) (.lst (sql_of (by rw [cutS_out nD]; exact g1)) ?_)
    rw [cutS_app] at r1
    exact (cutS_mono cutS_le).dpa r1
end
def runP (qs : List QD) : Nat → Ps → Option (List (List Mk))
  | 0, _ => none
  | n + 1, (f, o) => match o.reverse with
    | [] => some f
    | a :: r => runP qs n (stp qs f r.reverse a)
theorem runP_rn {qs : List QD} : ∀ {n : Nat} {p : Ps} {g : List (List Mk)}, runP qs n p = some g → Rn qs p g
  | n + 1, (f, o), g, h => by
    unfold runP at h
    cases ho : o.reverse with
    | nil =>
      rw [ho] at h
      cases h
      have : o = [] := List.reverse_eq_nil_iff.mp ho
      rw [this]
      exact .done _
    | cons a r =>
      rw [ho] at h
      have e : o = r.reverse ++ [a] := by
        have := congrArg List.reverse ho
        rw [List.reverse_reverse, List.reverse_cons] at this
        exact this
      rw [e]
      exact .next f _ a g (runP_rn h)
/-! ### the fork in any measure -/
def qW (G a b c : Int) : List QD := [⟨sO "p", sO "s", sO "a", 3 * G, a⟩, ⟨sO "q", sO "a", sO "d", 3 * G, b⟩, ⟨sO "r", sO "s", sO "d", 4 * G, c⟩]
def gW : List (List Mk) := [[(1, true), (2, false), (0, true)], [(0, false), (2, true), (1, false)]]
theorem wsF_nd : wsF.Nodup := by decide +kernel
theorem wsF_ne : wsF ≠ [] := List.cons_ne_nil _ _
theorem endsW : (sO "s" ∈ wsF ∧ sO "a" ∈ wsF ∧ sO "s" ≠ sO "a") ∧ (sO "a" ∈ wsF ∧ sO "d" ∈ wsF ∧ sO "a" ≠ sO "d") ∧ (sO "s" ∈ wsF ∧ sO "d" ∈ wsF ∧ sO "s" ≠ sO "d") := by decide +kernel
theorem nmW : ([sO "p", sO "q", sO "r"] : List Str).Nodup := by decide +kernel
theorem qW_G {G a b c : Int} : NetG wsF (qW G a b c) := by
  obtain ⟨e1, e2, e3⟩ := endsW
  refine ⟨fun q hq => ?_, nmW⟩
  rcases mem3 hq with rfl | rfl | rfl
  · exact e1
  · exact e2
  · exact e3
theorem qW_rn {G a b c : Int} : Rn (qW G a b c) (startP wsF) gW := rn_duo (qs := qW 1 1 1 1) (qs' := qW G a b c) rfl (runP_rn (n := 60) (by decide +kernel))
theorem qW_F {G a b c : Int} (h1 : 1 ≤ a) (h2 : a ≤ 3 * G) (h3 : 1 ≤ b) (h4 : b ≤ 3 * G) (h5 : 1 ≤ c) (h6 : c ≤ 4 * G) : FillN wsF (qW G a b c) := ⟨wsF_nd, qW_G, wsF_ne, by decide, by show 3 ≤ 500; decide, fun q hq => by
  rcases mem3 hq with rfl | rfl | rfl
  · exact ⟨h1, h2⟩
  · exact ⟨h3, h4⟩
  · exact ⟨h5, h6⟩⟩
theorem neverW {G a b c : Int} (h2 : a ≤ 3 * G) (h4 : b ≤ 3 * G) (h6 : c ≤ 4 * G) : neverF wsF (qW G a b c) = true ↔ 0 < 6 * G + 1 - c ∧ 0 < 4 * G + 2 - a - b := by
  rw [never_rings wsF_nd qW_G wsF_ne qW_rn fun q hq => by rcases mem3 hq with rfl | rfl | rfl <;> assumption]
  have c1 : costQ (qW G a b c) [(1, true), (2, false), (0, true)] = 3 * G + ((1 - c) + (3 * G + 0)) := rfl
  have c2 : costQ (qW G a b c) [(0, false), (2, true), (1, false)] = (1 - a) + (4 * G + ((1 - b) + 0)) := rfl
  unfold badR gW
  rw [List.filter_cons, List.filter_cons, List.filter_nil, c1, c2]
  by_cases k1 : 3 * G + ((1 - c) + (3 * G + 0)) ≤ 0
  · rw [if_pos (decide_eq_true k1)]
    exact ⟨(fun z => nomatch z), fun z => by omega⟩
  · rw [if_neg (by rw [decide_eq_false k1]; decide)]
    by_cases k2 : (1 - a) + (4 * G + ((1 - b) + 0)) ≤ 0
    · rw [if_pos (decide_eq_true k2)]
      exact ⟨(fun z => nomatch z), fun z => by omega⟩
    · rw [if_neg (by rw [decide_eq_false k2]; decide)]
      exact ⟨fun _ => by omega, fun _ => rfl⟩
theorem neverWF {G a b c : Int} (h2 : a ≤ 3 * G) (h4 : b ≤ 3 * G) (h6 : c ≤ 4 * G) (h : ¬ (0 < 6 * G + 1 - c ∧ 0 < 4 * G + 2 - a - b)) : neverF wsF (qW G a b c) = false := by
  cases hv : neverF wsF (qW G a b c) with
  | false => rfl
  | true => exact absurd ((neverW h2 h4 h6).mp hv) h
theorem neW : (sO "q" = sO "p") = False ∧ (sO "r" = sO "p") = False ∧ (sO "p" = sO "q") = False ∧ (sO "r" = sO "q") = False ∧ (sO "p" = sO "r") = False ∧ (sO "q" = sO "r") = False := by
  have h := nmW
  simp only [List.nodup_cons, List.mem_cons, List.not_mem_nil, or_false, not_or] at h
  obtain ⟨⟨h1, h2⟩, h4, _⟩ := h
  exact ⟨eq_false (Ne.symm h1), eq_false (Ne.symm h2), eq_false h1, eq_false (Ne.symm h4), eq_false h2, eq_false h4⟩
theorem madeWp {G a b c k : Int} : madeQ (qW G a b c) (sO "p") (3 * G) k = qW G k b c := by
  obtain ⟨e1, e2, _⟩ := neW
  simp only [madeQ, qW, putQ, List.map_cons, List.map_nil, if_true, e1, e2, if_false]
theorem madeWq {G a b c k : Int} : madeQ (qW G a b c) (sO "q") (3 * G) k = qW G a k c := by
  obtain ⟨_, _, e1, e2, _⟩ := neW
  simp only [madeQ, qW, putQ, List.map_cons, List.map_nil, if_true, e1, e2, if_false]
theorem madeWr {G a b c k : Int} : madeQ (qW G a b c) (sO "r") (4 * G) k = qW G a b k := by
  obtain ⟨_, _, _, _, e1, e2⟩ := neW
  simp only [madeQ, qW, putQ, List.map_cons, List.map_nil, if_true, e1, e2, if_false]
theorem stepWp {G a b c k : Int} (h4 : b ≤ 3 * G) (h6 : c ≤ 4 * G) (k1 : 1 ≤ k) (k2 : k ≤ 3 * G) (g1 : 0 < 6 * G + 1 - c ∧ 0 < 4 * G + 2 - k - b) (g2 : k = 3 * G ∨ ¬ 0 < 4 * G + 2 - (k + 1) - b) : stepQ wsF (qW G a b c) (sO "p") = qW G k b c := by
  have hz : (⟨sO "p", sO "s", sO "a", 3 * G, a⟩ : QD) ∈ qW G a b c := List.mem_cons_self
  have hg := gr_is wsF_nd qW_G wsF_ne hz (r := k) k1 k2 (by show neverF wsF (madeQ _ (sO "p") (3 * G) k) = true; rw [madeWp]; exact (neverW k2 h4 h6).mpr g1) (by
    by_cases e : k = 3 * G
    · exact .inl e
    · refine .inr ?_
      show neverF wsF (madeQ _ (sO "p") (3 * G) (k + 1)) = false
      rw [madeWp]
      exact neverWF (by omega) h4 h6 (by omega))
  exact (step_at qW_G hz hg).trans madeWp
theorem stepWq {G a b c k : Int} (h4 : a ≤ 3 * G) (h6 : c ≤ 4 * G) (k1 : 1 ≤ k) (k2 : k ≤ 3 * G) (g1 : 0 < 6 * G + 1 - c ∧ 0 < 4 * G + 2 - a - k) (g2 : k = 3 * G ∨ ¬ 0 < 4 * G + 2 - a - (k + 1)) : stepQ wsF (qW G a b c) (sO "q") = qW G a k c := by
  have hz : (⟨sO "q", sO "a", sO "d", 3 * G, b⟩ : QD) ∈ qW G a b c := List.mem_cons_of_mem _ List.mem_cons_self
  have hg := gr_is wsF_nd qW_G wsF_ne hz (r := k) k1 k2 (by show neverF wsF (madeQ _ (sO "q") (3 * G) k) = true; rw [madeWq]; exact (neverW h4 k2 h6).mpr g1) (by
    by_cases e : k = 3 * G
    · exact .inl e
    · refine .inr ?_
      show neverF wsF (madeQ _ (sO "q") (3 * G) (k + 1)) = false
      rw [madeWq]
      exact neverWF h4 (by omega) h6 (by omega))
  exact (step_at qW_G hz hg).trans madeWq
theorem stepWr {G a b c : Int} (h4 : a ≤ 3 * G) (h5 : b ≤ 3 * G) (hG : 1 ≤ G) (g1 : 0 < 4 * G + 2 - a - b) : stepQ wsF (qW G a b c) (sO "r") = qW G a b (4 * G) := by
  have hz : (⟨sO "r", sO "s", sO "d", 4 * G, c⟩ : QD) ∈ qW G a b c := List.mem_cons_of_mem _ (List.mem_cons_of_mem _ List.mem_cons_self)
  have hg := gr_is wsF_nd qW_G wsF_ne hz (r := 4 * G) (by omega) (Int.le_refl _) (by show neverF wsF (madeQ _ (sO "r") (4 * G) (4 * G)) = true; rw [madeWr]; exact (neverW h4 h5 (Int.le_refl _)).mpr ⟨by omega, g1⟩) (.inl rfl)
  exact (step_at qW_G hz hg).trans madeWr
theorem fillW1 {G : Int} (hG : 1 ≤ G) : fillQ wsF (qW G 1 1 1) [sO "p", sO "q", sO "r"] = qW G (3 * G) (G + 1) (4 * G) := by
  show stepQ wsF (stepQ wsF (stepQ wsF (qW G 1 1 1) (sO "p")) (sO "q")) (sO "r") = _
  rw [stepWp (k := 3 * G) (by omega) (by omega) (by omega) (by omega) (by omega) (.inl rfl), stepWq (k := G + 1) (by omega) (by omega) (by omega) (by omega) (by omega) (.inr (by omega)), stepWr (by omega) (by omega) hG (by omega)]
theorem fillW2 {G : Int} (hG : 1 ≤ G) : fillQ wsF (qW G 1 1 1) [sO "q", sO "r", sO "p"] = qW G (G + 1) (3 * G) (4 * G) := by
  show stepQ wsF (stepQ wsF (stepQ wsF (qW G 1 1 1) (sO "q")) (sO "r")) (sO "p") = _
  rw [stepWq (k := 3 * G) (by omega) (by omega) (by omega) (by omega) (by omega) (.inl rfl), stepWr (by omega) (by omega) hG (by omega), stepWp (k := G + 1) (by omega) (by omega) (by omega) (by omega) (by omega) (.inr (by omega))]
theorem fillW3 {G : Int} (hG : 1 ≤ G) : fillQ wsF (qW G 1 1 1) [sO "r", sO "q", sO "p"] = qW G (G + 1) (3 * G) (4 * G) := by
  show stepQ wsF (stepQ wsF (stepQ wsF (qW G 1 1 1) (sO "r")) (sO "q")) (sO "p") = _
  rw [stepWr (by omega) (by omega) hG (by omega), stepWq (k := 3 * G) (by omega) (by omega) (by omega) (by omega) (by omega) (.inl rfl), stepWp (k := G + 1) (by omega) (by omega) (by omega) (by omega) (by omega) (.inr (by omega))]
theorem fullW0 {G : Int} (hG : 1 ≤ G) : fullF wsF (qW G 1 1 1) = false := by
  unfold fullF
  have e : ((qW G 1 1 1).all fun z => decide (z.gap = z.room) || !neverF wsF (madeQ (qW G 1 1 1) z.nm z.room (z.gap + 1))) = false := by
    refine List.all_eq_false.mpr ⟨⟨sO "p", sO "s", sO "a", 3 * G, 1⟩, List.mem_cons_self, ?_⟩
    show ¬ ((decide ((1 : Int) = 3 * G) || !neverF wsF (madeQ (qW G 1 1 1) (sO "p") (3 * G) (1 + 1))) = true)
    rw [madeWp, decide_eq_false (by omega), (neverW (by omega) (by omega) (by omega)).mpr (by omega)]
    decide
  rw [e, Bool.and_false]
theorem fullW1 {G : Int} (hG : 1 ≤ G) : fullF wsF (qW G (3 * G) (G + 1) (4 * G)) = true := by
  unfold fullF
  rw [(neverW (by omega) (by omega) (by omega)).mpr (by omega), Bool.true_and, List.all_eq_true]
  intro z hz
  rcases mem3 hz with rfl | rfl | rfl
  · show (decide (3 * G = 3 * G) || _) = true
    rw [decide_eq_true rfl]
    rfl
  · show (decide (G + 1 = 3 * G) || !neverF wsF (madeQ _ (sO "q") (3 * G) (G + 1 + 1))) = true
    by_cases c : G + 1 = 3 * G
    · omega
    · rw [madeWq, neverWF (by omega) (by omega) (by omega) (by omega), Bool.not_false, Bool.or_true]
  · show (decide (4 * G = 4 * G) || _) = true
    rw [decide_eq_true rfl]
    rfl
theorem fullW2 {G : Int} (hG : 1 ≤ G) : fullF wsF (qW G (G + 1) (3 * G) (4 * G)) = true := by
  unfold fullF
  rw [(neverW (by omega) (by omega) (by omega)).mpr (by omega), Bool.true_and, List.all_eq_true]
  intro z hz
  rcases mem3 hz with rfl | rfl | rfl
  · show (decide (G + 1 = 3 * G) || !neverF wsF (madeQ _ (sO "p") (3 * G) (G + 1 + 1))) = true
    by_cases c : G + 1 = 3 * G
    · omega
    · rw [madeWp, neverWF (by omega) (by omega) (by omega) (by omega), Bool.not_false, Bool.or_true]
  · show (decide (3 * G = 3 * G) || _) = true
    rw [decide_eq_true rfl]
    rfl
  · show (decide (4 * G = 4 * G) || _) = true
    rw [decide_eq_true rfl]
    rfl
end Jl

set_option Elab.async false
set_option linter.all false
set_option maxRecDepth 100000
set_option maxHeartbeats 1000000
set_option pp.maxSteps 300
namespace Jl
open PySem PySem.Spec PyProof.Rows L2
open Evl (sz_of sz_lt)
local macro_rules | `(tactic| walk_at "at") => `(tactic| first | exact box0 | exact box1 | exact box2)
local macro_rules | `(tactic| walk_at "sq") => `(tactic| first | (show SqL _ _ _ _; assumption) | (show SqT _ _ _ _; assumption) | (show _ = some _; assumption))
local macro_rules | `(tactic| walk_at "side") => `(tactic| first
  | (show (0 : Int) < _; decide)
  | (show (0 : Int) < _; omega)
  | exact ⟨by decide, by decide, by decide⟩
  | exact sz_of (Nat.le_of_ble_eq_true rfl)
  | exact rfl
  | exact Or.inl (by decide)
  | exact Or.inr (by decide)
  | exact Or.inr ⟨by omega, by omega⟩
  | exact Or.inl ⟨by omega, by omega⟩
  | exact ⟨by decide, by decide +kernel⟩)
local macro_rules | `(tactic| walk_at "ev1") => `(tactic| first
  | refine ⟨_, rfl, ?_⟩
  | refine ⟨_, _, rfl, rfl, ?_⟩
  | refine ⟨_, _, _, _, rfl, rfl, (by walk_at "sq"), (by walk_at "at"), ?_⟩
  | refine ⟨_, _, rfl, (by walk_at "sq"), ?_⟩
  | refine ⟨_, _, rfl, Or.inl (by walk_at "sq"), ?_⟩
  | refine ⟨_, _, rfl, Or.inr (by walk_at "sq"), ?_⟩
  | refine Or.inl ⟨_, rfl, ?_⟩
  | refine Or.inr ⟨_, rfl, ?_⟩
  | refine ⟨(by walk_at "side"), ?_⟩
  | refine ⟨.inl ⟨rfl, _, (by walk_at "sq")⟩, ?_⟩
  | refine ⟨_, _, rfl, ?_⟩)
local macro_rules | `(tactic| walk_at "nrm") => `(tactic| dsimp only [tNil, tCons, tC, tCB])
local macro_rules | `(tactic| walk_at "ev") => `(tactic| repeat (walk_at "ev1"))
abbrev sc_w_wide_right_N : List Str := ["_law_great", "_law_rooms", "_law_web_here", "_law_one", "_law_two", "_law_got", "_law_marks", "_law_own", "_law_mark"]
abbrev s_w_wide_right : Stmt := topS 37
theorem sc_w_wide_right : FnScope ["_law_great", "_law_rooms", "_law_web_here", "_law_one", "_law_two", "_law_got", "_law_marks", "_law_own", "_law_mark"] ["_law_great"] (defScope s_w_wide_right) := ⟨rfl, rfl, rfl, by decide +kernel, rfl, by decide +kernel, by decide +kernel⟩
section
variable {K : PySem.W.Frag} {S : List Addr} {H0 : Hp} {σ : L2.St} {te : TE} {ds : List PyData}
theorem ic_tupS {fb : Bool} (h : IsC K S H0 te (seqD fb ds) σ) : IsC K S H0 (tCB (fun xs H Q => ∃ p ys, xs = [.ref p] ∧ ((SqL K H p ys ∧ ∀ l, H l = none → Q (.ref l) (upd H l (.tup ys))) ∨ (SqT K H p ys ∧ Q (.ref p) H))) (tCons te tNil)) (.tuple ds) σ := fun H Q e tr q => h H _ e tr fun H' v s1 d1 => by
  obtain ⟨l, xs, rfl, hl, hd⟩ := Dp.seq_of (f := fb) d1
  cases fb with
  | true => exact ⟨l, xs, rfl, .inr ⟨cutS_le.sqT hl, q _ _ s1 (.tup hl hd)⟩⟩
  | false => exact ⟨l, xs, rfl, .inl ⟨cutS_le.sqL hl, fun p hp => q _ _ (s1.trans (.upd hp)) (dp_tup (tr.mono s1) hp hd)⟩⟩
end
def roomR (z : QD) : PyData := .tuple [.str z.nm, .str z.st, .str z.en, .int z.room]
def tri3 (m : Int × Int × Int) : PyData := .tuple [.int m.1, .int m.2.1, .int m.2.2]
section
variable {P : Program} {w : World} {K : PySem.W.Frag} {mg : Str → Option Value} {base : Heap}
def spWide (K : PySem.W.Frag) : Sp := fun vs H Q _ => ∃ G : Int, vs = [.int G] ∧ 1 ≤ G ∧ ∀ H', Same H H' → Q (.bl true) H'
theorem ok_w_wide_right {f fL fU fS C : Addr} {fd fdL fdU fdS : FuncData} {k : Nat} (F : Fun K "_law_wide_right" "_law_wide_right" s_w_wide_right f fd)
    (GX_filled : FnOk P w K mg base (L2.CX P w) k fL fdL ["net", "order"] (spFillX K C)) (g_filled : mg "filled" = some (.ref fL)) (F_filled : Fun K "filled" "filled" s_filled fL fdL) (b_filled : Binds K fdL ["net", "order"] [])
    (G_full : FnOk P w K mg base CX0 k fU fdU ["net"] (spFull K)) (g_full : mg "full" = some (.ref fU)) (F_full : Fun K "full" "full" s_full fU fdU) (b_full : Binds K fdU ["net"] [])
    (G_w_same : FnOk P w K mg base CX0 k fS fdS ["_law_got", "_law_due"] (spSame K 5)) (g_w_same : mg "_law_same" = some (.ref fS)) (F_w_same : Fun K "_law_same" "_law_same" s_w_same fS fdS) (b_w_same : Binds K fdS ["_law_got", "_law_due"] [])
    (m_tuple : mg "tuple" = none) (m_zip : mg "zip" = none) : FnOk P w K mg base CX0 (k + 1) f fd ["_law_great"] (spWide K) := by
  refine F.ok sc_w_wide_right (fun vs H Q E h => ?_) (fun cdv A outer sS H vs Q E hr h => ?_)
  · obtain ⟨G, rfl, _⟩ := h
    rfl
  · obtain ⟨G, rfl, hG, q⟩ := h
    refine ⟨_, (pss_cons (ps_set (i := 1) sc_w_wide_right.nd rfl (Or.inr rfl) (pe_tup (pa_cons (pe_tup (pa_cons pe_str (pa_cons pe_str (pa_cons pe_str (pa_cons (pe_op op_mul pe_int (pv 0)) pa_nil))))) (pa_cons (pe_tup (pa_cons pe_str (pa_cons pe_str (pa_cons pe_str (pa_cons (pe_op op_mul pe_int (pv 0)) pa_nil))))) (pa_cons (pe_tup (pa_cons pe_str (pa_cons pe_str (pa_cons pe_str (pa_cons (pe_op op_mul pe_int (pv 0)) pa_nil))))) pa_nil))))) 
    (pss_cons (ps_asg (pe_lcX (pe_lc (own := [("_law_marks", 6)]) (g := gName 6) (tt := tYes) (te := (tTup (tCons (tTup (tCons (tC (.str (Str.ofString "a"))) (tCons (tC (.str (Str.ofString "d"))) (tCons (tC (.str (Str.ofString "s"))) tNil)))) (tCons (tCB (fun xs H Q => ∃ p ys, xs = [.ref p] ∧ ((SqL K H p ys ∧ ∀ l, H l = none → Q (.ref l) (upd H l (.tup ys))) ∨ (SqT K H p ys ∧ Q (.ref p) H))) (tCons (tLcX (RZ.iZipA K (tCons (tVar 1) (tCons (tVar 6) tNil))) (gTup K 2 (gCons (gName 7) (gCons (gName 8) gNil))) tYes (tOp (rCatA K) (tVar 7) (tTup (tCons (tVar 8) tNil))) [7, 8]) tNil)) tNil)))) (by rfl) sc_w_wide_right.nd (pi_seq (pe_tup (pa_cons (pe_tup (pa_cons pe_int (pa_cons pe_int (pa_cons pe_int pa_nil)))) (pa_cons (pe_tup (pa_cons (pe_op op_mul pe_int (pv 0)) (pa_cons (pe_op op_add (pv 0) pe_int) (pa_cons (pe_op op_mul pe_int (pv 0)) pa_nil)))) (pa_cons (pe_tup (pa_cons (pe_op op_add (pv 0) pe_int) (pa_cons (pe_op op_mul pe_int (pv 0)) (pa_cons (pe_op op_mul pe_int (pv 0)) pa_nil)))) pa_nil))))) (blkOk_by (own := [("_law_marks", 6)]) (N := sc_w_wide_right_N) (sc := defScope s_w_wide_right) (by decide +kernel)) (fun _ _ _ _ _ => pg_name (i := 6) sc_w_wide_right.nd rfl (Or.inl rfl)) (fun _ _ _ _ _ => pts_nil) (fun _ _ _ _ _ => (pe_tup (pa_cons (pe_tup (pa_cons pe_str (pa_cons pe_str (pa_cons pe_str pa_nil)))) (pa_cons (pe_callTy call_tuple_of (by rfl) m_tuple (by decide +kernel) (pa_cons (pe_lcX (pe_lc (own := [("_law_own", 7), ("_law_mark", 8)]) (g := gTup K 2 (gCons (gName 7) (gCons (gName 8) gNil))) (tt := tYes) (te := (tOp (rCatA K) (tVar 7) (tTup (tCons (tVar 8) tNil)))) (by rfl) sc_w_wide_right.nd (RZ.pi_zipA (by rfl) m_zip (pa_cons (pv 1) (pa_cons (pv 6) pa_nil))) (blkOk_by (own := [("_law_own", 7), ("_law_mark", 8)]) (N := sc_w_wide_right_N) (by first | rfl | with_unfolding_all rfl)) (fun _ _ _ _ _ => pg_tup rfl (pgs_cons (pg_name (i := 7) sc_w_wide_right.nd rfl (Or.inl rfl)) (pgs_cons (pg_name (i := 8) sc_w_wide_right.nd rfl (Or.inl rfl)) pgs_nil))) (fun _ _ _ _ _ => pts_nil) (fun _ _ _ _ _ => (pe_op op_catA (pv 7) (pe_tup (pa_cons (pv 8) pa_nil)))))) pa_nil)) pa_nil)))))) (pg_seq (pg_tup rfl (pgs_cons (pg_name (i := 2) sc_w_wide_right.nd rfl (Or.inl rfl)) (pgs_cons (pg_name (i := 3) sc_w_wide_right.nd rfl (Or.inl rfl)) (pgs_cons (pg_name (i := 4) sc_w_wide_right.nd rfl (Or.inl rfl)) pgs_nil)))) (pg_lst rfl (pgs_cons (pg_name (i := 2) sc_w_wide_right.nd rfl (Or.inl rfl)) (pgs_cons (pg_name (i := 3) sc_w_wide_right.nd rfl (Or.inl rfl)) (pgs_cons (pg_name (i := 4) sc_w_wide_right.nd rfl (Or.inl rfl)) pgs_nil)))))) 
    (pss_cons (ps_set (i := 5) sc_w_wide_right.nd rfl (Or.inl rfl) (pe_lst (pa_cons (pe_call GX_filled hr (by rfl) g_filled F_filled.kp b_filled .nil passL (pa_cons (pv 2) (pa_cons (pe_tup (pa_cons pe_str (pa_cons pe_str (pa_cons pe_str pa_nil)))) pa_nil))) (pa_cons (pe_call GX_filled hr (by rfl) g_filled F_filled.kp b_filled .nil passL (pa_cons (pv 2) (pa_cons (pe_lst (pa_cons pe_str (pa_cons pe_str (pa_cons pe_str pa_nil)))) pa_nil))) (pa_cons (pe_call GX_filled hr (by rfl) g_filled F_filled.kp b_filled .nil passL (pa_cons (pv 2) (pa_cons (pe_tup (pa_cons pe_str (pa_cons pe_str (pa_cons pe_str pa_nil)))) pa_nil))) pa_nil))))) 
    (pss_one (ps_ret (pe_call G_w_same hr (by rfl) g_w_same F_w_same.kp b_w_same .nil pass0 (pa_cons (pe_op op_catL (pv 5) (pe_lst (pa_cons (pe_call G_full hr (by rfl) g_full F_full.kp b_full .nil pass0 (pa_cons (pv 2) pa_nil)) (pa_cons (pe_call G_full hr (by rfl) g_full F_full.kp b_full .nil pass0 (pa_cons (pv 3) pa_nil)) (pa_cons (pe_call G_full hr (by rfl) g_full F_full.kp b_full .nil pass0 (pa_cons (pv 4) pa_nil)) pa_nil))))) (pa_cons (pe_lst (pa_cons (pv 3) (pa_cons (pv 4) (pa_cons (pv 4) (pa_cons pe_bl (pa_cons pe_bl (pa_cons pe_bl pa_nil))))))) pa_nil)))))))), ?_⟩
    rw [show L2.start sc_w_wide_right_N [.int G] = [some (.int G), none, none, none, none, none, none, none, none] from rfl]
    have mulg : ∀ {H : Hp} {σ : L2.St} {i : Int}, σ[0]? = some (some (.int G)) → -(2 ^ 64) < i ∧ i < 2 ^ 64 → IsC K [] H (tOp (rI CMul fun i j => .int (i * j)) (tC (.int i)) (tVar 0)) (.int (i * G)) σ := fun h hi => ic_mulS ic_int (ic_v h (.int _)) hi
    have b3 : -(2 ^ 64) < (3 : Int) ∧ (3 : Int) < 2 ^ 64 := by decide
    have b4 : -(2 ^ 64) < (4 : Int) ∧ (4 : Int) < 2 ^ 64 := by decide
    have r4 : ∀ {H : Hp} {σ : L2.St} {a b c : Str} {t : TE} {i : Int}, IsC K [] H t (.int i) σ → IsC K [] H (tTup (tCons (tC (.str a)) (tCons (tC (.str b)) (tCons (tC (.str c)) (tCons t tNil))))) (.tuple [.str a, .str b, .str c, .int i]) σ := fun h => ic_tup (ac_cons ic_str (ac_cons ic_str (ac_cons ic_str (ac_cons h ac_nil)))) (show 4 ≤ 1000 by decide)
    refine asg_ic (K := K) (d := .tuple ((qW G 1 1 1).map roomR)) (ic_tup (ac_cons (r4 (mulg rfl b3)) (ac_cons (r4 (mulg rfl b3)) (ac_cons (r4 (mulg rfl b4)) ac_nil))) (show 3 ≤ 1000 by decide)) fun H1 v1 s1 d1 => ?_
    dsimp only [List.set]
    let ms : List (Int × Int × Int) := [(1, 1, 1), (3 * G, G + 1, 4 * G), (G + 1, 3 * G, 4 * G)]
    have t3 : ∀ {H : Hp} {σ : L2.St} {t1 t2 t3 : TE} {i j l : Int}, IsC K [] H t1 (.int i) σ → IsC K [] H t2 (.int j) σ → IsC K [] H t3 (.int l) σ → IsC K [] H (tTup (tCons t1 (tCons t2 (tCons t3 tNil)))) (tri3 (i, j, l)) σ := fun h1 h2 h3 => ic_tup (ac_cons h1 (ac_cons h2 (ac_cons h3 ac_nil))) (show 3 ≤ 1000 by decide)
    refine ic_lc (K := K) (S := []) (H0 := H1) (fb := true) ms tri3 (fun m => netD true wsF (qW G m.1 m.2.1 m.2.2)) (ic_tup (ac_cons (t3 ic_int ic_int ic_int) (ac_cons (t3 (mulg rfl b3) (ic_addI (ic_v rfl (.int _)) ic_int) (mulg rfl b4)) (ac_cons (t3 (ic_addI (ic_v rfl (.int _)) ic_int) (mulg rfl b3) (mulg rfl b4)) ac_nil))) (show 3 ≤ 1000 by decide)) (show 3 ≤ 4000000 by decide) (fun x => rfl) (fun m H2 T x hm e1 e2 hx => ?_) H1 _ (fun _ _ e => e) Trk.nil fun H2 v2 s2 d2 => ?_
    · rw [cutS_nil] at e2
      refine ic_tup (ds := [seqD true (wsF.map PyData.str), seqD true ((qW G m.1 m.2.1 m.2.2).map (QD.d true))]) (ac_cons (ic_tup (ac_cons ic_str (ac_cons ic_str (ac_cons ic_str ac_nil))) (show 3 ≤ 1000 by decide)) (ac_cons (ic_tupS (fb := false) ?_) ac_nil)) (show 2 ≤ 1000 by decide)
      refine ic_lcz (K := K) (qW G m.1 m.2.1 m.2.2) roomR (fun z => .int z.gap) (QD.d true) (ic_var rfl (e2.dp d1)) (ic_var rfl hx) (show 3 ≤ 1000 by decide) (fun x y => rfl) fun z H3 T3 x3 y3 hz e3 e4 hx3 hy3 => ?_
      exact ic_catS (ds := [.str z.nm, .str z.st, .str z.en, .int z.room]) (es := [.int z.gap]) (ic_var rfl hx3) (ic_tup (ac_cons (ic_var rfl hy3) ac_nil) (show 1 ≤ 1000 by decide)) (show 5 ≤ 100000 by decide)
    · rw [cutS_nil] at d2
      obtain ⟨a2, xs, rfl, ha, hx⟩ := Dp.seq_of (f := false) d2
      have ha : SqL K H2 a2 xs := ha
      obtain ⟨w1, w2, w3, rfl, k1, k2, k3⟩ : ∃ w1 w2 w3, xs = [w1, w2, w3] ∧ Dp K H2 w1 (netD true wsF (qW G 1 1 1)) ∧ Dp K H2 w2 (netD true wsF (qW G (3 * G) (G + 1) (4 * G))) ∧ Dp K H2 w3 (netD true wsF (qW G (G + 1) (3 * G) (4 * G))) := by
        cases hx with
        | cons k1 hx =>
          cases hx with
          | cons k2 hx =>
            cases hx with
            | cons k3 hx =>
              cases hx
              exact ⟨_, _, _, rfl, k1, k2, k3⟩
      refine gSeq_at (f := false) ha rfl ⟨_, _, rfl, _, _, rfl, _, _, rfl, rfl, ?_⟩
      dsimp only [List.set]
      have F0 : FillN wsF (qW G 1 1 1) := qW_F (by omega) (by omega) (by omega) (by omega) (by omega) (by omega)
      have F1 : FillN wsF (qW G (3 * G) (G + 1) (4 * G)) := qW_F (by omega) (by omega) (by omega) (by omega) (by omega) (by omega)
      have F2 : FillN wsF (qW G (G + 1) (3 * G) (4 * G)) := qW_F (by omega) (by omega) (by omega) (by omega) (by omega) (by omega)
      have hv0 : neverF wsF (qW G 1 1 1) = true := (neverW (by omega) (by omega) (by omega)).mpr (by omega)
      have fd1 : fillD wsF (qW G 1 1 1) [sO "p", sO "q", sO "r"] = netD true wsF (qW G (3 * G) (G + 1) (4 * G)) := by unfold fillD; rw [if_pos hv0, fillW1 hG]
      have fd2 : fillD wsF (qW G 1 1 1) [sO "q", sO "r", sO "p"] = netD true wsF (qW G (G + 1) (3 * G) (4 * G)) := by unfold fillD; rw [if_pos hv0, fillW2 hG]
      have fd3 : fillD wsF (qW G 1 1 1) [sO "r", sO "q", sO "p"] = netD true wsF (qW G (G + 1) (3 * G) (4 * G)) := by unfold fillD; rw [if_pos hv0, fillW3 hG]
      have i3 : ∀ {H : Hp} {σ : L2.St} {a b c : Str}, IsC K [] H (tTup (tCons (tC (.str a)) (tCons (tC (.str b)) (tCons (tC (.str c)) tNil)))) (seqD true ([a, b, c].map PyData.str)) σ := ic_tup (ac_cons ic_str (ac_cons ic_str (ac_cons ic_str ac_nil))) (show 3 ≤ 1000 by decide)
      have l3 : ∀ {H : Hp} {σ : L2.St} {a b c : Str}, IsC K [] H (tLst (tCons (tC (.str a)) (tCons (tC (.str b)) (tCons (tC (.str c)) tNil)))) (seqD false ([a, b, c].map PyData.str)) σ := ic_lst (ac_cons ic_str (ac_cons ic_str (ac_cons ic_str ac_nil))) (show 3 ≤ 1000 by decide)
      have hin : ∀ {a b c : Str}, a ∈ [sO "p", sO "q", sO "r"] → b ∈ [sO "p", sO "q", sO "r"] → c ∈ [sO "p", sO "q", sO "r"] → ∀ x ∈ [a, b, c], x ∈ (qW G 1 1 1).map QD.nm := fun h1 h2 h3 x hx => by
        show x ∈ [sO "p", sO "q", sO "r"]
        rcases mem3 hx with rfl | rfl | rfl <;> assumption
      have mp : sO "p" ∈ [sO "p", sO "q", sO "r"] := List.mem_cons_self
      have mq : sO "q" ∈ [sO "p", sO "q", sO "r"] := List.mem_cons_of_mem _ List.mem_cons_self
      have mr : sO "r" ∈ [sO "p", sO "q", sO "r"] := List.mem_cons_of_mem _ (List.mem_cons_of_mem _ List.mem_cons_self)
      refine asg_ic (K := K) (d := .list [netD true wsF (qW G (3 * G) (G + 1) (4 * G)), netD true wsF (qW G (G + 1) (3 * G) (4 * G)), netD true wsF (qW G (G + 1) (3 * G) (4 * G))]) (ic_lst (ac_cons ?_ (ac_cons ?_ (ac_cons ?_ ac_nil))) (show 3 ≤ 1000 by decide)) fun H3 v5 s3 d5 => ?_
      · rw [← fd1]
        exact ic_filled (fb := true) (fo := true) (order := [sO "p", sO "q", sO "r"]) (ic_v rfl k1) i3 F0 (show 3 ≤ 1000 by decide) (hin mp mq mr)
      · rw [← fd2]
        exact ic_filled (fb := true) (fo := false) (order := [sO "q", sO "r", sO "p"]) (ic_v rfl k1) l3 F0 (show 3 ≤ 1000 by decide) (hin mq mr mp)
      · rw [← fd3]
        exact ic_filled (fb := true) (fo := true) (order := [sO "r", sO "q", sO "p"]) (ic_v rfl k1) i3 F0 (show 3 ≤ 1000 by decide) (hin mr mq mp)
      · dsimp only [List.set]
        have okn : ∀ {a b c : Int}, okD 4 (netD true wsF (qW G a b c)) := net_okD (by decide) (by show 3 ≤ 60; decide)
        refine ret_bl (K := K) (b := true) (ic_same (d := .list ([netD true wsF (qW G (3 * G) (G + 1) (4 * G)), netD true wsF (qW G (G + 1) (3 * G) (4 * G)), netD true wsF (qW G (G + 1) (3 * G) (4 * G))] ++ [.bool false, .bool true, .bool true])) (ic_catL (ic_v rfl d5) (ic_lst (ac_cons ?_ (ac_cons ?_ (ac_cons ?_ ac_nil))) (show 3 ≤ 1000 by decide)) (show 6 ≤ 1000 by decide)) (ic_lst (ac_cons (ic_v rfl (s3.dp k2)) (ac_cons (ic_v rfl (s3.dp k3)) (ac_cons (ic_v rfl (s3.dp k3)) (ac_cons ic_bl (ac_cons ic_bl (ac_cons ic_bl ac_nil)))))) (show 6 ≤ 1000 by decide)) ⟨by show 6 ≤ 4000000; decide, fun d hd => ?_⟩) fun H4 s4 => q H4 (((s1.trans s2).trans s3).trans s4)
        · have h := ic_fullC (K := K) (E := E0) (σ := [some (.int G), some v1, some w1, some w2, some w3, some v5, none, none, none]) (ta := tVar 2) (fb := true) (ic_v rfl (s3.dp k1)) F0.nn F0.ng
          rw [fullW0 hG] at h
          exact h
        · have h := ic_fullC (K := K) (E := E0) (σ := [some (.int G), some v1, some w1, some w2, some w3, some v5, none, none, none]) (ta := tVar 3) (fb := true) (ic_v rfl (s3.dp k2)) F1.nn F1.ng
          rw [fullW1 hG] at h
          exact h
        · have h := ic_fullC (K := K) (E := E0) (σ := [some (.int G), some v1, some w1, some w2, some w3, some v5, none, none, none]) (ta := tVar 4) (fb := true) (ic_v rfl (s3.dp k3)) F2.nn F2.ng
          rw [fullW2 hG] at h
          exact h
        · rcases List.mem_append.mp hd with hd | hd
          · rcases mem3 hd with rfl | rfl | rfl <;> exact okn
          · rcases mem3 hd with rfl | rfl | rfl <;> exact trivial
end
end Jl

set_option Elab.async false
set_option linter.all false
set_option maxRecDepth 100000
set_option maxHeartbeats 1000000
set_option pp.maxSteps 300
namespace Jl
open PySem PySem.Spec PyProof.Rows L2
open Evl (sz_of sz_lt)
local macro_rules | `(tactic| walk_at "at") => `(tactic| first | exact box0 | exact box1 | exact box2)
local macro_rules | `(tactic| walk_at "sq") => `(tactic| first | (show SqL _ _ _ _; assumption) | (show SqT _ _ _ _; assumption) | (show _ = some _; assumption))
local macro_rules | `(tactic| walk_at "side") => `(tactic| first
  | (show (0 : Int) < _; decide)
  | (show (0 : Int) < _; omega)
  | exact ⟨by decide, by decide, by decide⟩
  | exact sz_of (Nat.le_of_ble_eq_true rfl)
  | exact rfl
  | exact Or.inl (by decide)
  | exact Or.inr (by decide)
  | exact Or.inr ⟨by omega, by omega⟩
  | exact Or.inl ⟨by omega, by omega⟩
  | exact ⟨by decide, by decide +kernel⟩)
local macro_rules | `(tactic| walk_at "ev1") => `(tactic| first
  | refine ⟨_, rfl, ?_⟩
  | refine ⟨_, _, rfl, rfl, ?_⟩
  | refine ⟨_, _, _, _, rfl, rfl, (by walk_at "sq"), (by walk_at "at"), ?_⟩
  | refine ⟨_, _, rfl, (by walk_at "sq"), ?_⟩
  | refine ⟨_, _, rfl, Or.inl (by walk_at "sq"), ?_⟩
  | refine ⟨_, _, rfl, Or.inr (by walk_at "sq"), ?_⟩
  | refine Or.inl ⟨_, rfl, ?_⟩
  | refine Or.inr ⟨_, rfl, ?_⟩
  | refine ⟨(by walk_at "side"), ?_⟩
  | refine ⟨.inl ⟨rfl, _, (by walk_at "sq")⟩, ?_⟩
  | refine ⟨_, _, rfl, ?_⟩)
local macro_rules | `(tactic| walk_at "nrm") => `(tactic| dsimp only [tNil, tCons, tC, tCB])
local macro_rules | `(tactic| walk_at "ev") => `(tactic| repeat (walk_at "ev1"))
theorem fork_good {sp : Int} (h1 : 1 ≤ sp) (h2 : sp ≤ 10 ^ 6) : GoodW wsF (qsF sp) := by
  refine ⟨by decide +kernel, ⟨fun q hq => ?_, by show ([sO "p", sO "q", sO "r"] : List Str).Nodup; decide +kernel⟩, by decide, by show 1 ≤ 3; decide, by decide, by show 3 ≤ 8; decide, by decide +kernel, fun q hq => ?_⟩
  · rcases mem3 hq with rfl | rfl | rfl
    · exact ⟨by show sO "s" ∈ wsF; decide +kernel, by show sO "a" ∈ wsF; decide +kernel, by show sO "s" ≠ sO "a"; decide +kernel⟩
    · exact ⟨by show sO "a" ∈ wsF; decide +kernel, by show sO "d" ∈ wsF; decide +kernel, by show sO "a" ≠ sO "d"; decide +kernel⟩
    · exact ⟨by show sO "s" ∈ wsF; decide +kernel, by show sO "d" ∈ wsF; decide +kernel, by show sO "s" ≠ sO "d"; decide +kernel⟩
  · rcases mem3 hq with rfl | rfl | rfl
    · exact ⟨by show nmOk (sO "p") = true; decide +kernel, by show (1 : Int) ≤ 3; decide, by show (3 : Int) ≤ 3; decide, by show (3 : Int) ≤ 10 ^ 6; decide⟩
    · exact ⟨by show nmOk (sO "q") = true; decide +kernel, by show (1 : Int) ≤ 3; decide, by show (3 : Int) ≤ 3; decide, by show (3 : Int) ≤ 10 ^ 6; decide⟩
    · exact ⟨by show nmOk (sO "r") = true; decide +kernel, by show (1 : Int) ≤ 1; decide, h1, h2⟩
/-- [e for x in a row of data] where e may draw -/
theorem lc_boxS {K : PySem.W.Frag} {tl te : TE} {j : Nat} {vs : List Nat} {σ : L2.St} {H H0 : Hp} {Q : VK} {α : Type} {b a : Addr} {xs bx : List V} {N : Nat} (zs : List α) (f : α → PyData) (Rel : α → α → Prop) (c : Nat)
    (ht : ∀ R' : VK, R' (.ref a) H0 → tl σ H R') (hs : SqT K (cutS [b] H0) a xs) (hx : DpAll K (cutS [b] H0) xs (zs.map f)) (hn : zs.length ≤ 1000) (hb : H0 b = some (.lst bx)) (hB : BoxL bx N) (hf : ∀ z, tupD (f z) = true)
    (hw : ∀ x, wipe ((wipe σ vs).set j (some x)) vs = wipe σ vs)
    (he : ∀ (i : Nat) (z : α) (x : V) (H2 : Hp) (bx2 : List V), zs[i]? = some z → H2 b = some (.lst bx2) → BoxL bx2 (N + c * i) → Same (cutS [b] H0) (cutS [b] H2) → Dp K (cutS [b] H2) x (f z) → ∀ Q' : VK, (∀ (H3 : Hp) (u : V) (z' : α) (bx3 : List V), Rel z z' → Dp K (cutS [b] H3) u (f z') → H3 b = some (.lst bx3) → BoxL bx3 (N + c * i + c) → Same (cutS [b] H2) (cutS [b] H3) → Q' u H3) → te ((wipe σ vs).set j (some x)) H2 Q')
    (q : ∀ (D : Addr) (ys : List V) (zs' : List α) (H' : Hp) (bx' : List V), H0 D = none → H' D = some (.lst ys) → A2 Rel zs zs' → DpAll K (cutS [D] (cutS [b] H')) ys (zs'.map f) → H' b = some (.lst bx') → BoxL bx' (N + c * zs.length) → Same (cutS [b] H0) (cutS [b] H') → Q (.ref D) H') : tLcX (iSeq K tl) (gName j) tYes te vs σ H Q := by
  have lx := dpa_len hx
  rw [List.length_map] at lx
  refine lc_of ?_
  refine .inr (ht _ ⟨a, rfl, ⟨xs, cutS_le.sqT hs⟩, fun D hD => ?_⟩)
  have nDb : D ≠ b := fun z => by
    rw [z, hb] at hD
    cases hD
  have swp : ∀ {H3 : Hp} {o : HO}, cutS [b] (upd H3 D o) = upd (cutS [b] H3) D o := fun {H3 o} => by
    funext a
    by_cases h1 : a = D
    · rw [h1, upd_same, cutS_out (not1 nDb), upd_same]
    · rw [upd_ne h1]
      by_cases h2 : a = b
      · rw [h2, cutS_in List.mem_cons_self, cutS_in List.mem_cons_self]
      · rw [cutS_out (not1 h2), cutS_out (not1 h2), upd_ne h1]
  have keep : ∀ {H3 : Hp} {o : HO}, Same (cutS [b] H0) (cutS [b] H3) → Same (cutS [b] H0) (cutS [b] (upd H3 D o)) := fun {H3 o} e a x ha => by
    have hD' : cutS [b] H0 D = none := cutS_none hD
    rw [swp, upd_ne (fun z => by rw [z, hD'] at ha; cases ha)]
    exact e a x ha
  refine lc_it (walk_tup (K := K) (a := a) (xs := xs)) (Qd := fun H => Q (.ref D) H) (fun i H1 => ∃ (ys : List V) (zs' : List α) (bx1 : List V), H1 D = some (.lst ys) ∧ A2 Rel (zs.take i) zs' ∧ DpAll K (cutS [D] (cutS [b] H1)) ys (zs'.map f) ∧ H1 b = some (.lst bx1) ∧ BoxL bx1 (N + c * i) ∧ Same (cutS [b] H0) (cutS [b] H1)) ⟨[], [], bx, upd_same, .nil, .nil, (by rw [upd_ne nDb.symm]; exact hb), hB, keep fun _ _ e => e⟩ (fun i H1 _ p => by obtain ⟨ys, zs', bx1, _, _, _, _, _, h7⟩ := p; exact cutS_le.sqT (h7.sqT hs)) (fun i x H1 H1' hi p y => ?_) (fun H1 p => ?_)
  · obtain ⟨ys, zs', bx1, h1, h2, h4, h5, h6, h7⟩ := p
    obtain ⟨rfl, hv⟩ := y
    obtain ⟨d, hd, hdx⟩ := dpa_get hx hv
    rw [List.getElem?_map] at hd
    cases hz : zs[i]? with
    | none =>
      rw [hz] at hd
      cases hd
    | some z =>
      rw [hz] at hd
      cases hd
      refine ⟨hw _, ?_⟩
      dsimp only [tYes]
      refine iteT ?_
      refine he i z x H1' bx1 hz h5 h6 h7 (h7.dp hdx) _ fun H3 u z' bx3 g1 g2 g3 g4 g5 => ?_
      have hD3 : cutS [b] H3 D = some (.lst ys) := g5 _ _ (by rw [cutS_out (not1 nDb)]; exact h1)
      refine ⟨ys, cutS_le _ _ hD3, ?_, ys ++ [u], zs' ++ [z'], bx3, upd_same, ?_, ?_, ?_, ?_, ?_⟩
      · rw [dpa_len h4, List.length_map, ← a2_len h2, List.length_take]
        exact szL (by omega)
      · rw [List.take_add_one, hz]
        exact a2_app h2 (.cons g1 .nil)
      · rw [swp, cutS_upd List.mem_cons_self, List.map_append]
        exact dpa_app ((cutS_mono g5).dpa h4) (.cons (dpT_cut ⟨D, ys, rfl, hD3⟩ _ _ (hf z') g2) .nil)
      · rw [upd_ne nDb.symm]
        exact g3
      · exact g4.mono (by rw [Nat.mul_succ]; omega)
      · exact keep (h7.trans g5)
  · obtain ⟨ys, zs', bx1, h1, h2, h4, h5, h6, h7⟩ := p
    rw [lx] at h6
    rw [lx, List.take_length] at h2
    exact q D ys zs' H1 bx1 hD h1 h2 h4 h5 h6 h7
def lowQ (q q' : QD) : Prop := q' = q ∨ q' = ⟨q.nm, q.st, q.en, q.room, 1⟩
theorem low_all {qs qs' : List QD} (h : A2 lowQ qs qs') : qs'.map QD.nm = qs.map QD.nm ∧ (∀ q' ∈ qs', ∃ q ∈ qs, lowQ q q') ∧ qs'.length = qs.length := by
  induction h with
  | nil => exact ⟨rfl, (fun _ h => absurd h List.not_mem_nil), rfl⟩
  | @cons a b as bs h1 h2 ih =>
    obtain ⟨i1, i2, i3⟩ := ih
    refine ⟨?_, fun q' hq' => ?_, by rw [List.length_cons, List.length_cons, i3]⟩
    · rw [List.map_cons, List.map_cons, i1]
      rcases h1 with rfl | rfl <;> rfl
    · rcases List.mem_cons.mp hq' with rfl | hq'
      · exact ⟨a, List.mem_cons_self, h1⟩
      · obtain ⟨q, hq, hr⟩ := i2 q' hq'
        exact ⟨q, List.mem_cons_of_mem _ hq, hr⟩
theorem GoodW.low {ws : List Str} {qs qs' : List QD} (h : GoodW ws qs) (hl : A2 lowQ qs qs') : GoodW ws qs' := by
  obtain ⟨e1, e2, e3⟩ := low_all hl
  refine ⟨h.nd, ⟨fun q' hq' => ?_, by rw [e1]; exact h.ng.nn⟩, h.h0, by rw [e3]; exact h.q1, h.wl, by rw [e3]; exact h.ql, h.wok, fun q' hq' => ?_⟩
  · obtain ⟨q, hq, hr⟩ := e2 q' hq'
    have := h.ng.q1 q hq
    rcases hr with rfl | rfl <;> exact this
  · obtain ⟨q, hq, hr⟩ := e2 q' hq'
    obtain ⟨k1, k2, k3, k4⟩ := h.qok q hq
    rcases hr with rfl | rfl
    · exact ⟨k1, k2, k3, k4⟩
    · exact ⟨k1, Int.le_refl _, by show 1 ≤ q.room; omega, k4⟩
def wsB : List Str := [sO "a", sO "x"]
def wsA : List Str := [sO "a"]
theorem bareF {ws : List Str} (hn : ws.Nodup) (h0 : ws ≠ []) (hl : ws.length ≤ 500) : FillN ws [] := ⟨hn, ⟨fun _ h => absurd h List.not_mem_nil, List.nodup_nil⟩, h0, hl, Nat.zero_le _, fun _ h => absurd h List.not_mem_nil⟩
theorem bareV {ws : List Str} (hn : ws.Nodup) (h0 : ws ≠ []) (hr : Rn [] (startP ws) []) : neverF ws [] = true :=
  never_rings (qs := []) (g := []) hn ⟨fun _ h => absurd h List.not_mem_nil, List.nodup_nil⟩ h0 hr fun _ h => absurd h List.not_mem_nil
theorem bareV2 : neverF wsB [] = true := bareV (by decide +kernel) (List.cons_ne_nil _ _) (runP_rn (n := 60) (by decide +kernel))
theorem bareV1 : neverF wsA [] = true := bareV (by decide +kernel) (List.cons_ne_nil _ _) (runP_rn (n := 60) (by decide +kernel))
theorem net_sh {ws : List Str} {qs : List QD} (h : GoodW ws qs) : SeqAt.shaped (netD true ws qs) = true := shp_net h.wok (fun q hq => (nm_sok (h.qok q hq).1).1) fun q hq => ⟨(h.ng.q1 q hq).1, (h.ng.q1 q hq).2.1⟩
theorem nets_sh {zz : List (List Str × List QD)} (h : ∀ z ∈ zz, GoodW z.1 z.2) : SeqAt.shaped (.list (zz.map fun z => netD true z.1 z.2)) = true := by
  have st : ∀ {ds : List PyData}, (∀ d ∈ ds, SeqAt.shaped d = true ∧ d.depth ≤ 8) → SeqAt.shaped (.list ds) = true := fun hd => shaped_of (can_seq (f := false) fun d h => SeqAt.canLay_of_shaped (hd d h).1) (Nat.le_trans (dep_seq (f := false) (n := 8) fun d h => (hd d h).2) (by decide))
  refine st fun d hd => ?_
  obtain ⟨z, hz, rfl⟩ := List.mem_map.mp hd
  refine ⟨net_sh (h z hz), ?_⟩
  refine Nat.le_trans (dep_seq (f := true) (n := 2) fun d hd => ?_) (by decide)
  rcases mem2 hd with rfl | rfl
  · exact Nat.le_trans (dep_seq (f := true) (n := 0) fun d hd => by obtain ⟨x, _, rfl⟩ := List.mem_map.mp hd; simp [PyData.depth]) (by decide)
  · exact dep_seq (f := true) (n := 1) fun d hd => by
      obtain ⟨q, _, rfl⟩ := List.mem_map.mp hd
      exact q_depth
end Jl

set_option Elab.async false
set_option linter.all false
set_option maxRecDepth 100000
set_option maxHeartbeats 1000000
set_option pp.maxSteps 300
namespace Jl
open PySem PySem.Spec PyProof.Rows L2
open Evl (sz_of sz_lt)
local macro_rules | `(tactic| walk_at "at") => `(tactic| first | exact box0 | exact box1 | exact box2)
local macro_rules | `(tactic| walk_at "sq") => `(tactic| first | (show SqL _ _ _ _; assumption) | (show SqT _ _ _ _; assumption) | (show _ = some _; assumption))
local macro_rules | `(tactic| walk_at "side") => `(tactic| first
  | (show (0 : Int) < _; decide)
  | (show (0 : Int) < _; omega)
  | exact ⟨by decide, by decide, by decide⟩
  | exact sz_of (Nat.le_of_ble_eq_true rfl)
  | exact rfl
  | exact Or.inl (by decide)
  | exact Or.inr (by decide)
  | exact Or.inr ⟨by omega, by omega⟩
  | exact Or.inl ⟨by omega, by omega⟩
  | exact ⟨by decide, by decide +kernel⟩)
local macro_rules | `(tactic| walk_at "ev1") => `(tactic| first
  | refine ⟨_, rfl, ?_⟩
  | refine ⟨_, _, rfl, rfl, ?_⟩
  | refine ⟨_, _, _, _, rfl, rfl, (by walk_at "sq"), (by walk_at "at"), ?_⟩
  | refine ⟨_, _, rfl, (by walk_at "sq"), ?_⟩
  | refine ⟨_, _, rfl, Or.inl (by walk_at "sq"), ?_⟩
  | refine ⟨_, _, rfl, Or.inr (by walk_at "sq"), ?_⟩
  | refine Or.inl ⟨_, rfl, ?_⟩
  | refine Or.inr ⟨_, rfl, ?_⟩
  | refine ⟨(by walk_at "side"), ?_⟩
  | refine ⟨.inl ⟨rfl, _, (by walk_at "sq")⟩, ?_⟩
  | refine ⟨_, _, rfl, ?_⟩)
local macro_rules | `(tactic| walk_at "nrm") => `(tactic| dsimp only [tNil, tCons, tC, tCB])
local macro_rules | `(tactic| walk_at "ev") => `(tactic| repeat (walk_at "ev1"))
abbrev sc_w_right_N : List Str := ["_law_box_here", "_law_bare", "_law_webs", "_law_web_here", "_law_all_so", "_law_turn", "_law_own"]
abbrev s_w_right : Stmt := topS 38
theorem sc_w_right : FnScope ["_law_box_here", "_law_bare", "_law_webs", "_law_web_here", "_law_all_so", "_law_turn", "_law_own"] ["_law_box_here"] (defScope s_w_right) := ⟨rfl, rfl, rfl, by decide +kernel, rfl, by decide +kernel, by decide +kernel⟩
theorem units65 {k : Nat} {A : Around} (r : Room k A) : A.units + 65 < cLine := by
  have := r.un
  omega
theorem ic_inD {K : PySem.W.Frag} {S : List Addr} {H0 : Hp} {σ : L2.St} {ta tb : TE} {d : PyData} {ds : List PyData} (h1 : IsC K S H0 ta d σ) (h2 : IsC K S H0 tb (.list ds) σ) (sd : SeqAt.shaped d = true) (se : SeqAt.shaped (.list ds) = true) : IsC K S H0 (tOp (rInD K) ta tb) (.bool (ds.any fun z => PyData.eqv z d)) σ := fun H Q e tr q => h1 H _ e tr fun H1 v s1 d1 => h2 H1 _ (e.trans s1) (tr.mono s1) fun H2 u s2 d2 =>
  ⟨d, ds, cutS_le.dp ((cutS_mono s2).dp d1), cutS_le.dp d2, sd, se, q H2 _ (s1.trans s2) (.bl _)⟩
section
variable {P : Program} {w : World} {K : PySem.W.Frag} {mg : Str → Option Value} {base : Heap}
def spRight (K : PySem.W.Frag) : Sp := fun vs H Q _ => ∃ (b : Addr) (bx : List V) (N : Nat), vs = [.ref b] ∧ H b = some (.lst bx) ∧ BoxL bx N ∧ N < 2 ^ 40 ∧ ∀ H', Same (cutS [b] H) H' → Q (.bl true) H'
theorem ok_w_right {f fT fW fU fL fS fF fD fX C : Addr} {fd fdT fdW fdU fdL fdS fdF fdD fdX : FuncData} {k : Nat} (F : Fun K "_law_right" "_law_right" s_w_right f fd)
    (G_w_take : FnOk P w K mg base CX0 k fT fdT ["_law_box_here", "_law_below"] spTake2) (g_w_take : mg "_law_take" = some (.ref fT)) (F_w_take : Fun K "_law_take" "_law_take" s_w_take fT fdT) (b_w_take : Binds K fdT ["_law_box_here", "_law_below"] [])
    (G_w_wide_right : FnOk P w K mg base CX0 k fW fdW ["_law_great"] (spWide K)) (g_w_wide_right : mg "_law_wide_right" = some (.ref fW)) (F_w_wide_right : Fun K "_law_wide_right" "_law_wide_right" s_w_wide_right fW fdW) (b_w_wide_right : Binds K fdW ["_law_great"] [])
    (G_full : FnOk P w K mg base CX0 k fU fdU ["net"] (spFull K)) (g_full : mg "full" = some (.ref fU)) (F_full : Fun K "full" "full" s_full fU fdU) (b_full : Binds K fdU ["net"] [])
    (GX_filled : FnOk P w K mg base (L2.CX P w) k fL fdL ["net", "order"] (spFillX K C)) (g_filled : mg "filled" = some (.ref fL)) (F_filled : Fun K "filled" "filled" s_filled fL fdL) (b_filled : Binds K fdL ["net", "order"] [])
    (G_w_same : FnOk P w K mg base CX0 k fS fdS ["_law_got", "_law_due"] (spSame K 5)) (g_w_same : mg "_law_same" = some (.ref fS)) (F_w_same : Fun K "_law_same" "_law_same" s_w_same fS fdS) (b_w_same : Binds K fdS ["_law_got", "_law_due"] [])
    (G_w_fork : FnOk P w K mg base CX0 k fF fdF ["_law_narrow"] (spFork K)) (g_w_fork : mg "_law_fork" = some (.ref fF)) (F_w_fork : Fun K "_law_fork" "_law_fork" s_w_fork fF fdF) (b_w_fork : Binds K fdF ["_law_narrow"] [])
    (G_w_drawn : FnOk P w K mg base CX0 k fD fdD ["_law_box_here", "_law_size_so", "_law_most", "_law_high"] (spDrawn K)) (g_w_drawn : mg "_law_drawn" = some (.ref fD)) (F_w_drawn : Fun K "_law_drawn" "_law_drawn" s_w_drawn fD fdD) (b_w_drawn : Binds K fdD ["_law_box_here", "_law_size_so", "_law_most", "_law_high"] [])
    (G_w_web_right : FnOk P w K mg base CX0 k fX fdX ["_law_box_here", "_law_web_here"] (spWR K)) (g_w_web_right : mg "_law_web_right" = some (.ref fX)) (F_w_web_right : Fun K "_law_web_right" "_law_web_right" s_w_web_right fX fdX) (b_w_web_right : Binds K fdX ["_law_box_here", "_law_web_here"] [])
    (m_range : mg "range" = none) (m_tuple : mg "tuple" = none) : FnOk P w K mg base CX0 (k + 1) f fd ["_law_box_here"] (spRight K) := by
  refine F.ok sc_w_right (fun vs H Q E h => ?_) (fun cdv A outer s0 H vs Q E hr h => ?_)
  · obtain ⟨b, bx, N, rfl, _⟩ := h
    rfl
  · obtain ⟨b, bx, N, rfl, hb, hB, hN, q⟩ := h
    refine ⟨_, (pss_cons (ps_if (pt_not (pt_val (pe_call G_w_wide_right hr (by rfl) g_w_wide_right F_w_wide_right.kp b_w_wide_right .nil pass0 (pa_cons (pe_op op_add pe_int (pe_call G_w_take hr (by rfl) g_w_take F_w_take.kp b_w_take .nil pass0 (pa_cons (pv 0) (pa_cons (pe_op op_pow pe_int pe_int) pa_nil)))) pa_nil)))) (pss_one (ps_ret pe_bl)) pss_nil) 
    (pss_cons (ps_set (i := 1) sc_w_right.nd rfl (Or.inl rfl) (pe_tup (pa_cons (pe_tup (pa_cons pe_str (pa_cons pe_str pa_nil))) (pa_cons (pe_tup pa_nil) pa_nil)))) 
    (pss_cons (ps_if (pt_not (pt_val (pe_call G_w_same hr (by rfl) g_w_same F_w_same.kp b_w_same .nil pass0 (pa_cons (pe_lst (pa_cons (pe_call G_full hr (by rfl) g_full F_full.kp b_full .nil pass0 (pa_cons (pv 1) pa_nil)) (pa_cons (pe_call GX_filled hr (by rfl) g_filled F_filled.kp b_filled .nil passL (pa_cons (pv 1) (pa_cons (pe_tup pa_nil) pa_nil))) (pa_cons (pe_call G_full hr (by rfl) g_full F_full.kp b_full .nil pass0 (pa_cons (pe_lst (pa_cons (pe_lst (pa_cons pe_str pa_nil)) (pa_cons (pe_lst pa_nil) pa_nil))) pa_nil)) pa_nil)))) (pa_cons (pe_lst (pa_cons pe_bl (pa_cons (pv 1) (pa_cons pe_bl pa_nil)))) pa_nil))))) (pss_one (ps_ret pe_bl)) pss_nil) 
    (pss_cons (ps_set (i := 2) sc_w_right.nd rfl (Or.inl rfl) (pe_op op_catL (pe_lst (pa_cons (pe_call G_w_fork hr (by rfl) g_w_fork F_w_fork.kp b_w_fork .nil pass0 (pa_cons pe_int pa_nil)) pa_nil)) (pe_lcX (pe_lc (own := [("_law_turn", 5)]) (g := gName 5) (tt := tYes) (by rfl) sc_w_right.nd (pi_range1 (by rfl) m_range (pa_cons pe_int pa_nil)) (blkOk_by (own := [("_law_turn", 5)]) (N := sc_w_right_N) (sc := defScope s_w_right) (by decide +kernel)) (fun _ _ _ _ _ => pg_name (i := 5) sc_w_right.nd rfl (Or.inl rfl)) (fun _ _ _ _ _ => pts_nil) (fun _ _ _ _ _ => (pe_call G_w_drawn hr (by rfl) g_w_drawn F_w_drawn.kp b_w_drawn .nil pass0 (pa_cons (pv 0) (pa_cons pe_int (pa_cons pe_int (pa_cons pe_int pa_nil)))))))))) 
    (pss_cons (ps_forX (ps_for PassesOwn.never rfl (pi_seq (pv 2)) (pg_name (i := 3) sc_w_right.nd rfl (Or.inl rfl)) 
      (pss_cons (ps_if (pt_cmpR (op_inD (units65 hr)) (pv 3) (pe_slice sl_list (pv 2) po_none (po_some pe_int)) (by with_unfolding_all rfl)) 
        (pss_cons (ps_set (i := 4) sc_w_right.nd rfl (Or.inr rfl) (pe_cmpR (op_eqD hr.units) (pv 3) (pe_ix ix_list (pv 2) pe_int (fun _ _ => rfl)) (nomark _))) 
        (pss_one (ps_set (i := 3) sc_w_right.nd rfl (Or.inl rfl) (pe_tup (pa_cons (pe_ix ix_lt (pv 3) pe_int (fun _ _ => rfl)) (pa_cons (pe_callTy call_tuple_of (by rfl) m_tuple (by decide +kernel) (pa_cons (pe_lcX (pe_lc (own := [("_law_own", 6)]) (g := gName 6) (tt := tYes) (te := (tIf (tOr (tB (tVar 4)) (tTest (tOp (rI0 fun i j => .bl (decide (j < i))) (tCall spTake2 [] E0 (tCons (tVar 0) (tCons (tC (.int 4)) tNil))) (tC (.int 0))))) (tOp (rCatT K) (tSl (rSlT K) (tVar 6) tNoPart (tPart (tC (.int 4)))) (tTup (tCons (tC (.int 1)) tNil))) (tVar 6))) (by rfl) sc_w_right.nd (pi_seq (pe_ix ix_lt (pv 3) pe_int (fun _ _ => rfl))) (blkOk_by (own := [("_law_own", 6)]) (N := sc_w_right_N) (sc := defScope s_w_right) (by decide +kernel)) (fun _ _ _ _ _ => pg_name (i := 6) sc_w_right.nd rfl (Or.inl rfl)) (fun _ _ _ _ _ => pts_nil) (fun _ _ _ _ _ => (pe_ifExp (PW.pt (pw_or (pt_val (pv 4)) (pw_or1 (pt_cmpR op_gt (pe_call G_w_take hr (by rfl) g_w_take F_w_take.kp b_w_take .nil pass0 (pa_cons (pv 0) (pa_cons pe_int pa_nil))) pe_int (nomark _))))) (pe_op op_catT (pe_slice sl_tup (pv 6) po_none (po_some pe_int)) (pe_tup (pa_cons pe_int pa_nil))) (pv 6))))) pa_nil)) pa_nil)))))) pss_nil) 
      (pss_one (ps_if (pt_not (pt_val (pe_call G_w_web_right hr (by rfl) g_w_web_right F_w_web_right.kp b_w_web_right .nil pass0 (pa_cons (pv 0) (pa_cons (pv 3) pa_nil))))) (pss_one (ps_ret pe_bl)) pss_nil))))) 
    (pss_one (ps_ret pe_bl))))))), ?_⟩
    rw [show L2.start sc_w_right_N [.ref b] = [some (.ref b), none, none, none, none, none, none] from rfl]
    -- by hand, in any measure
    refine ⟨_, rfl, 10, 39, rfl, rfl, ⟨by decide, by decide, by decide⟩, b, (10 : Int) ^ (39 : Int).toNat, bx, N, rfl, hb, hB, by omega, by decide, small8000 ⟨by decide, by decide⟩, fun r1 bx1 ra rb hB1 => ?_⟩
    have hb1 : (upd H b (.lst bx1)) b = some (.lst bx1) := upd_same
    have e1 : cutS [b] (upd H b (.lst bx1)) = cutS [b] H := cutS_upd List.mem_cons_self
    rw [← e1] at q
    generalize upd H b (.lst bx1) = H1 at hb1 q ⊢
    clear hb hB e1
    refine ⟨1, r1, rfl, rfl, 1 + r1, rfl, by omega, fun H2 s2 => ⟨_, rfl, iteF ?_⟩⟩
    dsimp only [tNext]
    -- nets without queues
    refine asg_ic (K := K) (d := netD true wsB []) (ic_tup (ds := [seqD true (wsB.map PyData.str), seqD true []]) (ac_cons (ic_tup (ac_cons ic_str (ac_cons ic_str ac_nil)) (show 2 ≤ 1000 by decide)) (ac_cons (ic_tup ac_nil (Nat.zero_le _)) ac_nil)) (show 2 ≤ 1000 by decide)) fun H3 vb s3 d3 => ?_
    dsimp only [List.set]
    have fB : FillN wsB [] := bareF (by decide +kernel) (List.cons_ne_nil _ _) (by decide)
    have fA : FillN wsA [] := bareF (by decide +kernel) (List.cons_ne_nil _ _) (by decide)
    have uB : fullF wsB [] = true := by unfold fullF; rw [bareV2]; rfl
    have uA : fullF wsA [] = true := by unfold fullF; rw [bareV1]; rfl
    have dB : fillD wsB [] [] = netD true wsB [] := by unfold fillD; rw [bareV2]; rfl
    refine if_no (ist_not (a := true) (ist_val (ic_same (K := K) (d := .list [.bool true, netD true wsB [], .bool true]) (ic_lst (ac_cons ?_ (ac_cons ?_ (ac_cons ?_ ac_nil))) (show 3 ≤ 1000 by decide)) (ic_lst (ac_cons ic_bl (ac_cons (ic_v rfl d3) (ac_cons ic_bl ac_nil))) (show 3 ≤ 1000 by decide)) ⟨by show 3 ≤ 4000000; decide, fun d hd => ?_⟩))) fun H4 s4 => ?_
    · have h := ic_fullC (K := K) (E := E0) (H0 := H3) (σ := [some (.ref b), some vb, none, none, none, none, none]) (ta := tVar 1) (fb := true) (ic_v rfl d3) fB.nn fB.ng
      rw [uB] at h
      exact h
    · have h := ic_filled (K := K) (C := C) (E := E0) (H0 := H3) (σ := [some (.ref b), some vb, none, none, none, none, none]) (ta := tVar 1) (tb := tTup tNil) (fb := true) (fo := true) (order := []) (ic_v rfl d3) (ic_tup ac_nil (Nat.zero_le _)) fB (Nat.zero_le _) (fun _ h => absurd h List.not_mem_nil)
      rw [dB] at h
      exact h
    · have h := ic_fullC (K := K) (E := E0) (H0 := H3) (σ := [some (.ref b), some vb, none, none, none, none, none]) (ta := tLst (tCons (tLst (tCons (tC (.str (Str.ofString "a"))) tNil)) (tCons (tLst tNil) tNil))) (fb := false) (ws := wsA) (qs := []) (ic_lst (ds := [seqD false (wsA.map PyData.str), seqD false []]) (ac_cons (ic_lst (ac_cons ic_str ac_nil) (show 1 ≤ 1000 by decide)) (ac_cons (ic_lst ac_nil (Nat.zero_le _)) ac_nil)) (show 2 ≤ 1000 by decide)) fA.nn fA.ng
      rw [uA] at h
      exact h
    · rcases mem3 hd with rfl | rfl | rfl
      · exact trivial
      · exact net_okD (by decide) (Nat.zero_le _)
      · exact trivial
    have t4 := (s2.trans s3).trans s4
    have hb4 := t4 _ _ hb1
    clear d3
    -- the webs
    dsimp only [tNext]
    refine asg_of ?_
    refine ⟨4, rfl, fun H5 u1 s5 w5 => ⟨by show 1 ≤ sizeLine; decide, fun l hl => ?_⟩⟩
    have g6 : (upd H5 l (.lst [u1])) l = some (.lst [u1]) := upd_same
    have s6 : Same H5 (upd H5 l (.lst [u1])) := .upd hl
    have hb5 := s5 _ _ hb4
    have nlb : l ≠ b := fun z => by
      rw [z, hb5] at hl
      cases hl
    have d1 := s6.dp w5.dp
    have hb6 := s6 _ _ hb5
    have t6 := (t4.trans s5).trans s6
    show tLcX _ _ _ _ _ _ (upd H5 l (.lst [u1])) _
    generalize upd H5 l (.lst [u1]) = H6 at g6 s6 d1 hb6 t6 ⊢
    refine lc_box (K := K) (b := b) (bx := bx1) (N := N + 1) (fun z : List Str × List QD => netD true z.1 z.2) (fun z => GoodW z.1 z.2) 0 4 400 (fun R r => ⟨4, rfl, by decide, by decide, r⟩) (by decide) hb6 hB1 (fun z => tup_net) (fun x => rfl) (fun i H7 bx7 hi hb7 hB7 e7 Q' q' => ?_) (fun D ys zs H7 bx7 hD0 hD1 hzl hzg hda hb7 hB7 e7 => ?_)
    · refine ⟨_, rfl, b, 5, 6, 6, bx7, _, rfl, hb7, hB7, by omega, by decide, by decide, by decide, by decide, by decide, by decide, fun H8 v ws qs bx8 c1 c2 c3 c4 c5 c6 c7 c8 c9 c10 c11 c12 => q' H8 v (ws, qs) bx8 ⟨c1, c2, c3, c4, c5, c6, c7, c8⟩ c9 c10 (c11.mono (by omega)) c12⟩
    have g7 : H7 l = some (.lst [u1]) := cutS_le _ _ (e7 _ _ (by rw [cutS_out (not1 nlb)]; exact g6))
    have n4 : ys.length = 4 := by rw [dpa_len hda, List.length_map, hzl]
    refine ⟨l, D, [u1], ys, rfl, rfl, sql_of g7, sql_of hD1, by show 1 + ys.length ≤ sizeLine; rw [n4]; decide, fun p hp => ?_⟩
    have npb : p ≠ b := fun z => by
      rw [z, hb7] at hp
      cases hp
    have lb : LstT [b] H6 := ⟨b, bx1, rfl, hb6⟩
    have f1 : Dp K (cutS [b] H7) u1 (netD true wsF (qsF 4)) := e7.dp (dpT_cut lb _ _ tup_net d1)
    have s8 : Same H7 (upd H7 p (.lst ([u1] ++ ys))) := .upd hp
    have g8 : cutS [b] (upd H7 p (.lst ([u1] ++ ys))) p = some (.lst ([u1] ++ ys)) := by rw [cutS_out (not1 npb), upd_same]
    have hb8 := s8 _ _ hb7
    dsimp only [List.set]
    generalize upd H7 p (.lst ([u1] ++ ys)) = H8 at s8 g8 hb8 ⊢
    have c8 := cutS_mono (S := [b]) s8
    have hda8 : DpAll K (cutS [b] H8) ([u1] ++ ys) (((wsF, qsF 4) :: zs).map fun z => netD true z.1 z.2) := .cons (c8.dp f1) (c8.dpa (cutS_le.dpa hda))
    have hg8 : ∀ z ∈ ((wsF, qsF 4) :: zs), GoodW z.1 z.2 := fun z hz => by
      rcases List.mem_cons.mp hz with rfl | hz
      · exact fork_good (by decide) (by decide)
      · exact hzg z hz
    have zl : ((wsF, qsF 4) :: zs).length = 5 := by rw [List.length_cons, hzl]
    have z0 : ((wsF, qsF 4) :: zs)[0]? = some (wsF, qsF 4) := rfl
    have sB : Same (cutS [b] H1) (cutS [b] H8) := ((cutS_mono t6).trans e7).trans c8
    generalize ((wsF, qsF 4) :: zs) = zz at hda8 hg8 zl z0
    generalize [u1] ++ ys = xs at hda8 g8
    clear hda hzg hzl f1 lb s8 hp g7 n4 hD0 hD1 d1 e7 w5 hb7 hb6 hb5 hb4 g6 s6 t6 hl c8
    have lxs : xs.length = 5 := by rw [dpa_len hda8, List.length_map, zl]
    have hlist : Dp K (cutS [b] H8) (.ref p) (.list (zz.map fun z => netD true z.1 z.2)) := .lst (sql_of g8) hda8
    refine for_of ?_
    refine .inl ⟨_, rfl, p, rfl, ⟨xs, cutS_le.sqL (sql_of g8)⟩, ?_⟩
    refine forR_it (walk_list (xs := xs)) (fun i σ Hx => ∃ (x3 x4 : Option V) (bxc : List V), σ = [some (.ref b), some vb, some (.ref p), x3, x4, none, none] ∧ Hx b = some (.lst bxc) ∧ BoxL bxc (N + 1601 + 100 * i) ∧ Same (cutS [b] H8) (cutS [b] Hx)) ⟨_, _, bx7, rfl, hb8, hB7.mono (by omega), fun _ _ e => e⟩ (fun i σ Hx _ hh => ?_) (fun i x σ Hc Hc' hi hh y => ?_) (fun σ Hc hh => ?_)
    · obtain ⟨x3, x4, bxc, rfl, hbx, hBx, sx⟩ := hh
      exact cutS_le.sqL (sx.sqL (sql_of g8))
    · obtain ⟨x3, x4, bxc, rfl, hbx, hBx, sx⟩ := hh
      obtain ⟨rfl, hv⟩ := y
      obtain ⟨d, hd, hdv⟩ := dpa_get hda8 hv
      rw [List.getElem?_map] at hd
      cases hz : zz[i]? with
      | none =>
        rw [hz] at hd
        cases hd
      | some z =>
        rw [hz] at hd
        cases hd
        obtain ⟨ws, qs⟩ := z
        have hG : GoodW ws qs := hg8 _ (List.mem_of_getElem? hz)
        have hD : Dp K (cutS [b] Hc') x (netD true ws qs) := sx.dp hdv
        have hLc : Dp K (cutS [b] Hc') (.ref p) (.list (zz.map fun z => netD true z.1 z.2)) := sx.dp hlist
        dsimp only [List.set]
        refine seq_byC (fun σ Hz => ∃ (v' : V) (x4 : Option V) (qs' : List QD) (bxz : List V), σ = [some (.ref b), some vb, some (.ref p), some v', x4, none, none] ∧ GoodW ws qs' ∧ Dp K (cutS [b] Hz) v' (netD true ws qs') ∧ Hz b = some (.lst bxz) ∧ BoxL bxz (N + 1601 + 100 * i + 20) ∧ Same (cutS [b] H8) (cutS [b] Hz)) (fun σ Hz hh => ?_) (fun D' hD' => ?_)
        · obtain ⟨v', x4, qs', bxz, rfl, hG', hDz, hbz, hBz, sz⟩ := hh
          refine ⟨_, rfl, _, rfl, b, v', ws, qs', bxz, _, rfl, hbz, hBz, by omega, hDz, hG', fun H9 bx9 hb9 hB9 hS9 => ⟨_, rfl, iteF ?_⟩⟩
          exact ⟨_, _, bx9, rfl, hb9, hB9.mono (by omega), sz.trans hS9⟩
        · have i1 := ic_inD (K := K) (S := []) (H0 := Hc') (σ := [some (.ref b), some vb, some (.ref p), some x, x4, none, none]) (ta := tVar 3) (tb := tSl (rSlL K) (tVar 2) tNoPart (tPart (tC (.int 3)))) (ic_v rfl (cutS_le.dp hD)) (ic_takeL (k := 3) (ic_v rfl (cutS_le.dp hLc))) (net_sh hG) (by rw [← List.map_take]; exact nets_sh fun z hz => hg8 z (List.mem_of_mem_take hz))
          generalize ((zz.map fun z => netD true z.1 z.2).take 3).any (fun z => PyData.eqv z (netD true ws qs)) = isin at i1
          refine if_ist (ist_cmp i1) fun H9 s9 => ?_
          have c9 := cutS_mono (S := [b]) s9
          have hb9 := s9 _ _ hbx
          cases isin with
          | false => exact iteF (hD' _ _ ⟨x, x4, qs, bxc, rfl, hG, c9.dp hD, hb9, hBx.mono (by omega), sx.trans c9⟩)
          | true =>
            refine iteT ?_
            have hD9 := c9.dp hD
            have e0 : IsC K [] H9 (tOp (rIxL K) (tVar 2) (tC (.int 0))) (netD true wsF (qsF 4)) [some (.ref b), some vb, some (.ref p), some x, x4, none, none] := ic_atL (ds := zz.map fun z => netD true z.1 z.2) 0 (ic_v rfl (cutS_le.dp (c9.dp hLc))) (by rw [List.getElem?_map, z0]; rfl)
            have hsf : SeqAt.shaped (netD true wsF (qsF 4)) = true := net_sh (fork_good (by decide) (by decide))
            refine asg_ic (K := K) (ic_eqD (ic_v rfl (cutS_le.dp hD9)) e0 (net_sh hG) hsf) fun HA vA sA dA => ?_
            generalize PyData.eqv (netD true ws qs) (netD true wsF (qsF 4)) = al at dA
            cases dA
            dsimp only [List.set]
            have cA := cutS_mono (S := [b]) sA
            have hbA := sA _ _ hb9
            have hDA := cA.dp hD9
            obtain ⟨a0, a1, a2, xq, rfl, N0⟩ := netAt hDA
            have i0 : atI [V.ref a1, V.ref a2] 0 = some (.ref a1) := atI_nat (j := 0) rfl
            have i1' : atI [V.ref a1, V.ref a2] 1 = some (.ref a2) := atI_nat (j := 1) rfl
            refine ⟨_, rfl, rIxF_at (f := true) (cutS_le.sqF N0.h0) i0 ?_⟩
            have hql := hG.ql
            refine lc_boxS (K := K) (b := b) (a := a2) (xs := xq) (bx := bxc) (N := N + 1601 + 100 * i) (H0 := HA) qs (QD.d true) lowQ 1 (fun R' r => ⟨_, rfl, rIxF_at (f := true) (cutS_le.sqF N0.h0) i1' r⟩) N0.h2 (net_all N0) (by omega) hbA hBx (fun z => rfl) (fun x => rfl) (fun j z y H2 bx2 hz hb2 hB2 e2 hy Q' q' => ?_) (fun D ys zs' HB bxB hD0 hD1 hA2 hdB hbB hBB eB => ?_)
            · have hj : j < qs.length := (List.getElem?_eq_some_iff.mp hz).1
              have lowS : ∀ (H3 : Hp) (bx3 : List V), H3 b = some (.lst bx3) → BoxL bx3 (N + 1601 + 100 * i + 1 * j + 1) → Same (cutS [b] H2) (cutS [b] H3) → (tOp (rCatT K) (tSl (rSlT K) (tVar 6) tNoPart (tPart (tC (.int 4)))) (tTup (tCons (tC (.int 1)) tNil))) [some (.ref b), some vb, some (.ref p), some (.ref a0), some (.bl al), none, some y] H3 Q' := fun H3 bx3 hb3 hB3 e3 =>
                ic_row4 (K := K) (S := [b]) (H0 := H3) (q := z) (ic_var rfl (e3.dp hy)) ic_int H3 _ (fun _ _ e => e) (Trk.cons Trk.nil hb3) fun H4 u s4 d4 => q' H4 u ⟨z.nm, z.st, z.en, z.room, 1⟩ bx3 (.inr rfl) d4 (s4 _ _ hb3) hB3 (e3.trans (cutS_mono s4))
              refine ⟨_, rfl, al, rfl, ?_⟩
              cases al with
              | true => exact iteT (iteT (lowS H2 bx2 hb2 (hB2.mono (by omega)) fun _ _ e => e))
              | false =>
                refine iteF ⟨_, rfl, b, 4, bx2, _, rfl, hb2, hB2, by omega, by decide, small8000 ⟨by decide, by decide⟩, fun r bx3 r0 r1 hB3 => ?_⟩
                have hb3 : (upd H2 b (.lst bx3)) b = some (.lst bx3) := upd_same
                have e3 : cutS [b] (upd H2 b (.lst bx3)) = cutS [b] H2 := cutS_upd List.mem_cons_self
                generalize upd H2 b (.lst bx3) = H3 at hb3 e3 ⊢
                have e3' : Same (cutS [b] H2) (cutS [b] H3) := by
                  rw [e3]
                  exact fun _ _ e => e
                refine ⟨r, 0, rfl, rfl, _, rfl, ?_⟩
                by_cases c : 0 < r
                · rw [decide_eq_true c]
                  exact iteT (lowS H3 bx3 hb3 hB3 e3')
                · rw [decide_eq_false c]
                  exact iteF ⟨_, rfl, q' H3 y z bx3 (.inl rfl) (e3'.dp hy) hb3 hB3 e3'⟩
            · refine ⟨D, ys, rfl, .inl ⟨sql_of hD1, fun t ht => ?_⟩⟩
              have ntb : t ≠ b := fun z => by
                rw [z, hbB] at ht
                cases ht
              have sT : Same HB (upd HB t (.tup ys)) := .upd ht
              have gT : cutS [b] (upd HB t (.tup ys)) t = some (.tup ys) := by rw [cutS_out (not1 ntb), upd_same]
              have hbT := sT _ _ hbB
              show _ ∧ _
              generalize upd HB t (.tup ys) = HC at sT gT hbT ⊢
              have cT := cutS_mono (S := [b]) sT
              refine ⟨by show 2 ≤ sizeLine; decide, fun s hs => ?_⟩
              have nsb : s ≠ b := fun z => by
                rw [z, hbT] at hs
                cases hs
              have sS : Same HC (upd HC s (.tup [.ref a1, .ref t])) := .upd hs
              have cS := cutS_mono (S := [b]) sS
              refine hD' _ _ ⟨.ref s, _, zs', bxB, rfl, hG.low hA2, ?_, sS _ _ hbT, hBB.mono (by omega), ((sx.trans c9).trans cA).trans (eB.trans (cT.trans cS))⟩
              refine .tup (sqt_of (xs := [.ref a1, .ref t]) (by rw [cutS_out (not1 nsb), upd_same])) (.cons ?_ (.cons ?_ .nil))
              · exact .tup ((eB.trans (cT.trans cS)).sqF N0.h1) dpa_strs
              · exact .tup (sqt_of (cS _ _ gT)) ((cT.trans cS).dpa (cutS_le.dpa hdB))
    · obtain ⟨x3, x4, bxc, rfl, hbx, hBx, sx⟩ := hh
      exact q Hc ((sB.trans sx).trans cutS_le)
end
end Jl

set_option Elab.async false
set_option linter.all false
set_option maxRecDepth 100000
set_option maxHeartbeats 4000000
set_option pp.maxSteps 900
namespace Jl
open PySem PySem.Spec PyProof.Rows L2
open Evl (sz_of sz_lt)
local macro_rules | `(tactic| walk_at "at") => `(tactic| first | exact box0 | exact box1 | exact box2)
local macro_rules | `(tactic| walk_at "sq") => `(tactic| first | (show SqL _ _ _ _; assumption) | (show SqT _ _ _ _; assumption) | (show _ = some _; assumption))
local macro_rules | `(tactic| walk_at "side") => `(tactic| first
  | (show (0 : Int) < _; decide)
  | (show (0 : Int) < _; omega)
  | exact ⟨by decide, by decide, by decide⟩
  | exact sz_of (Nat.le_of_ble_eq_true rfl)
  | exact rfl
  | exact Or.inl (by decide)
  | exact Or.inr (by decide)
  | exact Or.inr ⟨by omega, by omega⟩
  | exact Or.inl ⟨by omega, by omega⟩
  | exact ⟨by decide, by decide +kernel⟩)
local macro_rules | `(tactic| walk_at "ev1") => `(tactic| first
  | refine ⟨_, rfl, ?_⟩
  | refine ⟨_, _, rfl, rfl, ?_⟩
  | refine ⟨_, _, _, _, rfl, rfl, (by walk_at "sq"), (by walk_at "at"), ?_⟩
  | refine ⟨_, _, rfl, (by walk_at "sq"), ?_⟩
  | refine ⟨_, _, rfl, Or.inl (by walk_at "sq"), ?_⟩
  | refine ⟨_, _, rfl, Or.inr (by walk_at "sq"), ?_⟩
  | refine Or.inl ⟨_, rfl, ?_⟩
  | refine Or.inr ⟨_, rfl, ?_⟩
  | refine ⟨(by walk_at "side"), ?_⟩
  | refine ⟨.inl ⟨rfl, _, (by walk_at "sq")⟩, ?_⟩
  | refine ⟨_, _, rfl, ?_⟩)
local macro_rules | `(tactic| walk_at "nrm") => `(tactic| dsimp only [tNil, tCons, tC, tCB])
local macro_rules | `(tactic| walk_at "ev") => `(tactic| repeat (walk_at "ev1"))

abbrev sc_law_N : List Str := ["_law_script", "_law_cells_here", "_law_k"]
abbrev s_law : Stmt := topS 39
theorem sc_law : FnScope ["_law_script", "_law_cells_here", "_law_k"] ["_law_script"] (defScope s_law) := ⟨rfl, rfl, rfl, by decide +kernel, rfl, by decide +kernel, by decide +kernel⟩
theorem ne_of_none {H : Hp} {a c : Addr} {o : HO} (h : H a = some o) (hc : H c = none) : a ≠ c := fun z => by
  rw [z, hc] at h
  cases h
section
variable {P : Program} {w : World} {K : PySem.W.Frag} {mg : Str → Option Value} {base : Heap}
def spLaw (K : PySem.W.Frag) : Sp := fun vs H Q _ => ∃ (a : Addr) (ns : List Int), vs = [.ref a] ∧ SqL K H a (ns.map V.int) ∧ ns.length ≤ 63 ∧ ∀ H', Q (.bl true) H'
theorem ok_law {f fC fB fR : Addr} {fd fdC fdB fdR : FuncData} {k : Nat} (F : Fun K "law" "law" s_law f fd)
    (G_w_cells : FnOk P w K mg base CX0 k fC fdC ["_law_script", "_law_most"] (spCells K)) (g_w_cells : mg "_law_cells" = some (.ref fC)) (F_w_cells : Fun K "_law_cells" "_law_cells" s_w_cells fC fdC) (b_w_cells : Binds K fdC ["_law_script", "_law_most"] [])
    (G_w_box : FnOk P w K mg base CX0 k fB fdB ["_law_script", "_law_k"] (spBox K)) (g_w_box : mg "_law_box" = some (.ref fB)) (F_w_box : Fun K "_law_box" "_law_box" s_w_box fB fdB) (b_w_box : Binds K fdB ["_law_script", "_law_k"] [])
    (G_w_right : FnOk P w K mg base CX0 k fR fdR ["_law_box_here"] (spRight K)) (g_w_right : mg "_law_right" = some (.ref fR)) (F_w_right : Fun K "_law_right" "_law_right" s_w_right fR fdR) (b_w_right : Binds K fdR ["_law_box_here"] [])
    (m_all : mg "all" = none) (m_range : mg "range" = none) (m_len : mg "len" = none) : FnOk P w K mg base CX0 (k + 1) f fd ["_law_script"] (spLaw K) := by
  refine F.ok sc_law (fun vs H Q E h => ?_) (fun cdv A outer s0 H vs Q E hr h => ?_)
  · obtain ⟨a, ns, rfl, _⟩ := h
    rfl
  · obtain ⟨a, ns, rfl, hS, hn, q⟩ := h
    refine ⟨_, (pss_cons (ps_set (i := 1) sc_law.nd rfl (Or.inr rfl) (pe_call G_w_cells hr (by rfl) g_w_cells F_w_cells.kp b_w_cells .nil pass0 (pa_cons (pv 0) (pa_cons pe_int pa_nil)))) 
    (pss_one (ps_ret (pe_callB (cr_all rfl) (by rfl) m_all (by decide +kernel) (pa_cons (pe_lcX (pe_lc (own := [("_law_k", 2)]) (g := gName 2) (tt := tYes) (by rfl) sc_law.nd (pi_range1 (by rfl) m_range (pa_cons (pe_callB call_len_seq (by rfl) m_len PySem.boot_len (pa_cons (pv 1) pa_nil)) pa_nil)) (blkOk_by (own := [("_law_k", 2)]) (N := sc_law_N) (sc := defScope s_law) (by decide +kernel)) (fun _ _ _ _ _ => pg_name (i := 2) sc_law.nd rfl (Or.inl rfl)) (fun _ _ _ _ _ => pts_nil) (fun _ _ _ _ _ => (pe_call G_w_right hr (by rfl) g_w_right F_w_right.kp b_w_right .nil pass0 (pa_cons (pe_call G_w_box hr (by rfl) g_w_box F_w_box.kp b_w_box .nil pass0 (pa_cons (pv 1) (pa_cons (pv 2) pa_nil))) pa_nil))))) pa_nil))))), ?_⟩
    walk_at "ev"
    refine ⟨a, ns, 2, rfl, hS, hn, by decide, by decide, fun H1 p cs s1 hp hp1 hl => ?_⟩
    have hq1 : SqL K H1 p (cs.map V.int) := sql_of hp1
    walk_at "ev"
    refine lc_of ?_
    walk_at "ev"
    rw [List.length_map]
    refine ⟨by omega, by omega, ?_⟩
    rw [Int.toNat_natCast]
    intro D hD
    refine lc_it (walk_range (lo := 0) (n := cs.length)) (fun i H' => H' p = some (.lst (cs.map V.int)) ∧ H' D = some (.lst ((List.replicate i true).map V.bl))) ⟨(Same.upd hD) _ _ hp1, upd_same⟩ (fun _ _ _ _ => trivial) (fun i x H' H'' hi hh y => ?_) (fun H' hh => ?_)
    · obtain ⟨h1, h2⟩ := hh
      obtain ⟨rfl, hv⟩ := y
      have hv : x = .int (0 + (i : Int)) := hv
      rw [Int.zero_add] at hv
      subst hv
      refine ⟨rfl, ?_⟩
      dsimp only [tYes]
      rw [if_pos rfl]
      walk_at "ev"
      refine ⟨p, cs, i, rfl, sql_of h1, by omega, by omega, fun b c0 c1 hb k0 k1 k2 => ?_⟩
      walk_at "ev"
      refine ⟨b, _, 0, rfl, upd_same, ⟨c0, c1, 0, rfl, k0, k1, k2, by decide, by decide⟩, by decide, fun H3 s3 => ?_⟩
      have npb : p ≠ b := ne_of_none h1 hb
      have nDb : D ≠ b := ne_of_none h2 hb
      have g1 : H3 p = some (.lst (cs.map V.int)) := s3 _ _ (by rw [cutS_out (not1 npb), upd_ne npb]; exact h1)
      have g2 : H3 D = some (.lst ((List.replicate i true).map V.bl)) := s3 _ _ (by rw [cutS_out (not1 nDb), upd_ne nDb]; exact h2)
      have nDp : p ≠ D := ne_of_none hp1 hD
      refine ⟨_, g2, by rw [List.length_map, List.length_replicate]; exact sz_lt (by omega), ?_, ?_⟩
      · rw [upd_ne nDp]
        exact g1
      · rw [upd_same, List.replicate_succ', List.map_append]
        rfl
    · obtain ⟨h1, h2⟩ := hh
      refine ⟨D, _, rfl, sql_of h2, ?_⟩
      have e : (List.replicate cs.length true).all id = true := by
        rw [List.all_eq_true]
        exact fun b hb => List.eq_of_mem_replicate hb
      rw [e]
      exact q _
end
end Jl

set_option Elab.async false
set_option linter.all false
set_option maxRecDepth 100000
set_option maxHeartbeats 4000000
set_option pp.maxSteps 40
namespace Jl
open PySem PySem.Spec PyProof.Rows L2
open Evl (sz_of sz_lt)
local macro_rules | `(tactic| walk_at "at") => `(tactic| first | exact box0 | exact box1 | exact box2)
local macro_rules | `(tactic| walk_at "sq") => `(tactic| first | (show SqL _ _ _ _; assumption) | (show SqT _ _ _ _; assumption) | (show _ = some _; assumption))
local macro_rules | `(tactic| walk_at "side") => `(tactic| first
  | (show (0 : Int) < _; decide)
  | (show (0 : Int) < _; omega)
  | exact ⟨by decide, by decide, by decide⟩
  | exact sz_of (Nat.le_of_ble_eq_true rfl)
  | exact rfl
  | exact Or.inl (by decide)
  | exact Or.inr (by decide)
  | exact Or.inr ⟨by omega, by omega⟩
  | exact Or.inl ⟨by omega, by omega⟩
  | exact ⟨by decide, by decide +kernel⟩)
local macro_rules | `(tactic| walk_at "ev1") => `(tactic| first
  | refine ⟨_, rfl, ?_⟩
  | refine ⟨_, _, rfl, rfl, ?_⟩
  | refine ⟨_, _, _, _, rfl, rfl, (by walk_at "sq"), (by walk_at "at"), ?_⟩
  | refine ⟨_, _, rfl, (by walk_at "sq"), ?_⟩
  | refine ⟨_, _, rfl, Or.inl (by walk_at "sq"), ?_⟩
  | refine ⟨_, _, rfl, Or.inr (by walk_at "sq"), ?_⟩
  | refine Or.inl ⟨_, rfl, ?_⟩
  | refine Or.inr ⟨_, rfl, ?_⟩
  | refine ⟨(by walk_at "side"), ?_⟩
  | refine ⟨.inl ⟨rfl, _, (by walk_at "sq")⟩, ?_⟩
  | refine ⟨_, _, rfl, ?_⟩)
local macro_rules | `(tactic| walk_at "nrm") => `(tactic| dsimp only [tNil, tCons, tC, tCB])
local macro_rules | `(tactic| walk_at "ev") => `(tactic| repeat (walk_at "ev1"))

theorem all_mk {l : PySem.W.OpenLaw} {w : World} {K : PySem.W.Frag} {h : Heap} {mg : Str → Option Value} {fa C_NoQueue f1 f2 f3 f4 f5 f6 f7 f8 f9 f10 f11 f12 f13 f14 f15 f16 f17 f18 f19 f20 f21 f22 f23 f24 f25 f26 f27 f28 f29 f30 f31 f32 f33 f34 f35 : Addr} (X : K.In h) (G : h.Ns mainGlobals mg) (hfa : mg "law" = some (.ref fa))
    {od1 an1 od2 an2 od3 an3 od4 an4 od5 an5 od6 an6 od7 an7 od8 an8 od9 an9 od10 an10 od11 an11 od12 an12 od13 an13 od14 an14 od15 an15 od16 an16 od17 an17 od18 an18 od19 an19 od20 an20 od21 an21 od22 an22 od23 an23 od24 an24 od25 an25 od26 an26 od27 an27 od28 an28 od29 an29 od30 an30 od31 an31 od32 an32 od33 an33 od34 an34 od35 an35 : Option Addr} {sl1 sl2 sl3 sl4 sl5 sl6 sl7 sl8 sl9 sl10 sl11 sl12 sl13 sl14 sl15 sl16 sl17 sl18 sl19 sl20 sl21 sl22 sl23 sl24 sl25 sl26 sl27 sl28 sl29 sl30 sl31 sl32 sl33 sl34 sl35 : Array (Option Value)} {oc1 kV1 dc1 pm1 cd1 ct1 oc2 kV2 dc2 pm2 cd2 ct2 oc3 kV3 dc3 pm3 cd3 ct3 oc4 kV4 dc4 pm4 cd4 ct4 oc5 kV5 dc5 pm5 cd5 ct5 oc6 kV6 dc6 pm6 cd6 ct6 oc7 kV7 dc7 pm7 cd7 ct7 oc8 kV8 dc8 pm8 cd8 ct8 oc9 kV9 dc9 pm9 cd9 ct9 oc10 kV10 dc10 pm10 cd10 ct10 oc11 kV11 dc11 pm11 cd11 ct11 oc12 kV12 dc12 pm12 cd12 ct12 oc13 kV13 dc13 pm13 cd13 ct13 oc14 kV14 dc14 pm14 cd14 ct14 oc15 kV15 dc15 pm15 cd15 ct15 oc16 kV16 dc16 pm16 cd16 ct16 oc17 kV17 dc17 pm17 cd17 ct17 oc18 kV18 dc18 pm18 cd18 ct18 oc19 kV19 dc19 pm19 cd19 ct19 oc20 kV20 dc20 pm20 cd20 ct20 oc21 kV21 dc21 pm21 cd21 ct21 oc22 kV22 dc22 pm22 cd22 ct22 oc23 kV23 dc23 pm23 cd23 ct23 oc24 kV24 dc24 pm24 cd24 ct24 oc25 kV25 dc25 pm25 cd25 ct25 oc26 kV26 dc26 pm26 cd26 ct26 oc27 kV27 dc27 pm27 cd27 ct27 oc28 kV28 dc28 pm28 cd28 ct28 oc29 kV29 dc29 pm29 cd29 ct29 oc30 kV30 dc30 pm30 cd30 ct30 oc31 kV31 dc31 pm31 cd31 ct31 oc32 kV32 dc32 pm32 cd32 ct32 oc33 kV33 dc33 pm33 cd33 ct33 oc34 kV34 dc34 pm34 cd34 ct34 oc35 kV35 dc35 pm35 cd35 ct35 : Value}
    (a1 : PySem.W.nsIn K mainGlobals "step_over" = some (some (.ref f1))) (l1 : K.lookup f1 = some ⟨oc1, od1, .func (PySem.W.fnOf "step_over" "step_over" (defArgs s_step_over) (defBody s_step_over) (defScope s_step_over) .none kV1 dc1 pm1 an1 cd1 ct1), sl1⟩) (c1 : PySem.W.codeIn K cd1 "step_over" = true) (k1 : PySem.W.keepIn K (.ref f1) = true)
    (a2 : PySem.W.nsIn K mainGlobals "arcs_of" = some (some (.ref f2))) (l2 : K.lookup f2 = some ⟨oc2, od2, .func (PySem.W.fnOf "arcs_of" "arcs_of" (defArgs s_arcs_of) (defBody s_arcs_of) (defScope s_arcs_of) .none kV2 dc2 pm2 an2 cd2 ct2), sl2⟩) (c2 : PySem.W.codeIn K cd2 "arcs_of" = true) (k2 : PySem.W.keepIn K (.ref f2) = true)
    (a3 : PySem.W.nsIn K mainGlobals "least_sums" = some (some (.ref f3))) (l3 : K.lookup f3 = some ⟨oc3, od3, .func (PySem.W.fnOf "least_sums" "least_sums" (defArgs s_least_sums) (defBody s_least_sums) (defScope s_least_sums) .none kV3 dc3 pm3 an3 cd3 ct3), sl3⟩) (c3 : PySem.W.codeIn K cd3 "least_sums" = true) (k3 : PySem.W.keepIn K (.ref f3) = true)
    (a4 : PySem.W.nsIn K mainGlobals "graded" = some (some (.ref f4))) (l4 : K.lookup f4 = some ⟨oc4, od4, .func (PySem.W.fnOf "graded" "graded" (defArgs s_graded) (defBody s_graded) (defScope s_graded) .none kV4 dc4 pm4 an4 cd4 ct4), sl4⟩) (c4 : PySem.W.codeIn K cd4 "graded" = true) (k4 : PySem.W.keepIn K (.ref f4) = true)
    (a5 : PySem.W.nsIn K mainGlobals "never_held" = some (some (.ref f5))) (l5 : K.lookup f5 = some ⟨oc5, od5, .func (PySem.W.fnOf "never_held" "never_held" (defArgs s_never_held) (defBody s_never_held) (defScope s_never_held) .none kV5 dc5 pm5 an5 cd5 ct5), sl5⟩) (c5 : PySem.W.codeIn K cd5 "never_held" = true) (k5 : PySem.W.keepIn K (.ref f5) = true)
    (a6 : PySem.W.nsIn K mainGlobals "least_cost" = some (some (.ref f6))) (l6 : K.lookup f6 = some ⟨oc6, od6, .func (PySem.W.fnOf "least_cost" "least_cost" (defArgs s_least_cost) (defBody s_least_cost) (defScope s_least_cost) .none kV6 dc6 pm6 an6 cd6 ct6), sl6⟩) (c6 : PySem.W.codeIn K cd6 "least_cost" = true) (k6 : PySem.W.keepIn K (.ref f6) = true)
    (a7 : PySem.W.nsIn K mainGlobals "find_queue" = some (some (.ref f7))) (l7 : K.lookup f7 = some ⟨oc7, od7, .func (PySem.W.fnOf "find_queue" "find_queue" (defArgs s_find_queue) (defBody s_find_queue) (defScope s_find_queue) .none kV7 dc7 pm7 an7 cd7 ct7), sl7⟩) (c7 : PySem.W.codeIn K cd7 "find_queue" = true) (k7 : PySem.W.keepIn K (.ref f7) = true)
    (a8 : PySem.W.nsIn K mainGlobals "changed" = some (some (.ref f8))) (l8 : K.lookup f8 = some ⟨oc8, od8, .func (PySem.W.fnOf "changed" "changed" (defArgs s_changed) (defBody s_changed) (defScope s_changed) .none kV8 dc8 pm8 an8 cd8 ct8), sl8⟩) (c8 : PySem.W.codeIn K cd8 "changed" = true) (k8 : PySem.W.keepIn K (.ref f8) = true)
    (a9 : PySem.W.nsIn K mainGlobals "raised" = some (some (.ref f9))) (l9 : K.lookup f9 = some ⟨oc9, od9, .func (PySem.W.fnOf "raised" "raised" (defArgs s_raised) (defBody s_raised) (defScope s_raised) .none kV9 dc9 pm9 an9 cd9 ct9), sl9⟩) (c9 : PySem.W.codeIn K cd9 "raised" = true) (k9 : PySem.W.keepIn K (.ref f9) = true)
    (a10 : PySem.W.nsIn K mainGlobals "limits" = some (some (.ref f10))) (l10 : K.lookup f10 = some ⟨oc10, od10, .func (PySem.W.fnOf "limits" "limits" (defArgs s_limits) (defBody s_limits) (defScope s_limits) .none kV10 dc10 pm10 an10 cd10 ct10), sl10⟩) (c10 : PySem.W.codeIn K cd10 "limits" = true) (k10 : PySem.W.keepIn K (.ref f10) = true)
    (a11 : PySem.W.nsIn K mainGlobals "greatest_notice" = some (some (.ref f11))) (l11 : K.lookup f11 = some ⟨oc11, od11, .func (PySem.W.fnOf "greatest_notice" "greatest_notice" (defArgs s_greatest_notice) (defBody s_greatest_notice) (defScope s_greatest_notice) .none kV11 dc11 pm11 an11 cd11 ct11), sl11⟩) (c11 : PySem.W.codeIn K cd11 "greatest_notice" = true) (k11 : PySem.W.keepIn K (.ref f11) = true)
    (a12 : PySem.W.nsIn K mainGlobals "full" = some (some (.ref f12))) (l12 : K.lookup f12 = some ⟨oc12, od12, .func (PySem.W.fnOf "full" "full" (defArgs s_full) (defBody s_full) (defScope s_full) .none kV12 dc12 pm12 an12 cd12 ct12), sl12⟩) (c12 : PySem.W.codeIn K cd12 "full" = true) (k12 : PySem.W.keepIn K (.ref f12) = true)
    (a13 : PySem.W.nsIn K mainGlobals "filled" = some (some (.ref f13))) (l13 : K.lookup f13 = some ⟨oc13, od13, .func (PySem.W.fnOf "filled" "filled" (defArgs s_filled) (defBody s_filled) (defScope s_filled) .none kV13 dc13 pm13 an13 cd13 ct13), sl13⟩) (c13 : PySem.W.codeIn K cd13 "filled" = true) (k13 : PySem.W.keepIn K (.ref f13) = true)
    (a14 : PySem.W.nsIn K mainGlobals "_law_box" = some (some (.ref f14))) (l14 : K.lookup f14 = some ⟨oc14, od14, .func (PySem.W.fnOf "_law_box" "_law_box" (defArgs s_w_box) (defBody s_w_box) (defScope s_w_box) .none kV14 dc14 pm14 an14 cd14 ct14), sl14⟩) (c14 : PySem.W.codeIn K cd14 "_law_box" = true) (k14 : PySem.W.keepIn K (.ref f14) = true)
    (a15 : PySem.W.nsIn K mainGlobals "_law_take" = some (some (.ref f15))) (l15 : K.lookup f15 = some ⟨oc15, od15, .func (PySem.W.fnOf "_law_take" "_law_take" (defArgs s_w_take) (defBody s_w_take) (defScope s_w_take) .none kV15 dc15 pm15 an15 cd15 ct15), sl15⟩) (c15 : PySem.W.codeIn K cd15 "_law_take" = true) (k15 : PySem.W.keepIn K (.ref f15) = true)
    (a16 : PySem.W.nsIn K mainGlobals "_law_cells" = some (some (.ref f16))) (l16 : K.lookup f16 = some ⟨oc16, od16, .func (PySem.W.fnOf "_law_cells" "_law_cells" (defArgs s_w_cells) (defBody s_w_cells) (defScope s_w_cells) .none kV16 dc16 pm16 an16 cd16 ct16), sl16⟩) (c16 : PySem.W.codeIn K cd16 "_law_cells" = true) (k16 : PySem.W.keepIn K (.ref f16) = true)
    (a17 : PySem.W.nsIn K mainGlobals "_law_pick" = some (some (.ref f17))) (l17 : K.lookup f17 = some ⟨oc17, od17, .func (PySem.W.fnOf "_law_pick" "_law_pick" (defArgs s_w_pick) (defBody s_w_pick) (defScope s_w_pick) .none kV17 dc17 pm17 an17 cd17 ct17), sl17⟩) (c17 : PySem.W.codeIn K cd17 "_law_pick" = true) (k17 : PySem.W.keepIn K (.ref f17) = true)
    (a18 : PySem.W.nsIn K mainGlobals "_law_lists" = some (some (.ref f18))) (l18 : K.lookup f18 = some ⟨oc18, od18, .func (PySem.W.fnOf "_law_lists" "_law_lists" (defArgs s_w_lists) (defBody s_w_lists) (defScope s_w_lists) .none kV18 dc18 pm18 an18 cd18 ct18), sl18⟩) (c18 : PySem.W.codeIn K cd18 "_law_lists" = true) (k18 : PySem.W.keepIn K (.ref f18) = true)
    (a19 : PySem.W.nsIn K mainGlobals "_law_same" = some (some (.ref f19))) (l19 : K.lookup f19 = some ⟨oc19, od19, .func (PySem.W.fnOf "_law_same" "_law_same" (defArgs s_w_same) (defBody s_w_same) (defScope s_w_same) .none kV19 dc19 pm19 an19 cd19 ct19), sl19⟩) (c19 : PySem.W.codeIn K cd19 "_law_same" = true) (k19 : PySem.W.keepIn K (.ref f19) = true)
    (a20 : PySem.W.nsIn K mainGlobals "_law_web" = some (some (.ref f20))) (l20 : K.lookup f20 = some ⟨oc20, od20, .func (PySem.W.fnOf "_law_web" "_law_web" (defArgs s_w_web) (defBody s_w_web) (defScope s_w_web) .none kV20 dc20 pm20 an20 cd20 ct20), sl20⟩) (c20 : PySem.W.codeIn K cd20 "_law_web" = true) (k20 : PySem.W.keepIn K (.ref f20) = true)
    (a21 : PySem.W.nsIn K mainGlobals "_law_twin_web" = some (some (.ref f21))) (l21 : K.lookup f21 = some ⟨oc21, od21, .func (PySem.W.fnOf "_law_twin_web" "_law_twin_web" (defArgs s_w_twin_web) (defBody s_w_twin_web) (defScope s_w_twin_web) .none kV21 dc21 pm21 an21 cd21 ct21), sl21⟩) (c21 : PySem.W.codeIn K cd21 "_law_twin_web" = true) (k21 : PySem.W.keepIn K (.ref f21) = true)
    (a22 : PySem.W.nsIn K mainGlobals "_law_rings" = some (some (.ref f22))) (l22 : K.lookup f22 = some ⟨oc22, od22, .func (PySem.W.fnOf "_law_rings" "_law_rings" (defArgs s_w_rings) (defBody s_w_rings) (defScope s_w_rings) .none kV22 dc22 pm22 an22 cd22 ct22), sl22⟩) (c22 : PySem.W.codeIn K cd22 "_law_rings" = true) (k22 : PySem.W.keepIn K (.ref f22) = true)
    (a23 : PySem.W.nsIn K mainGlobals "_law_ring_sums" = some (some (.ref f23))) (l23 : K.lookup f23 = some ⟨oc23, od23, .func (PySem.W.fnOf "_law_ring_sums" "_law_ring_sums" (defArgs s_w_ring_sums) (defBody s_w_ring_sums) (defScope s_w_ring_sums) .none kV23 dc23 pm23 an23 cd23 ct23), sl23⟩) (c23 : PySem.W.codeIn K cd23 "_law_ring_sums" = true) (k23 : PySem.W.keepIn K (.ref f23) = true)
    (a24 : PySem.W.nsIn K mainGlobals "_law_drawn" = some (some (.ref f24))) (l24 : K.lookup f24 = some ⟨oc24, od24, .func (PySem.W.fnOf "_law_drawn" "_law_drawn" (defArgs s_w_drawn) (defBody s_w_drawn) (defScope s_w_drawn) .none kV24 dc24 pm24 an24 cd24 ct24), sl24⟩) (c24 : PySem.W.codeIn K cd24 "_law_drawn" = true) (k24 : PySem.W.keepIn K (.ref f24) = true)
    (a25 : PySem.W.nsIn K mainGlobals "_law_with" = some (some (.ref f25))) (l25 : K.lookup f25 = some ⟨oc25, od25, .func (PySem.W.fnOf "_law_with" "_law_with" (defArgs s_w_with) (defBody s_w_with) (defScope s_w_with) .none kV25 dc25 pm25 an25 cd25 ct25), sl25⟩) (c25 : PySem.W.codeIn K cd25 "_law_with" = true) (k25 : PySem.W.keepIn K (.ref f25) = true)
    (a26 : PySem.W.nsIn K mainGlobals "_law_any_bad" = some (some (.ref f26))) (l26 : K.lookup f26 = some ⟨oc26, od26, .func (PySem.W.fnOf "_law_any_bad" "_law_any_bad" (defArgs s_w_any_bad) (defBody s_w_any_bad) (defScope s_w_any_bad) .none kV26 dc26 pm26 an26 cd26 ct26), sl26⟩) (c26 : PySem.W.codeIn K cd26 "_law_any_bad" = true) (k26 : PySem.W.keepIn K (.ref f26) = true)
    (a27 : PySem.W.nsIn K mainGlobals "_law_fork" = some (some (.ref f27))) (l27 : K.lookup f27 = some ⟨oc27, od27, .func (PySem.W.fnOf "_law_fork" "_law_fork" (defArgs s_w_fork) (defBody s_w_fork) (defScope s_w_fork) .none kV27 dc27 pm27 an27 cd27 ct27), sl27⟩) (c27 : PySem.W.codeIn K cd27 "_law_fork" = true) (k27 : PySem.W.keepIn K (.ref f27) = true)
    (a28 : PySem.W.nsIn K mainGlobals "_law_is_full" = some (some (.ref f28))) (l28 : K.lookup f28 = some ⟨oc28, od28, .func (PySem.W.fnOf "_law_is_full" "_law_is_full" (defArgs s_w_is_full) (defBody s_w_is_full) (defScope s_w_is_full) .none kV28 dc28 pm28 an28 cd28 ct28), sl28⟩) (c28 : PySem.W.codeIn K cd28 "_law_is_full" = true) (k28 : PySem.W.keepIn K (.ref f28) = true)
    (a29 : PySem.W.nsIn K mainGlobals "_law_pass" = some (some (.ref f29))) (l29 : K.lookup f29 = some ⟨oc29, od29, .func (PySem.W.fnOf "_law_pass" "_law_pass" (defArgs s_w_pass) (defBody s_w_pass) (defScope s_w_pass) .none kV29 dc29 pm29 an29 cd29 ct29), sl29⟩) (c29 : PySem.W.codeIn K cd29 "_law_pass" = true) (k29 : PySem.W.keepIn K (.ref f29) = true)
    (a30 : PySem.W.nsIn K mainGlobals "_law_odd_right" = some (some (.ref f30))) (l30 : K.lookup f30 = some ⟨oc30, od30, .func (PySem.W.fnOf "_law_odd_right" "_law_odd_right" (defArgs s_w_odd_right) (defBody s_w_odd_right) (defScope s_w_odd_right) .none kV30 dc30 pm30 an30 cd30 ct30), sl30⟩) (c30 : PySem.W.codeIn K cd30 "_law_odd_right" = true) (k30 : PySem.W.keepIn K (.ref f30) = true)
    (a31 : PySem.W.nsIn K mainGlobals "_law_web_right" = some (some (.ref f31))) (l31 : K.lookup f31 = some ⟨oc31, od31, .func (PySem.W.fnOf "_law_web_right" "_law_web_right" (defArgs s_w_web_right) (defBody s_w_web_right) (defScope s_w_web_right) .none kV31 dc31 pm31 an31 cd31 ct31), sl31⟩) (c31 : PySem.W.codeIn K cd31 "_law_web_right" = true) (k31 : PySem.W.keepIn K (.ref f31) = true)
    (a32 : PySem.W.nsIn K mainGlobals "_law_wide_right" = some (some (.ref f32))) (l32 : K.lookup f32 = some ⟨oc32, od32, .func (PySem.W.fnOf "_law_wide_right" "_law_wide_right" (defArgs s_w_wide_right) (defBody s_w_wide_right) (defScope s_w_wide_right) .none kV32 dc32 pm32 an32 cd32 ct32), sl32⟩) (c32 : PySem.W.codeIn K cd32 "_law_wide_right" = true) (k32 : PySem.W.keepIn K (.ref f32) = true)
    (a33 : PySem.W.nsIn K mainGlobals "_law_right" = some (some (.ref f33))) (l33 : K.lookup f33 = some ⟨oc33, od33, .func (PySem.W.fnOf "_law_right" "_law_right" (defArgs s_w_right) (defBody s_w_right) (defScope s_w_right) .none kV33 dc33 pm33 an33 cd33 ct33), sl33⟩) (c33 : PySem.W.codeIn K cd33 "_law_right" = true) (k33 : PySem.W.keepIn K (.ref f33) = true)
    (a34 : PySem.W.nsIn K mainGlobals "law" = some (some (.ref f34))) (l34 : K.lookup f34 = some ⟨oc34, od34, .func (PySem.W.fnOf "law" "law" (defArgs s_law) (defBody s_law) (defScope s_law) .none kV34 dc34 pm34 an34 cd34 ct34), sl34⟩) (c34 : PySem.W.codeIn K cd34 "law" = true) (k34 : PySem.W.keepIn K (.ref f34) = true)
    (a35 : PySem.W.findIn K (.ref C_NoQueue) "__init__" = some (some (.ref f35))) (i35 : PySem.W.isFn K (.ref f35) = true) (l35 : K.lookup f35 = some ⟨oc35, od35, .func (PySem.W.fnOf "__init__" "NoQueue.__init__" (defArgs s_NoQueue_init) (defBody s_NoQueue_init) (defScope s_NoQueue_init) .none kV35 dc35 pm35 an35 cd35 ct35), sl35⟩) (c35 : PySem.W.codeIn K cd35 "NoQueue.__init__" = true) (k35 : PySem.W.keepIn K (.ref f35) = true)
    (aC_NoQueue : PySem.W.nsIn K mainGlobals "NoQueue" = some (some (.ref C_NoQueue)))
    (xb1_NoQueue : PySem.W.excInitIn K C_NoQueue [.type "LookupError", .type "Exception", .type "BaseException", .type "object"] "LookupError.__new__" = true)
    (xb2_NoQueue : PySem.W.hasDictIn K C_NoQueue = true)
    (xb3_NoQueue : PySem.W.findIn K (.ref C_NoQueue) "__setattr__" = some (some (.builtin "object.__setattr__")))
    (xb4_NoQueue : PySem.W.subIn K (.ref C_NoQueue) (.type "BaseException") = some true)
    (xb5_NoQueue : PySem.W.typeIn K (.ref C_NoQueue) = some (.type "type"))
    (xb6_NoQueue : PySem.W.keepIn K (.ref C_NoQueue) = true)
    (xi1_NoQueue : PySem.W.isClsIn K C_NoQueue = true)
    (xi2_NoQueue : PySem.W.findIn K (.ref C_NoQueue) "__getattribute__" = some (some (.builtin "BaseException.__getattribute__")))
    (xi3_NoQueue : PySem.W.findIn K (.ref C_NoQueue) "__getattr__" = some none)
    (xi4_NoQueue : PySem.W.subIn K (.ref C_NoQueue) (.type "BaseException") = some true)
    (xi5_NoQueue : PySem.W.hasDictIn K C_NoQueue = true)
    (xi6_NoQueue : PySem.W.findIn K (.ref C_NoQueue) "__class__" = some (some (.builtin "object.__class__")))
    (xi7_NoQueue : PySem.W.specialIn K (.builtin "object.__class__") "__get__" = some (some (.builtin "getset_descriptor.__get__")))
    (xi8_NoQueue : PySem.W.takesIn K (.builtin "object.__class__") = some true)
    (xi9_NoQueue : PySem.W.mroIn K C_NoQueue (.type "object") = some true)
    (xc1_NoQueue : PySem.W.isClsIn K C_NoQueue = true)
    (xc2_NoQueue : PySem.W.typeIn K (.ref C_NoQueue) = some (.type "type"))
    (xc3_NoQueue : PySem.W.subIn K (.ref C_NoQueue) (.type "BaseException") = some true)
    (nf_NoQueue_queue : PySem.W.findIn K (.ref C_NoQueue) "queue" = some none)
    (sub_NoQueue_NoQueue : PySem.W.subIn K (.ref C_NoQueue) (.ref C_NoQueue) = some true)
    (z1 : PySem.W.nsIn K mainGlobals "len" = some none) (z2 : PySem.W.nsIn K mainGlobals "abs" = some none) (z3 : PySem.W.nsIn K mainGlobals "int" = some none) (z4 : PySem.W.nsIn K mainGlobals "list" = some none) (z5 : PySem.W.nsIn K mainGlobals "enumerate" = some none) (z6 : PySem.W.nsIn K mainGlobals "range" = some none) (z7 : PySem.W.nsIn K mainGlobals "min" = some none) (z8 : PySem.W.nsIn K mainGlobals "max" = some none) (z9 : PySem.W.nsIn K mainGlobals "sorted" = some none) (z10 : PySem.W.nsIn K mainGlobals "tuple" = some none) (z11 : PySem.W.nsIn K mainGlobals "isinstance" = some none) (z12 : PySem.W.nsIn K mainGlobals "bool" = some none) (z13 : PySem.W.nsIn K mainGlobals "str" = some none) (z14 : PySem.W.nsIn K mainGlobals "all" = some none) (z15 : PySem.W.nsIn K mainGlobals "zip" = some none) (z16 : PySem.W.nsIn K mainGlobals "set" = some none) (z17 : PySem.W.nsIn K mainGlobals "sum" = some none) (z18 : PySem.W.nsIn K mainGlobals "LookupError" = some none) :
    ∃ fd : FuncData, (∀ (s : Shared) (v : Value), BindsTo s fd ⟨[v], []⟩ [("_law_script", v)]) ∧ ∀ base : Heap, K.In base → base.Ns mainGlobals mg → FnOk l.prog w K mg base CX0 11 fa fd ["_law_script"] (spLaw K) := by
  have e := hfa.symm.trans (PySem.W.mg_of X G a34)
  cases e
  have F1 := fun_mk (st := s_step_over) l1 c1 k1
  have g1 := PySem.W.mg_of X G a1
  have b1 := F1.binds (ps := ["queue", "place"]) fun _ _ _ _ _ _ us hl => match us, hl with | [_, _], _ => rfl
  have F2 := fun_mk (st := s_arcs_of) l2 c2 k2
  have g2 := PySem.W.mg_of X G a2
  have b2 := F2.binds (ps := ["net", "scale", "toll"]) fun _ _ _ _ _ _ us hl => match us, hl with | [_, _, _], _ => rfl
  have F3 := fun_mk (st := s_least_sums) l3 c3 k3
  have g3 := PySem.W.mg_of X G a3
  have b3 := F3.binds (ps := ["arcs", "first"]) fun _ _ _ _ _ _ us hl => match us, hl with | [_, _], _ => rfl
  have F4 := fun_mk (st := s_graded) l4 c4 k4
  have g4 := PySem.W.mg_of X G a4
  have b4 := F4.binds (ps := ["net", "parts"]) fun _ _ _ _ _ _ us hl => match us, hl with | [_, _], _ => rfl
  have F5 := fun_mk (st := s_never_held) l5 c5 k5
  have g5 := PySem.W.mg_of X G a5
  have b5 := F5.binds (ps := ["net"]) fun _ _ _ _ _ _ us hl => match us, hl with | [_], _ => rfl
  have F6 := fun_mk (st := s_least_cost) l6 c6 k6
  have g6 := PySem.W.mg_of X G a6
  have b6 := F6.binds (ps := ["net", "worker", "other"]) fun _ _ _ _ _ _ us hl => match us, hl with | [_, _, _], _ => rfl
  have F7 := fun_mk (st := s_find_queue) l7 c7 k7
  have g7 := PySem.W.mg_of X G a7
  have b7 := F7.binds (ps := ["net", "name"]) fun _ _ _ _ _ _ us hl => match us, hl with | [_, _], _ => rfl
  have F8 := fun_mk (st := s_changed) l8 c8 k8
  have g8 := PySem.W.mg_of X G a8
  have b8 := F8.binds (ps := ["net", "notices"]) fun _ _ _ _ _ _ us hl => match us, hl with | [_, _], _ => rfl
  have F9 := fun_mk (st := s_raised) l9 c9 k9
  have g9 := PySem.W.mg_of X G a9
  have b9 := F9.binds (ps := ["net", "queue", "room", "notice"]) fun _ _ _ _ _ _ us hl => match us, hl with | [_, _, _, _], _ => rfl
  have F10 := fun_mk (st := s_limits) l10 c10 k10
  have g10 := PySem.W.mg_of X G a10
  have b10 := F10.binds (ps := ["net", "queue"]) fun _ _ _ _ _ _ us hl => match us, hl with | [_, _], _ => rfl
  have F11 := fun_mk (st := s_greatest_notice) l11 c11 k11
  have g11 := PySem.W.mg_of X G a11
  have b11 := F11.binds (ps := ["net", "queue"]) fun _ _ _ _ _ _ us hl => match us, hl with | [_, _], _ => rfl
  have F12 := fun_mk (st := s_full) l12 c12 k12
  have g12 := PySem.W.mg_of X G a12
  have b12 := F12.binds (ps := ["net"]) fun _ _ _ _ _ _ us hl => match us, hl with | [_], _ => rfl
  have kb12 : KBinds K (PySem.W.fnOf "full" "full" (defArgs s_full) (defBody s_full) (defScope s_full) .none kV12 dc12 pm12 an12 cd12 ct12) ["net"] ["net"] gP_0 gP_0 := ⟨fun s us ws _ hl => match us, ws, hl with | [], _ :: _, _ => .of_eq rfl | [], [], hl => absurd hl (fun z => nomatch z) | _ :: _, _, hl => absurd hl (fun z => nomatch z), fun r1 r2 => vals_gP r1 r2⟩
  have F13 := fun_mk (st := s_filled) l13 c13 k13
  have g13 := PySem.W.mg_of X G a13
  have b13 := F13.binds (ps := ["net", "order"]) fun _ _ _ _ _ _ us hl => match us, hl with | [_, _], _ => rfl
  have kb13 : KBinds K (PySem.W.fnOf "filled" "filled" (defArgs s_filled) (defBody s_filled) (defScope s_filled) .none kV13 dc13 pm13 an13 cd13 ct13) ["net", "order"] ["order", "net"] gP_10 gP_10 := ⟨fun s us ws _ hl => match us, ws, hl with | [], _ :: _ :: _, _ => .of_eq rfl | [], [], hl => absurd hl (fun z => nomatch z) | [], [_], hl => absurd hl (fun z => nomatch z) | _ :: _, _, hl => absurd hl (fun z => nomatch z), fun r1 r2 => vals_gP r1 r2⟩
  have F14 := fun_mk (st := s_w_box) l14 c14 k14
  have g14 := PySem.W.mg_of X G a14
  have b14 := F14.binds (ps := ["_law_script", "_law_k"]) fun _ _ _ _ _ _ us hl => match us, hl with | [_, _], _ => rfl
  have F15 := fun_mk (st := s_w_take) l15 c15 k15
  have g15 := PySem.W.mg_of X G a15
  have b15 := F15.binds (ps := ["_law_box_here", "_law_below"]) fun _ _ _ _ _ _ us hl => match us, hl with | [_, _], _ => rfl
  have F16 := fun_mk (st := s_w_cells) l16 c16 k16
  have g16 := PySem.W.mg_of X G a16
  have b16 := F16.binds (ps := ["_law_script", "_law_most"]) fun _ _ _ _ _ _ us hl => match us, hl with | [_, _], _ => rfl
  have F17 := fun_mk (st := s_w_pick) l17 c17 k17
  have g17 := PySem.W.mg_of X G a17
  have b17 := F17.binds (ps := ["_law_box_here", "_law_pool", "_law_size_so"]) fun _ _ _ _ _ _ us hl => match us, hl with | [_, _, _], _ => rfl
  have F18 := fun_mk (st := s_w_lists) l18 c18 k18
  have g18 := PySem.W.mg_of X G a18
  have b18 := F18.binds (ps := ["_law_matter"]) fun _ _ _ _ _ _ us hl => match us, hl with | [_], _ => rfl
  have F19 := fun_mk (st := s_w_same) l19 c19 k19
  have g19 := PySem.W.mg_of X G a19
  have b19 := F19.binds (ps := ["_law_got", "_law_due"]) fun _ _ _ _ _ _ us hl => match us, hl with | [_, _], _ => rfl
  have F20 := fun_mk (st := s_w_web) l20 c20 k20
  have g20 := PySem.W.mg_of X G a20
  have b20 := F20.binds (ps := ["_law_box_here", "_law_size_so", "_law_most", "_law_high"]) fun _ _ _ _ _ _ us hl => match us, hl with | [_, _, _, _], _ => rfl
  have F21 := fun_mk (st := s_w_twin_web) l21 c21 k21
  have g21 := PySem.W.mg_of X G a21
  have b21 := F21.binds (ps := ["_law_box_here", "_law_high"]) fun _ _ _ _ _ _ us hl => match us, hl with | [_, _], _ => rfl
  have F22 := fun_mk (st := s_w_rings) l22 c22 k22
  have g22 := PySem.W.mg_of X G a22
  have b22 := F22.binds (ps := ["_law_web_here"]) fun _ _ _ _ _ _ us hl => match us, hl with | [_], _ => rfl
  have F23 := fun_mk (st := s_w_ring_sums) l23 c23 k23
  have g23 := PySem.W.mg_of X G a23
  have b23 := F23.binds (ps := ["_law_web_here", "_law_row"]) fun _ _ _ _ _ _ us hl => match us, hl with | [_, _], _ => rfl
  have F24 := fun_mk (st := s_w_drawn) l24 c24 k24
  have g24 := PySem.W.mg_of X G a24
  have b24 := F24.binds (ps := ["_law_box_here", "_law_size_so", "_law_most", "_law_high"]) fun _ _ _ _ _ _ us hl => match us, hl with | [_, _, _, _], _ => rfl
  have F25 := fun_mk (st := s_w_with) l25 c25 k25
  have g25 := PySem.W.mg_of X G a25
  have b25 := F25.binds (ps := ["_law_web_here", "_law_mark", "_law_space", "_law_gap"]) fun _ _ _ _ _ _ us hl => match us, hl with | [_, _, _, _], _ => rfl
  have F26 := fun_mk (st := s_w_any_bad) l26 c26 k26
  have g26 := PySem.W.mg_of X G a26
  have b26 := F26.binds (ps := ["_law_web_here", "_law_found"]) fun _ _ _ _ _ _ us hl => match us, hl with | [_, _], _ => rfl
  have F27 := fun_mk (st := s_w_fork) l27 c27 k27
  have g27 := PySem.W.mg_of X G a27
  have b27 := F27.binds (ps := ["_law_narrow"]) fun _ _ _ _ _ _ us hl => match us, hl with | [_], _ => rfl
  have F28 := fun_mk (st := s_w_is_full) l28 c28 k28
  have g28 := PySem.W.mg_of X G a28
  have b28 := F28.binds (ps := ["_law_web_here", "_law_found"]) fun _ _ _ _ _ _ us hl => match us, hl with | [_, _], _ => rfl
  have F29 := fun_mk (st := s_w_pass) l29 c29 k29
  have g29 := PySem.W.mg_of X G a29
  have b29 := F29.binds (ps := ["_law_web_here", "_law_found", "_law_marks"]) fun _ _ _ _ _ _ us hl => match us, hl with | [_, _, _], _ => rfl
  have F30 := fun_mk (st := s_w_odd_right) l30 c30 k30
  have g30 := PySem.W.mg_of X G a30
  have b30 := F30.binds (ps := ["_law_web_here", "_law_marks"]) fun _ _ _ _ _ _ us hl => match us, hl with | [_, _], _ => rfl
  have F31 := fun_mk (st := s_w_web_right) l31 c31 k31
  have g31 := PySem.W.mg_of X G a31
  have b31 := F31.binds (ps := ["_law_box_here", "_law_web_here"]) fun _ _ _ _ _ _ us hl => match us, hl with | [_, _], _ => rfl
  have F32 := fun_mk (st := s_w_wide_right) l32 c32 k32
  have g32 := PySem.W.mg_of X G a32
  have b32 := F32.binds (ps := ["_law_great"]) fun _ _ _ _ _ _ us hl => match us, hl with | [_], _ => rfl
  have F33 := fun_mk (st := s_w_right) l33 c33 k33
  have g33 := PySem.W.mg_of X G a33
  have b33 := F33.binds (ps := ["_law_box_here"]) fun _ _ _ _ _ _ us hl => match us, hl with | [_], _ => rfl
  have F34 := fun_mk (st := s_law) l34 c34 k34
  have g34 := PySem.W.mg_of X G a34
  have F35 := fun_mk (st := s_NoQueue_init) l35 c35 k35
  have b35 := F35.binds (ps := ["self", "queue"]) fun _ _ _ _ _ _ us hl => match us, hl with | [_, _], _ => rfl
  have mt35 : Meth K C_NoQueue "__init__" f35 := ⟨a35, i35, k35⟩
  have mg_NoQueue := PySem.W.mg_of X G aC_NoQueue
  have XB_NoQueue : XcB K C_NoQueue "LookupError.__new__" [.type "LookupError", .type "Exception", .type "BaseException", .type "object"] := ⟨xb1_NoQueue, xb2_NoQueue, xb3_NoQueue, xb4_NoQueue, xb5_NoQueue, xb6_NoQueue⟩
  have XI_NoQueue : XcI K C_NoQueue := ⟨xi1_NoQueue, xi2_NoQueue, xi3_NoQueue, xi4_NoQueue, xi5_NoQueue, xi6_NoQueue, xi7_NoQueue, xi8_NoQueue, xi9_NoQueue⟩
  have XC_NoQueue : XcC K C_NoQueue := ⟨xc1_NoQueue, xc2_NoQueue, xc3_NoQueue⟩
  have IN_NoQueue : Ini K C_NoQueue f35 := ⟨a35, i35⟩
  have m_len := PySem.W.mg_none_of X G z1
  have m_abs := PySem.W.mg_none_of X G z2
  have m_int := PySem.W.mg_none_of X G z3
  have m_list := PySem.W.mg_none_of X G z4
  have m_enumerate := PySem.W.mg_none_of X G z5
  have m_range := PySem.W.mg_none_of X G z6
  have m_min := PySem.W.mg_none_of X G z7
  have m_max := PySem.W.mg_none_of X G z8
  have m_sorted := PySem.W.mg_none_of X G z9
  have m_tuple := PySem.W.mg_none_of X G z10
  have m_isinstance := PySem.W.mg_none_of X G z11
  have m_bool := PySem.W.mg_none_of X G z12
  have m_str := PySem.W.mg_none_of X G z13
  have m_all := PySem.W.mg_none_of X G z14
  have m_zip := PySem.W.mg_none_of X G z15
  have m_set := PySem.W.mg_none_of X G z16
  have m_sum := PySem.W.mg_none_of X G z17
  have m_LookupError := PySem.W.mg_none_of X G z18
  clear hfa a1 l1 c1 k1 a2 l2 c2 k2 a3 l3 c3 k3 a4 l4 c4 k4 a5 l5 c5 k5 a6 l6 c6 k6 a7 l7 c7 k7 a8 l8 c8 k8 a9 l9 c9 k9 a10 l10 c10 k10 a11 l11 c11 k11 a12 l12 c12 k12 a13 l13 c13 k13 a14 l14 c14 k14 a15 l15 c15 k15 a16 l16 c16 k16 a17 l17 c17 k17 a18 l18 c18 k18 a19 l19 c19 k19 a20 l20 c20 k20 a21 l21 c21 k21 a22 l22 c22 k22 a23 l23 c23 k23 a24 l24 c24 k24 a25 l25 c25 k25 a26 l26 c26 k26 a27 l27 c27 k27 a28 l28 c28 k28 a29 l29 c29 k29 a30 l30 c30 k30 a31 l31 c31 k31 a32 l32 c32 k32 a33 l33 c33 k33 a34 l34 c34 k34 a35 l35 c35 k35 z1 z2 z3 z4 z5 z6 z7 z8 z9 z10 z11 z12 z13 z14 z15 z16 z17 z18
  refine ⟨PySem.W.fnOf "law" "law" (defArgs s_law) (defBody s_law) (defScope s_law) .none kV34 dc34 pm34 an34 cd34 ct34, fun s v => .of_eq rfl, fun base _ _ => ?_⟩
  have G16 := ok_cells (P := l.prog) (w := w) (base := base) (mg := mg) (k := 0) F16 m_int m_list m_enumerate
  have G14 := ok_box (P := l.prog) (w := w) (base := base) (mg := mg) (k := 0) F14 m_len m_abs m_int
  have G15 := ok_take2 (ok_take (P := l.prog) (w := w) (base := base) (k := 0) F15 m_int)
  have G1 := ok_step_over (P := l.prog) (w := w) (base := base) (mg := mg) (k := 0) F1
  have G2 := ok_arcs_of (P := l.prog) (w := w) (base := base) (mg := mg) (k := 1) F2 G1 g1 F1 b1
  have G3 := ok_least_sums (P := l.prog) (w := w) (base := base) (mg := mg) (k := 0) F3 m_len m_set m_list m_range
  have G4 := ok_graded (P := l.prog) (w := w) (base := base) (mg := mg) (k := 2) F4 G2 g2 F2 b2 (G3.mono (by decide : 1 ≤ 2)) g3 F3 b3
  have G5 := ok_never_held (P := l.prog) (w := w) (base := base) (mg := mg) (k := 3) F5 G4 g4 F4 b4 m_len
  have G35 := ok_NoQueue_init (P := l.prog) (w := w) (base := base) (mg := mg) (k := 0) F35 XB_NoQueue nf_NoQueue_queue
  have GX7 := okX_find_queue (P := l.prog) (w := w) (base := base) (mg := mg) (k := 1) F7 mg_NoQueue XB_NoQueue IN_NoQueue G35 b35
  have GX9 := okX_raised (P := l.prog) (w := w) (base := base) (mg := mg) (k := 3) F9 GX7 g7 F7 b7 m_tuple
  have G12 := ok_full (P := l.prog) (w := w) (base := base) (mg := mg) (k := 4) F12 G5 g5 F5 b5 GX9 g9 F9 b9 m_all
  have G19 := ok_same (P := l.prog) (w := w) (base := base) F19 g19 b19 m_isinstance m_list m_tuple m_bool m_str m_int m_len m_all m_zip 5
  have G8 := ok_changed (P := l.prog) (w := w) (base := base) (mg := mg) (k := 0) F8 m_tuple
  have G6 := ok_least_cost (P := l.prog) (w := w) (base := base) (mg := mg) (k := 2) F6 G2 g2 F2 b2 (G3.mono (by decide : 1 ≤ 2)) g3 F3 b3
  have GX10 := okX_limits (P := l.prog) (w := w) (base := base) (mg := mg) (k := 4) F10 (GX7.mono (by decide : 3 ≤ 4)) g7 F7 b7 G5 g5 F5 b5 (G6.mono (by decide : 3 ≤ 4)) g6 F6 b6 m_max
  have GX11 := okX_greatest_notice (P := l.prog) (w := w) (base := base) (mg := mg) (k := 5) F11 (GX7.mono (by decide : 3 ≤ 5)) g7 F7 b7 GX10 g10 F10 b10 m_min
  have GX13 := okX_filled (P := l.prog) (w := w) (base := base) (mg := mg) (k := 6) F13 (GX7.mono (by decide : 3 ≤ 6)) g7 F7 b7 (G5.mono (by decide : 4 ≤ 6)) g5 F5 b5 (G8.mono (by decide : 1 ≤ 6)) g8 F8 b8 GX11 g11 F11 b11
  have G32 := ok_w_wide_right (P := l.prog) (w := w) (base := base) (mg := mg) (k := 7) F32 GX13 g13 F13 b13 (G12.mono (by decide : 5 ≤ 7)) g12 F12 b12 (G19.mono (by decide : 5 ≤ 7)) g19 F19 b19 m_tuple m_zip
  have G27 := ok_w_fork (P := l.prog) (w := w) (base := base) (mg := mg) (k := 0) F27
  have G21 := ok_twin (P := l.prog) (w := w) (base := base) (mg := mg) (k := 1) F21 G15 g15 F15 b15 m_range m_max m_sorted m_tuple
  have G17 := ok_pick (P := l.prog) (w := w) (base := base) (mg := mg) (k := 1) F17 G15 g15 F15 b15 m_list m_range m_min m_len
  have G20 := ok_web (P := l.prog) (w := w) (base := base) (mg := mg) (k := 2) F20 (G15.mono (by decide : 1 ≤ 2)) g15 F15 b15 G17 g17 F17 b17 m_sorted m_len m_int m_tuple
  have G24 := ok_w_drawn (P := l.prog) (w := w) (base := base) (mg := mg) (k := 3) F24 (G15.mono (by decide : 1 ≤ 3)) g15 F15 b15 (G21.mono (by decide : 2 ≤ 3)) g21 F21 b21 G20 g20 F20 b20
  have G22 := ok_w_rings (P := l.prog) (w := w) (base := base) (mg := mg) (k := 0) F22 m_enumerate
  have G18 := ok_lists (P := l.prog) (w := w) (base := base) F18 g18 b18 m_isinstance m_list m_tuple 5
  have G23 := ok_w_ring_sums (P := l.prog) (w := w) (base := base) (mg := mg) (k := 0) F23 m_sum
  have G26 := ok_w_any_bad (P := l.prog) (w := w) (base := base) (mg := mg) (k := 1) F26 G23 g23 F23 b23
  have G25 := ok_w_with (P := l.prog) (w := w) (base := base) (mg := mg) (k := 0) F25 m_tuple
  have G28 := ok_w_is_full (P := l.prog) (w := w) (base := base) (mg := mg) (k := 2) F28 (G25.mono (by decide : 1 ≤ 2)) g25 F25 b25 G26 g26 F26 b26 m_all
  have G29 := ok_w_pass (P := l.prog) (w := w) (base := base) (mg := mg) (k := 2) F29 (G25.mono (by decide : 1 ≤ 2)) g25 F25 b25 G26 g26 F26 b26
  have G30 := ok_w_odd_right (P := l.prog) (w := w) (base := base) (mg := mg) (k := 7) F30 mg_NoQueue XI_NoQueue XC_NoQueue nf_NoQueue_queue sub_NoQueue_NoQueue GX13 g13 F13 b13 m_list
  have G31 := ok_w_web_right (P := l.prog) (w := w) (base := base) (mg := mg) (k := 8) F31 (G22.mono (by decide : 1 ≤ 8)) g22 F22 b22 (G18.mono (by decide : 5 ≤ 8)) g18 F18 b18 (G26.mono (by decide : 2 ≤ 8)) g26 F26 b26 (G5.mono (by decide : 4 ≤ 8)) g5 F5 b5 (G12.mono (by decide : 5 ≤ 8)) g12 F12 b12 kb12 (G28.mono (by decide : 3 ≤ 8)) g28 F28 b28 (G17.mono (by decide : 2 ≤ 8)) g17 F17 b17 (GX13.mono (by decide : 7 ≤ 8)) g13 F13 b13 kb13 (G29.mono (by decide : 3 ≤ 8)) g29 F29 b29 G30 g30 F30 b30 (G19.mono (by decide : 5 ≤ 8)) g19 F19 b19 m_range m_len m_tuple m_list
  have G33 := ok_w_right (P := l.prog) (w := w) (base := base) (mg := mg) (k := 9) F33 (G15.mono (by decide : 1 ≤ 9)) g15 F15 b15 (G32.mono (by decide : 8 ≤ 9)) g32 F32 b32 (G12.mono (by decide : 5 ≤ 9)) g12 F12 b12 (GX13.mono (by decide : 7 ≤ 9)) g13 F13 b13 (G19.mono (by decide : 5 ≤ 9)) g19 F19 b19 (G27.mono (by decide : 1 ≤ 9)) g27 F27 b27 (G24.mono (by decide : 4 ≤ 9)) g24 F24 b24 G31 g31 F31 b31 m_range m_tuple
  have G34 := ok_law (P := l.prog) (w := w) (base := base) (mg := mg) (k := 10) F34 (G16.mono (by decide : 1 ≤ 10)) g16 F16 b16 (G14.mono (by decide : 1 ≤ 10)) g14 F14 b14 G33 g33 F33 b33 m_all m_range m_len
  exact G34
end Jl
open PySem PySem.W PyProof.Rows
set_option maxHeartbeats 0 in
theorem PySem.Challenge.cw_joinlags_k61_whole_filled_in_any_order_holds : PySem.Challenge.rw_joinlags_k61_whole_filled_in_any_order.Holds := by
  w_on; o_law; k_head; (case hw => w_witness2)
  k_fill
  refine L2.walk_of (l := PySem.Challenge.rw_joinlags_k61_whole_filled_in_any_order) (n := 63) (k := 11) (x := "_law_script") (CX := fun _ => L2.CX0) (sp := fun w => Jl.spLaw _) rfl (by decide) rfl ⟨rfl, by decide, by decide⟩ (fun w h Y => PySem.W.kIn_of Y) ?F (fun _ _ a ns hl _ hS => ⟨a, ns, rfl, hS, hl, fun _ => rfl⟩) (fun _ _ _ _ _ h => h)
  case F =>
    intro w mg fa h KX G hmg
    refine' Jl.all_mk KX G hmg ?a1 ?l1 ?c1 ?k1 ?a2 ?l2 ?c2 ?k2 ?a3 ?l3 ?c3 ?k3 ?a4 ?l4 ?c4 ?k4 ?a5 ?l5 ?c5 ?k5 ?a6 ?l6 ?c6 ?k6 ?a7 ?l7 ?c7 ?k7 ?a8 ?l8 ?c8 ?k8 ?a9 ?l9 ?c9 ?k9 ?a10 ?l10 ?c10 ?k10 ?a11 ?l11 ?c11 ?k11 ?a12 ?l12 ?c12 ?k12 ?a13 ?l13 ?c13 ?k13 ?a14 ?l14 ?c14 ?k14 ?a15 ?l15 ?c15 ?k15 ?a16 ?l16 ?c16 ?k16 ?a17 ?l17 ?c17 ?k17 ?a18 ?l18 ?c18 ?k18 ?a19 ?l19 ?c19 ?k19 ?a20 ?l20 ?c20 ?k20 ?a21 ?l21 ?c21 ?k21 ?a22 ?l22 ?c22 ?k22 ?a23 ?l23 ?c23 ?k23 ?a24 ?l24 ?c24 ?k24 ?a25 ?l25 ?c25 ?k25 ?a26 ?l26 ?c26 ?k26 ?a27 ?l27 ?c27 ?k27 ?a28 ?l28 ?c28 ?k28 ?a29 ?l29 ?c29 ?k29 ?a30 ?l30 ?c30 ?k30 ?a31 ?l31 ?c31 ?k31 ?a32 ?l32 ?c32 ?k32 ?a33 ?l33 ?c33 ?k33 ?a34 ?l34 ?c34 ?k34 ?a35 ?i35 ?l35 ?c35 ?k35 ?aC_NoQueue ?xb1_NoQueue ?xb2_NoQueue ?xb3_NoQueue ?xb4_NoQueue ?xb5_NoQueue ?xb6_NoQueue ?xi1_NoQueue ?xi2_NoQueue ?xi3_NoQueue ?xi4_NoQueue ?xi5_NoQueue ?xi6_NoQueue ?xi7_NoQueue ?xi8_NoQueue ?xi9_NoQueue ?xc1_NoQueue ?xc2_NoQueue ?xc3_NoQueue ?nf_NoQueue_queue ?sub_NoQueue_NoQueue ?z1 ?z2 ?z3 ?z4 ?z5 ?z6 ?z7 ?z8 ?z9 ?z10 ?z11 ?z12 ?z13 ?z14 ?z15 ?z16 ?z17 ?z18
    (case aC_NoQueue => k_is); (case a1 => k_is); (case l1 => k_is); (case c1 => k_is); (case k1 => k_is); (case a2 => k_is); (case l2 => k_is); (case c2 => k_is); (case k2 => k_is); (case a3 => k_is); (case l3 => k_is); (case c3 => k_is); (case k3 => k_is); (case a4 => k_is); (case l4 => k_is); (case c4 => k_is); (case k4 => k_is); (case a5 => k_is); (case l5 => k_is); (case c5 => k_is); (case k5 => k_is); (case a6 => k_is); (case l6 => k_is); (case c6 => k_is); (case k6 => k_is); (case a7 => k_is); (case l7 => k_is); (case c7 => k_is); (case k7 => k_is); (case a8 => k_is); (case l8 => k_is); (case c8 => k_is); (case k8 => k_is); (case a9 => k_is); (case l9 => k_is); (case c9 => k_is); (case k9 => k_is); (case a10 => k_is); (case l10 => k_is); (case c10 => k_is); (case k10 => k_is); (case a11 => k_is); (case l11 => k_is); (case c11 => k_is); (case k11 => k_is); (case a12 => k_is); (case l12 => k_is); (case c12 => k_is); (case k12 => k_is); (case a13 => k_is); (case l13 => k_is); (case c13 => k_is); (case k13 => k_is); (case a14 => k_is); (case l14 => k_is); (case c14 => k_is); (case k14 => k_is); (case a15 => k_is); (case l15 => k_is); (case c15 => k_is); (case k15 => k_is); (case a16 => k_is); (case l16 => k_is); (case c16 => k_is); (case k16 => k_is); (case a17 => k_is); (case l17 => k_is); (case c17 => k_is); (case k17 => k_is); (case a18 => k_is); (case l18 => k_is); (case c18 => k_is); (case k18 => k_is); (case a19 => k_is); (case l19 => k_is); (case c19 => k_is); (case k19 => k_is); (case a20 => k_is); (case l20 => k_is); (case c20 => k_is); (case k20 => k_is); (case a21 => k_is); (case l21 => k_is); (case c21 => k_is); (case k21 => k_is); (case a22 => k_is); (case l22 => k_is); (case c22 => k_is); (case k22 => k_is); (case a23 => k_is); (case l23 => k_is); (case c23 => k_is); (case k23 => k_is); (case a24 => k_is); (case l24 => k_is); (case c24 => k_is); (case k24 => k_is); (case a25 => k_is); (case l25 => k_is); (case c25 => k_is); (case k25 => k_is); (case a26 => k_is); (case l26 => k_is); (case c26 => k_is); (case k26 => k_is); (case a27 => k_is); (case l27 => k_is); (case c27 => k_is); (case k27 => k_is); (case a28 => k_is); (case l28 => k_is); (case c28 => k_is); (case k28 => k_is); (case a29 => k_is); (case l29 => k_is); (case c29 => k_is); (case k29 => k_is); (case a30 => k_is); (case l30 => k_is); (case c30 => k_is); (case k30 => k_is); (case a31 => k_is); (case l31 => k_is); (case c31 => k_is); (case k31 => k_is); (case a32 => k_is); (case l32 => k_is); (case c32 => k_is); (case k32 => k_is); (case a33 => k_is); (case l33 => k_is); (case c33 => k_is); (case k33 => k_is); (case a34 => k_is); (case l34 => k_is); (case c34 => k_is); (case k34 => k_is); (case a35 => k_is); (case i35 => k_is); (case l35 => k_is); (case c35 => k_is); (case k35 => k_is); (case xb1_NoQueue => first | k_is | kx_is); (case xb2_NoQueue => k_is); (case xb3_NoQueue => k_is); (case xb4_NoQueue => k_is); (case xb5_NoQueue => k_is); (case xb6_NoQueue => k_is); (case xi1_NoQueue => k_is); (case xi2_NoQueue => k_is); (case xi3_NoQueue => k_is); (case xi4_NoQueue => k_is); (case xi5_NoQueue => k_is); (case xi6_NoQueue => k_is); (case xi7_NoQueue => k_is); (case xi8_NoQueue => k_is); (case xi9_NoQueue => k_is); (case xc1_NoQueue => k_is); (case xc2_NoQueue => k_is); (case xc3_NoQueue => k_is); (case nf_NoQueue_queue => k_is); (case sub_NoQueue_NoQueue => k_is); (case z1 => k_is); (case z2 => k_is); (case z3 => k_is); (case z4 => k_is); (case z5 => k_is); (case z6 => k_is); (case z7 => k_is); (case z8 => k_is); (case z9 => k_is); (case z10 => k_is); (case z11 => k_is); (case z12 => k_is); (case z13 => k_is); (case z14 => k_is); (case z15 => k_is); (case z16 => k_is); (case z17 => k_is); (case z18 => k_is)

