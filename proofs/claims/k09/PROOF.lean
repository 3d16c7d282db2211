import PyProof.Rows.All
import HandS.ForMost
import HandS.Wide
import HandS.IsInst
import HandS.Zip
import HandS.DictComp
import HandS.SetKeys
import HandS.Flow
import HandS.SortOrd
import HandS.Evl
import HandS.Walk
import PySem.Challenge.RW_joinlags_k09_rings_or_not
import PyProof.ListRange
import HandS.Sort
import HandS.Strs
import KE.SortData
import HandS.TryOnly
import HandS.SortKw
import HandS.TupAny
import KE.DataMinMax
import KE.GoesEnum
import PyProof.Rows.SeqMore
import HandS.SetTxtIn
import HandS.TupSets
import HandS.Style
import HandS.TupMul
import HandS.Codes
import KE.KRevSl
import HandS.Deep
import KE.KOpsOwn
set_option Elab.async false
set_option linter.all false
set_option maxRecDepth 100000
set_option maxHeartbeats 4000000
namespace Jl
open PySem PySem.Spec PyProof.Rows L2
open Evl (sz_of sz_lt)
def topS (i : Nat) : Stmt := PySem.Challenge.pw_joinlags_k09_rings_or_not.main.body.getD i (.Pass ⟨0, 0, 0, 0⟩)
abbrev sc_w_box_N : List Str := ["_law_script", "_law_k", "_law_cell"]
abbrev s_w_box : Stmt := topS 11
theorem sc_w_box : FnScope ["_law_script", "_law_k", "_law_cell"] ["_law_script", "_law_k"] (defScope s_w_box) := ⟨rfl, rfl, rfl, by decide +kernel, rfl, by decide +kernel, by decide +kernel⟩
local macro_rules | `(tactic| walk_at "at") => `(tactic| fail)
local macro_rules | `(tactic| walk_at "side") => `(tactic| first
  | (show (0 : Int) < _; decide)
  | (show (0 : Int) < _; omega)
  | exact ⟨by decide, by decide, by decide⟩
  | exact sz_of (Nat.le_of_ble_eq_true rfl)
  | exact rfl
  | exact Or.inl (by decide)
  | exact Or.inr (by decide)
  | exact Or.inr ⟨by omega, by omega⟩
  | exact Or.inl ⟨by omega, by omega⟩
  | exact ⟨by decide, by decide +kernel⟩)
local macro_rules | `(tactic| walk_at "ev1") => `(tactic| first
  | refine ⟨_, rfl, ?_⟩
  | refine ⟨_, _, rfl, rfl, ?_⟩
  | refine ⟨_, _, _, _, rfl, rfl, (by assumption), (by walk_at "at"), ?_⟩
  | refine Or.inl ⟨_, rfl, ?_⟩
  | refine Or.inr ⟨_, rfl, ?_⟩
  | refine ⟨(by walk_at "side"), ?_⟩)
local macro_rules | `(tactic| walk_at "ev") => `(tactic| repeat (walk_at "ev1"))
abbrev sc_w_take_N : List Str := ["_law_box_here", "_law_below", "_law_once", "_law_far", "_law_twice", "_law_drawn"]
abbrev s_w_take : Stmt := topS 12
theorem sc_w_take : FnScope ["_law_box_here", "_law_below", "_law_once", "_law_far", "_law_twice", "_law_drawn"] ["_law_box_here", "_law_below"] (defScope s_w_take) := ⟨rfl, rfl, rfl, by decide +kernel, rfl, by decide +kernel, by decide +kernel⟩
section
variable {P : Program} {w : World} {K : PySem.W.Frag} {mg : Str → Option Value} {base : Heap}
/-! ### the box: three numbers -/
def boxV (c0 c1 c2 : Int) : List V := [.int c0, .int c1, .int c2]
theorem box0 {c0 c1 c2 : Int} : atI (boxV c0 c1 c2) 0 = some (.int c0) := atI_nat (j := 0) rfl
theorem box1 {c0 c1 c2 : Int} : atI (boxV c0 c1 c2) 1 = some (.int c1) := atI_nat (j := 1) rfl
theorem box2 {c0 c1 c2 : Int} : atI (boxV c0 c1 c2) 2 = some (.int c2) := atI_nat (j := 2) rfl
local macro_rules | `(tactic| walk_at "at") => `(tactic| first | exact box0 | exact box1 | exact box2)
/-- _law_box(script, k) -/
def spBox (K : PySem.W.Frag) : Sp := fun vs H Q _ => ∃ (a : Addr) (ns : List Int) (k : Int), vs = [.ref a, .int k] ∧ SqL K H a (ns.map V.int) ∧ 0 ≤ k ∧ k < 100 ∧
  ∀ p c0 c1, H p = none → 0 ≤ c0 → 0 ≤ c1 → c1 < 2 ^ 62 → Q (.ref p) (upd H p (.lst (boxV c0 c1 0)))
theorem ok_box {f : Addr} {fd : FuncData} {k : Nat} (F : Fun K "_law_box" "_law_box" s_w_box f fd) (m_len : mg "len" = none) (m_abs : mg "abs" = none) (m_int : mg "int" = none) : FnOk P w K mg base CX0 (k + 1) f fd ["_law_script", "_law_k"] (spBox K) := by
  refine F.ok sc_w_box (fun vs H Q E h => ?_) (fun cdv A outer s H vs Q E hr h => ?_)
  · obtain ⟨a, ns, k, rfl, _⟩ := h
    rfl
  · obtain ⟨a, ns, j, rfl, hS, j0, j1, q⟩ := h
    refine ⟨_, (pss_cons (ps_set (i := 2) sc_w_box.nd rfl (Or.inl rfl) (pe_ifExp (pt_cmpR op_lt (pv 1) (pe_callB call_len_seq (by rfl) m_len PySem.boot_len (pa_cons (pv 0) pa_nil)) (nomark _)) (pe_ix ix_list (pv 0) (pv 1) (fun _ _ => rfl)) pe_int)) 
    (pss_one (ps_ret (pe_lst (pa_cons (pe_op op_mul (pe_callB call_abs (by rfl) m_abs (by decide +kernel) (pa_cons (pv 2) pa_nil)) (pe_callTy call_int1 (by rfl) m_int (by decide +kernel) (pa_cons (pe_cmpR op_ge (pe_callB call_abs (by rfl) m_abs (by decide +kernel) (pa_cons (pv 2) pa_nil)) (pe_op op_pow pe_int pe_int) (nomark _)) pa_nil))) (pa_cons (pe_op op_add (pe_op op_add (pe_op op_mod (pe_callTy call_int1 (by rfl) m_int (by decide +kernel) (pa_cons (pv 2) pa_nil)) pe_int) (pe_op op_mul pe_int (pv 1))) pe_int) (pa_cons pe_int pa_nil))))))), ?_⟩
    have fin : ∀ (c : Int), 0 ≤ (if c < 0 then -c else c) * (if decide ((10 : Int) ^ (18 : Int).toNat ≤ (if c < 0 then -c else c)) = true then 1 else 0) ∧ 0 ≤ c % 2305843009213693951 + 39373 * j + 307 ∧ c % 2305843009213693951 + 39373 * j + 307 < 2 ^ 62 := fun c => by
      refine ⟨Int.mul_nonneg (by split <;> omega) (by split <;> omega), by omega, by omega⟩
    have h01 : ∀ (b : Bool), -(2 ^ 64) < (if b = true then (1 : Int) else 0) ∧ (if b = true then (1 : Int) else 0) < 2 ^ 64 := fun b => by cases b <;> decide
    refine ⟨_, rfl, .ref a, rfl, a, _, rfl, .inl hS, _, _, rfl, rfl, _, rfl, ite2 (fun e => ?_) (fun e => ?_)⟩
    · have e1 : j < ((ns.map V.int).length : Int) := of_decide_eq_true e
      rw [List.length_map] at e1
      have hj : j.toNat < ns.length := by omega
      have hat : atI (ns.map V.int) j = some (.int ns[j.toNat]) := at_of (j := j.toNat) (by omega) (by rw [List.getElem?_map, List.getElem?_eq_getElem hj]; rfl)
      refine ⟨_, rfl, _, rfl, a, _, _, _, rfl, rfl, hS, hat, ?_⟩
      generalize ns[j.toNat] = c
      walk_at "ev"
      exact fun p hp => q p _ _ hp (fin c).1 (fin c).2.1 (fin c).2.2
    · walk_at "ev"
      exact fun p hp => q p _ _ hp (fin 0).1 (fin 0).2.1 (fin 0).2.2
/-- _law_take(box, below): a drawn number below, the box goes on -/
def spTake (K : PySem.W.Frag) : Sp := fun vs H Q _ => ∃ (b : Addr) (c0 c1 c2 n : Int), vs = [.ref b, .int n] ∧ H b = some (.lst (boxV c0 c1 c2)) ∧ 0 ≤ c0 ∧ 0 ≤ c1 ∧ c1 < 2 ^ 62 ∧ 0 ≤ c2 ∧ c2 < 2 ^ 60 ∧ 1 ≤ n ∧ n.natAbs < 2 ^ 8000 ∧
  ∀ r d0 d2, 0 ≤ r → r < n → 0 ≤ d0 → 0 ≤ d2 → d2 ≤ c2 + 1 → Q (.int r) (upd H b (.lst (boxV d0 c1 d2)))
theorem ok_take {f : Addr} {fd : FuncData} {k : Nat} (F : Fun K "_law_take" "_law_take" s_w_take f fd) (m_int : mg "int" = none) : FnOk P w K mg base CX0 (k + 1) f fd ["_law_box_here", "_law_below"] (spTake K) := by
  refine F.ok sc_w_take (fun vs H Q E h => ?_) (fun cdv A outer s H vs Q E hr h => ?_)
  · obtain ⟨b, c0, c1, c2, n, rfl, _⟩ := h
    rfl
  · obtain ⟨b, c0, c1, c2, n, rfl, hb, c00, c10, c11, c20, c21, n0, n1, q⟩ := h
    refine ⟨_, (pss_cons (ps_if (pt_cmpR op_gt (pe_ix ix_list (pv 0) pe_int (fun _ _ => rfl)) pe_int (nomark _)) 
      (pss_cons (ps_set (i := 5) sc_w_take.nd rfl (Or.inl rfl) (pe_op op_mod (pe_callTy call_int1 (by rfl) m_int (by decide +kernel) (pa_cons (pe_ix ix_list (pv 0) pe_int (fun _ _ => rfl)) pa_nil)) (pv 1))) 
      (pss_cons (ps_asg (pe_op op_fdivW (pe_ix ix_list (pv 0) pe_int (fun _ _ => rfl)) (pv 1)) (pg_sub (pv 0) pe_int set_list)) 
      (pss_one (ps_ret (pv 5))))) pss_nil) 
    (pss_cons (ps_asg (pe_op op_add (pe_ix ix_list (pv 0) pe_int (fun _ _ => rfl)) pe_int) (pg_sub (pv 0) pe_int set_list)) 
    (pss_cons (ps_set (i := 2) sc_w_take.nd rfl (Or.inl rfl) (pe_op op_mod (pe_callTy call_int1 (by rfl) m_int (by decide +kernel) (pa_cons (pe_op op_mul (pe_op op_add (pe_ix ix_list (pv 0) pe_int (fun _ _ => rfl)) (pe_op op_mul pe_int (pe_ix ix_list (pv 0) pe_int (fun _ _ => rfl)))) (pe_op op_add pe_int (pe_ix ix_list (pv 0) pe_int (fun _ _ => rfl)))) pa_nil)) pe_int)) 
    (pss_cons (ps_set (i := 3) sc_w_take.nd rfl (Or.inl rfl) (pe_op op_add (pe_op op_mod (pe_callTy call_int1 (by rfl) m_int (by decide +kernel) (pa_cons (pv 2) pa_nil)) pe_int) pe_int)) 
    (pss_cons (ps_set (i := 4) sc_w_take.nd rfl (Or.inl rfl) (pe_op op_mod (pe_callTy call_int1 (by rfl) m_int (by decide +kernel) (pa_cons (pe_op op_mul (pe_op op_add (pe_op op_add (pv 2) (pe_ix ix_list (pv 0) pe_int (fun _ _ => rfl))) (pe_op op_fdivW (pe_ix ix_list (pv 0) pe_int (fun _ _ => rfl)) pe_int)) (pv 3)) pa_nil)) pe_int)) 
    (pss_one (ps_ret (pe_op op_mod (pe_callTy call_int1 (by rfl) m_int (by decide +kernel) (pa_cons (pe_op op_fdivW (pe_op op_mod (pe_callTy call_int1 (by rfl) m_int (by decide +kernel) (pa_cons (pe_op op_add (pe_op op_mul (pv 4) pe_int) (pv 2)) pa_nil)) pe_int) pe_int) pa_nil)) (pv 1))))))))), ?_⟩
    have hL : SqL K H b (boxV c0 c1 c2) := .inl (.inl hb)
    have small : ∀ j : Int, j = 1000003 ∨ j = 64 → CDivW 0 j := fun j h => by rcases h with h | h <;> (rw [h]; exact ⟨by decide, by decide +kernel⟩)
    walk_at "ev"
    refine ite2 (fun e => ?_) (fun e => ?_)
    · have e1 : 0 < c0 := of_decide_eq_true e
      walk_at "ev"
      refine ⟨wide_div (by omega) n1 (by decide) (by decide), ?_⟩
      walk_at "ev"
      refine ⟨b, _, _, 0, rfl, rfl, hb, rfl, ?_⟩
      refine ⟨_, rfl, ?_⟩
      exact q _ _ _ (Int.emod_nonneg _ (by omega)) (Int.emod_lt_of_pos _ (by omega)) (Int.ediv_nonneg c00 (by omega)) c20 (by omega)
    · walk_at "ev"
      refine ⟨b, _, _, 2, rfl, rfl, hb, rfl, ?_⟩
      have hb2 : (upd H b (.lst (boxV c0 c1 (c2 + 1)))) b = some (.lst (boxV c0 c1 (c2 + 1))) := upd_same
      have hL2 : SqL K (upd H b (.lst (boxV c0 c1 (c2 + 1)))) b (boxV c0 c1 (c2 + 1)) := .inl (.inl hb2)
      have fin : ∀ x : Int, Q (.int (x % n)) (upd H b (.lst (boxV c0 c1 (c2 + 1)))) := fun x => q _ _ _ (Int.emod_nonneg _ (by omega)) (Int.emod_lt_of_pos _ (by omega)) c00 (by omega) (by omega)
      show tSeq _ _ _ _ (upd H b (.lst (boxV c0 c1 (c2 + 1))))
      generalize upd H b (.lst (boxV c0 c1 (c2 + 1))) = H2 at hb2 hL2 fin
      walk_at "ev"
      exact fin _
end
end Jl

set_option Elab.async false
set_option linter.all false
set_option maxRecDepth 100000
set_option maxHeartbeats 4000000
namespace Jl
open PySem PySem.Spec PyProof.Rows L2
open Evl (sz_of sz_lt)
/-! ### heaps without some addresses -/
def cutS (S : List Addr) (H : Hp) : Hp := fun a => if a ∈ S then none else H a
theorem cutS_nil {H : Hp} : cutS [] H = H := by
  funext a
  unfold cutS
  rw [if_neg (List.not_mem_nil)]
theorem cutS_in {S : List Addr} {H : Hp} {a : Addr} (h : a ∈ S) : cutS S H a = none := by
  unfold cutS
  rw [if_pos h]
theorem cutS_out {S : List Addr} {H : Hp} {a : Addr} (h : a ∉ S) : cutS S H a = H a := by
  unfold cutS
  rw [if_neg h]
theorem cutS_some {S : List Addr} {H : Hp} {a : Addr} {o : HO} (h : cutS S H a = some o) : a ∉ S ∧ H a = some o := by
  by_cases q : a ∈ S
  · rw [cutS_in q] at h
    cases h
  · rw [cutS_out q] at h
    exact ⟨q, h⟩
theorem cutS_le {S : List Addr} {H : Hp} : Same (cutS S H) H := fun b o h => (cutS_some h).2
theorem cutS_mono {S : List Addr} {H H' : Hp} (e : Same H H') : Same (cutS S H) (cutS S H') := fun b o h => by
  obtain ⟨h1, h2⟩ := cutS_some h
  rw [cutS_out h1]
  exact e b o h2
theorem cutS_sub {S T : List Addr} {H : Hp} (h : ∀ a ∈ T, a ∈ S) : Same (cutS S H) (cutS T H) := fun b o q => by
  obtain ⟨h1, h2⟩ := cutS_some q
  rw [cutS_out fun z => h1 (h b z)]
  exact h2
theorem cutS_upd {S : List Addr} {H : Hp} {a : Addr} {o : HO} (h : a ∈ S) : cutS S (upd H a o) = cutS S H := by
  funext b
  by_cases q : b ∈ S
  · rw [cutS_in q, cutS_in q]
  · rw [cutS_out q, cutS_out q, upd_ne (fun e => q (by rw [e]; exact h))]
/-- a new object -/
theorem _root_.L2.Same.upd {H : Hp} {p : Addr} {o : HO} (h : H p = none) : Same H (upd H p o) := fun b x e => by
  rw [upd_ne (ne_of_none e h)]
  exact e
theorem _root_.L2.Same.mut {H H' : Hp} {p : Addr} {o : HO} (e : Same H H') (h : H p = none) : Same H (L2.upd H' p o) := fun a u ha => by
  rw [upd_ne (ne_of_none ha h)]
  exact e a u ha
def Trk (S : List Addr) (H : Hp) : Prop := ∀ a ∈ S, H a ≠ none
theorem Trk.nil {H : Hp} : Trk [] H := fun _ h => absurd h List.not_mem_nil
theorem Trk.mono {S : List Addr} {H H' : Hp} (t : Trk S H) (e : Same H H') : Trk S H' := fun a ha z => by
  cases q : H a with
  | none => exact t a ha q
  | some o =>
    rw [e a o q] at z
    cases z
theorem Trk.upd {S : List Addr} {H : Hp} {p : Addr} {o : HO} (t : Trk S H) : Trk S (L2.upd H p o) := fun a ha z => by
  by_cases e : a = p
  · rw [e, upd_same] at z
    cases z
  · rw [upd_ne e] at z
    exact t a ha z
theorem Trk.cons {S : List Addr} {H : Hp} {p : Addr} {o : HO} (t : Trk S H) (h : H p = some o) : Trk (p :: S) H := fun a ha z => by
  rcases List.mem_cons.mp ha with e | e
  · rw [e, h] at z
    cases z
  · exact t a e z
theorem Trk.out {S : List Addr} {H : Hp} {p : Addr} (t : Trk S H) (h : H p = none) : p ∉ S := fun z => t p z h
/-- a new object beside the cut -/
theorem cutS_new {S : List Addr} {H : Hp} {p : Addr} {o : HO} (t : Trk S H) (h : H p = none) : cutS S (L2.upd H p o) p = some o := by
  rw [cutS_out (t.out h), upd_same]
theorem cutS_none {S : List Addr} {H : Hp} {p : Addr} (h : H p = none) : cutS S H p = none := by
  by_cases q : p ∈ S
  · exact cutS_in q
  · rw [cutS_out q, h]
/-- a new object that will change goes into the cut -/
theorem cutS_cons {S : List Addr} {H : Hp} {p : Addr} {o : HO} (h : H p = none) : Same (cutS S H) (cutS (p :: S) (L2.upd H p o)) := fun b u q => by
  obtain ⟨h1, h2⟩ := cutS_some q
  have hb : b ≠ p := ne_of_none h2 h
  rw [cutS_out (fun z => by
    rcases List.mem_cons.mp z with e | e
    · exact hb e
    · exact h1 e), upd_ne hb]
  exact h2
theorem cutS_tail {S : List Addr} {H : Hp} {p : Addr} : Same (cutS (p :: S) H) (cutS S H) := cutS_sub fun _ h => List.mem_cons_of_mem _ h
/-! ### lists and tuples alike (f: a tuple) -/
def SqF (f : Bool) (K : PySem.W.Frag) (H : Hp) (a : Addr) (xs : List V) : Prop := if f = true then SqT K H a xs else SqL K H a xs
def seqO (f : Bool) (xs : List V) : HO := if f = true then .tup xs else .lst xs
def seqD (f : Bool) (ds : List PyData) : PyData := if f = true then .tuple ds else .list ds
theorem _root_.L2.Same.sqL {K : PySem.W.Frag} {H H' : Hp} {a : Addr} {xs : List V} (e : Same H H') (h : SqL K H a xs) : SqL K H' a xs := by
  rcases h with (h | ⟨o, h⟩) | h
  · exact .inl (.inl (e _ _ h))
  · exact .inl (.inr ⟨o, e _ _ h⟩)
  · exact .inr h
theorem _root_.L2.Same.sqT {K : PySem.W.Frag} {H H' : Hp} {a : Addr} {xs : List V} (e : Same H H') (h : SqT K H a xs) : SqT K H' a xs := by
  rcases h with (h | ⟨o, h⟩) | h
  · exact .inl (.inl (e _ _ h))
  · exact .inl (.inr ⟨o, e _ _ h⟩)
  · exact .inr h
theorem _root_.L2.Same.sqF {f : Bool} {K : PySem.W.Frag} {H H' : Hp} {a : Addr} {xs : List V} (e : Same H H') (h : SqF f K H a xs) : SqF f K H' a xs := by
  cases f with
  | true => exact e.sqT h
  | false => exact e.sqL h
theorem SqF.or {f : Bool} {K : PySem.W.Frag} {H : Hp} {a : Addr} {xs : List V} (h : SqF f K H a xs) : SqL K H a xs ∨ SqT K H a xs := by
  cases f with
  | true => exact .inr h
  | false => exact .inl h
theorem SqF.of {f : Bool} {K : PySem.W.Frag} {H : Hp} {a : Addr} {xs : List V} (h : H a = some (seqO f xs)) : SqF f K H a xs := by
  cases f with
  | true => exact .inl (.inl h)
  | false => exact .inl (.inl h)
theorem sql_of {K : PySem.W.Frag} {H : Hp} {a : Addr} {xs : List V} (h : H a = some (.lst xs)) : SqL K H a xs := .inl (.inl h)
theorem sqt_of {K : PySem.W.Frag} {H : Hp} {a : Addr} {xs : List V} (h : H a = some (.tup xs)) : SqT K H a xs := .inl (.inl h)
/-! ### data -/
section
variable {K : PySem.W.Frag} {H H' : Hp}
mutual
theorem dp_mono (e : Same H H') : ∀ (d : PyData) (v : V), Dp K H v d → Dp K H' v d
  | .none, _, h => by cases h; exact .non
  | .bool b, _, h => by cases h; exact .bl b
  | .int i, _, h => by cases h; exact .int i
  | .str x, _, h => by cases h; exact .str x
  | .list ds, _, h => by
    cases h with
    | lst hs ha => exact .lst (e.sqL hs) (dpa_mono e ds _ ha)
  | .tuple ds, _, h => by
    cases h with
    | tup hs ha => exact .tup (e.sqT hs) (dpa_mono e ds _ ha)
  | .dict _, _, h => by cases h
theorem dpa_mono (e : Same H H') : ∀ (ds : List PyData) (vs : List V), DpAll K H vs ds → DpAll K H' vs ds
  | [], _, h => by cases h; exact .nil
  | d :: ds, _, h => by
    cases h with
    | cons h1 h2 => exact .cons (dp_mono e d _ h1) (dpa_mono e ds _ h2)
end
theorem _root_.L2.Same.dp (e : Same H H') {v : V} {d : PyData} (h : Dp K H v d) : Dp K H' v d := dp_mono e d v h
theorem _root_.L2.Same.dpa (e : Same H H') {vs : List V} {ds : List PyData} (h : DpAll K H vs ds) : DpAll K H' vs ds := dpa_mono e ds vs h
theorem dpa_len : ∀ {vs : List V} {ds : List PyData}, DpAll K H vs ds → vs.length = ds.length
  | _, _, .nil => rfl
  | _, _, .cons _ h => by rw [List.length_cons, List.length_cons, dpa_len h]
theorem dpa_get : ∀ {vs : List V} {ds : List PyData} {i : Nat} {v : V}, DpAll K H vs ds → vs[i]? = some v → ∃ d, ds[i]? = some d ∧ Dp K H v d
  | _, _, _, _, .nil, h => by simp at h
  | _, _, 0, v, .cons h1 h2, h => by
    simp at h
    subst h
    exact ⟨_, rfl, h1⟩
  | _, _, i + 1, v, .cons h1 h2, h => by
    obtain ⟨d, e1, e2⟩ := dpa_get (i := i) h2 (by simpa using h)
    exact ⟨d, by simpa using e1, e2⟩
theorem dpa_get' : ∀ {vs : List V} {ds : List PyData} {i : Nat} {d : PyData}, DpAll K H vs ds → ds[i]? = some d → ∃ v, vs[i]? = some v ∧ Dp K H v d
  | _, _, _, _, .nil, h => by simp at h
  | _, _, 0, v, .cons h1 h2, h => by
    simp at h
    subst h
    exact ⟨_, rfl, h1⟩
  | _, _, i + 1, v, .cons h1 h2, h => by
    obtain ⟨d, e1, e2⟩ := dpa_get' (i := i) h2 (by simpa using h)
    exact ⟨d, by simpa using e1, e2⟩
theorem dpa_app : ∀ {vs ws : List V} {ds es : List PyData}, DpAll K H vs ds → DpAll K H ws es → DpAll K H (vs ++ ws) (ds ++ es)
  | _, _, _, _, .nil, h => h
  | _, _, _, _, .cons h1 h2, h => .cons h1 (dpa_app h2 h)
theorem dpa_one {v : V} {d : PyData} (h : Dp K H v d) : DpAll K H [v] [d] := .cons h .nil
theorem Dp.seq {f : Bool} {a : Addr} {xs : List V} {ds : List PyData} (h : SqF f K H a xs) (ha : DpAll K H xs ds) : Dp K H (.ref a) (seqD f ds) := by
  cases f with
  | true => exact .tup h ha
  | false => exact .lst h ha
theorem Dp.seq_of {f : Bool} {v : V} {ds : List PyData} (h : Dp K H v (seqD f ds)) : ∃ a xs, v = .ref a ∧ SqF f K H a xs ∧ DpAll K H xs ds := by
  cases f with
  | true =>
    have h : Dp K H v (.tuple ds) := h
    cases h with
    | tup hs ha => exact ⟨_, _, rfl, hs, ha⟩
  | false =>
    have h : Dp K H v (.list ds) := h
    cases h with
    | lst hs ha => exact ⟨_, _, rfl, hs, ha⟩
theorem dpa_strs : ∀ {xs : List Str}, DpAll K H (xs.map V.str) (xs.map PyData.str)
  | [] => .nil
  | x :: xs => .cons (.str x) dpa_strs
theorem dpa_strs_of : ∀ {vs : List V} {xs : List Str}, DpAll K H vs (xs.map PyData.str) → vs = xs.map V.str
  | _, [], .nil => rfl
  | _, x :: xs, .cons h1 h2 => by
    cases h1
    rw [dpa_strs_of h2]
    rfl
end
/-! ### what is walked, indexed: a list or a tuple -/
section
variable {X : Cx}
theorem pi_or {tg l : Expr} {w1 w2 : TI} (h1 : PI X tg l w1) (h2 : PI X tg l w2) : PI X tg l (fun σ H R => w1 σ H R ∨ w2 σ H R) := ⟨fun pins s σ H R I h => by
  rcases h with h | h
  · exact h1.run pins s σ H R I h
  · exact h2.run pins s σ H R I h⟩
def iSeq (K : PySem.W.Frag) (tl : TE) : TI := fun σ H R => iList K tl σ H R ∨ iTup K tl σ H R
theorem pi_seq {tg l : Expr} {tl : TE} (hl : PE X l tl) : PI X tg l (iSeq X.K tl) := pi_or (pi_list hl) (pi_tup hl)
theorem iSeq_at {K : PySem.W.Frag} {tl : TE} {σ : L2.St} {H H1 : Hp} {R : It → Hp → Prop} {a : Addr} {f : Bool} {xs : List V} (ht : ∀ R' : VK, R' (.ref a) H1 → tl σ H R') (hs : SqF f K H1 a xs)
    (q : ∀ J, Walk J xs.length (fun H => SqF f K H a xs) (YAt xs) → R J H1) : iSeq K tl σ H R := by
  cases f with
  | false => exact .inl (ht _ ⟨a, rfl, ⟨xs, hs⟩, q _ walk_list⟩)
  | true => exact .inr (ht _ ⟨a, rfl, ⟨xs, hs⟩, q _ walk_tup⟩)
def rIxF (K : PySem.W.Frag) : R2 := fun x y H Q => rIxL K x y H Q ∨ rIxT K x y H Q
theorem ix_lt : IxR X (rIxF X.K) := ix_list.or ix_tup
theorem rIxF_at {K : PySem.W.Frag} {f : Bool} {p : Addr} {xs : List V} {i : Int} {v : V} {H : Hp} {Q : VK} (h : SqF f K H p xs) (ha : atI xs i = some v) (q : Q v H) : rIxF K (.ref p) (.int i) H Q := by
  cases f with
  | false => exact .inl ⟨p, xs, i, v, rfl, rfl, h, ha, q⟩
  | true => exact .inr ⟨p, xs, i, v, rfl, rfl, h, ha, q⟩
theorem walk_zipTT {K : PySem.W.Frag} {a b : Addr} {xs ys : List V} (e : xs.length = ys.length) : Walk (RZ.ItzT K a b) xs.length (fun H => SqT K H a xs ∧ SqT K H b ys) (YPair (fun i => xs[i]?) (fun i => ys[i]?)) := by
  refine ⟨fun i _ hi q => ?_, fun _ q => ⟨xs, ys, q.1, q.2, .inl (Nat.le_refl _)⟩, fun i H v H' _ q y => ?_⟩
  · have h2 : i < ys.length := by omega
    exact ⟨xs, ys, xs[i], ys[i], q.1, q.2, by simp [hi], by simp [h2]⟩
  · obtain ⟨T, x, z, h1, h2, h3, h4, h5⟩ := y
    exact ⟨T, x, z, h1, h2, h3, h4 xs q.1, h5 ys q.2⟩
theorem iZip_at {K : PySem.W.Frag} {ta : TA} {σ : L2.St} {H H1 : Hp} {R : It → Hp → Prop} {a b : Addr} {f : Bool} {xs ys : List V} (ht : ∀ R' : List V → Hp → Prop, R' [.ref a, .ref b] H1 → ta σ H R') (h1 : SqF f K H1 a xs) (h2 : SqF f K H1 b ys) (el : xs.length = ys.length)
    (q : ∀ J, Walk J xs.length (fun H => SqF f K H a xs ∧ SqF f K H b ys) (YPair (fun i => xs[i]?) (fun i => ys[i]?)) → R J H1) : RZ.iZipA K ta σ H R := by
  refine ht _ ⟨a, b, xs, ys, rfl, ?_⟩
  cases f with
  | false => exact .inl ⟨h1, h2, q _ (walk_zip (by omega))⟩
  | true => exact .inr ⟨h1, h2, q _ (walk_zipTT el)⟩
/-! ### a loop, a comprehension by a walk -/
inductive ForP (wi : TI) (g : TG) (tb : TS) (D : Ends) (σ : L2.St) (H : Hp) : Prop
  | yes (h : tFor wi g tb D σ H)
  | no (h : False)
def tForX (wi : TI) (g : TG) (tb : TS) : TS := fun D σ H => ForP wi g tb D σ H
theorem ps_forX {st : Stmt} {wi : TI} {g : TG} {tb : TS} (h : PS X st (tFor wi g tb)) : PS X st (tForX wi g tb) := ⟨fun pins s σ H D I q => by
  cases q with
  | yes q => exact h.run pins s σ H D I q
  | no q => exact q.elim⟩
theorem for_of {wi : TI} {g : TG} {tb : TS} {D : Ends} {σ : L2.St} {H : Hp} (q : wi σ H fun J H1 => tFor (fun _ _ R => R J H1) g tb D σ H1) : tForX wi g tb D σ H := .yes q
inductive WhP (t : TT) (tb : TS) (D : Ends) (σ : L2.St) (H : Hp) : Prop
  | yes (h : tWhile t tb D σ H)
  | no (h : False)
def tWhileX (t : TT) (tb : TS) : TS := fun D σ H => WhP t tb D σ H
theorem ps_whileX {st : Stmt} {t : TT} {tb : TS} (h : PS X st (tWhile t tb)) : PS X st (tWhileX t tb) := ⟨fun pins s σ H D I q => by
  cases q with
  | yes q => exact h.run pins s σ H D I q
  | no q => exact q.elim⟩
inductive LcP (wi : TI) (g : TG) (tt : TT) (te : TE) (vs : List Nat) (σ : L2.St) (H : Hp) (Q : VK) : Prop
  | yes (h : tLc wi g tt te vs σ H Q)
  | no (h : False)
def tLcX (wi : TI) (g : TG) (tt : TT) (te : TE) (vs : List Nat) : TE := fun σ H Q => LcP wi g tt te vs σ H Q
theorem pe_lcX {e : Expr} {wi : TI} {g : TG} {tt : TT} {te : TE} {vs : List Nat} (h : PE X e (tLc wi g tt te vs)) : PE X e (tLcX wi g tt te vs) := ⟨fun pins s σ H Q I q => by
  cases q with
  | yes q => exact h.run pins s σ H Q I q
  | no q => exact q.elim⟩
theorem lc_of {wi : TI} {g : TG} {tt : TT} {te : TE} {vs : List Nat} {σ : L2.St} {H : Hp} {Q : VK} (q : tLc wi g tt te vs σ H Q) : tLcX wi g tt te vs σ H Q := .yes q
theorem ps_setLcX {st : Stmt} {i : Nat} {wi : TI} {g : TG} {tt : TT} {te : TE} {vs : List Nat} (h : PS X st (tAsg (tLc wi g tt te vs) (gName i))) : PS X st (tAsg (tLcX wi g tt te vs) (gName i)) := ⟨fun pins s σ H D I q => by
  have q : LcP wi g tt te vs σ H (fun x H1 => gName i x σ H1 D.nx) := q
  cases q with
  | yes q => exact h.run pins s σ H D I q
  | no q => exact q.elim⟩
theorem forR_it {J : It} {n : Nat} {G : Hp → Prop} {Y : Nat → Hp → V → Hp → Prop} (w : Walk J n G Y) {g : TG} {tb : TS} {D : Ends} {σ : L2.St} {H : Hp} (Pv : Nat → L2.St → Hp → Prop) (h0 : Pv 0 σ H) (hG : ∀ i σ H, i ≤ n → Pv i σ H → G H)
    (hs : ∀ i x σ H H', i < n → Pv i σ H → Y i H x H' → g x σ H' fun σ2 H2 => tb { D with nx := Pv (i + 1), ct := Pv (i + 1), bk := D.nx } σ2 H2) (hd : ∀ σ H, Pv n σ H → D.nx σ H) : tFor (fun _ _ R => R J H) g tb D σ H := for_it w Pv h0 hG hs hd
/-! ### isinstance -/
theorem tyx_list {K : PySem.W.Frag} {H : Hp} {a : Addr} {xs : List V} (h : SqL K H a xs) : TyX K H (.ref a) (.type "list") := by
  rcases h with (h | ⟨o, h⟩) | ⟨o, its, n, h, hc, _⟩
  · exact .base (.lst h)
  · exact .base (.frz h)
  · exact .kList h hc
theorem tyx_tup {K : PySem.W.Frag} {H : Hp} {a : Addr} {xs : List V} (h : SqT K H a xs) : TyX K H (.ref a) (.type "tuple") := by
  rcases h with (h | ⟨o, h⟩) | ⟨o, its, n, h, hc, _⟩
  · exact .base (.tup h)
  · exact .fTuple h
  · exact .kTuple h hc
def tyD : PyData → String
  | .none => "NoneType"
  | .bool _ => "bool"
  | .int _ => "int"
  | .str _ => "str"
  | .list _ => "list"
  | .tuple _ => "tuple"
  | .dict _ => "dict"
theorem tyx_dp {K : PySem.W.Frag} {H : Hp} {v : V} {d : PyData} (h : Dp K H v d) : TyX K H v (.type (tyD d)) := by
  cases h with
  | non => exact .base .non
  | bl b => exact .base (.bl b)
  | int i => exact .base (.int i)
  | str x => exact .base (.str x)
  | lst hs _ => exact tyx_list hs
  | tup hs _ => exact tyx_tup hs
/-- isinstance(x, (A, B)) of data -/
theorem isi2 {K : PySem.W.Frag} {H : Hp} {Q : VK} {v : V} {d : PyData} {p : Addr} {A B : String} {r : Bool} (h : Dp K H v d) (hp : H p = some (.tup [.ty A, .ty B])) (hk : ∀ t, t = tyD d → PySem.W.kitAny K (.type t) [.type A, .type B] = some r) (q : Q (.bl r) H) :
    rIsiT K [v, .ref p] H Q := ⟨v, p, _, _, _, r, rfl, hp, .cons (.ty _) (.cons (.ty _) .nil), tyx_dp h, hk _ rfl, q⟩
theorem isi1 {K : PySem.W.Frag} {H : Hp} {Q : VK} {v : V} {d : PyData} {A : String} {r : Bool} (h : Dp K H v d) (hk : ∀ t, t = tyD d → PySem.W.kitOne K (.type t) (.type A) = some r) (q : Q (.bl r) H) :
    rIsi K [v, .ty A] H Q := ⟨v, _, _, _, r, rfl, .ty _, tyx_dp h, hk _ rfl, q⟩
end
end Jl

set_option Elab.async false
set_option linter.all false
set_option maxRecDepth 100000
set_option maxHeartbeats 4000000
set_option pp.maxSteps 900
namespace Jl
open PySem PySem.Spec PyProof.Rows L2
open Evl (sz_of sz_lt)
local macro_rules | `(tactic| walk_at "at") => `(tactic| first | exact box0 | exact box1 | exact box2)
local macro_rules | `(tactic| walk_at "side") => `(tactic| first
  | (show (0 : Int) < _; decide)
  | (show (0 : Int) < _; omega)
  | exact ⟨by decide, by decide, by decide⟩
  | exact sz_of (Nat.le_of_ble_eq_true rfl)
  | exact rfl
  | exact Or.inl (by decide)
  | exact Or.inr (by decide)
  | exact Or.inr ⟨by omega, by omega⟩
  | exact Or.inl ⟨by omega, by omega⟩
  | exact ⟨by decide, by decide +kernel⟩)
local macro_rules | `(tactic| walk_at "ev1") => `(tactic| first
  | refine ⟨_, rfl, ?_⟩
  | refine ⟨_, _, rfl, rfl, ?_⟩
  | refine ⟨_, _, _, _, rfl, rfl, (by assumption), (by walk_at "at"), ?_⟩
  | refine Or.inl ⟨_, rfl, ?_⟩
  | refine Or.inr ⟨_, rfl, ?_⟩
  | refine ⟨(by walk_at "side"), ?_⟩)
local macro_rules | `(tactic| walk_at "ev") => `(tactic| repeat (walk_at "ev1"))

theorem szL {n : Nat} (h : n < 4000001) : n < sizeLine := Nat.lt_of_lt_of_le h (by decide)
/-! ### data of bounded depth and width -/
def okD : Nat → PyData → Prop
  | 0, _ => False
  | n + 1, .list ds => ds.length ≤ 4000000 ∧ ∀ d ∈ ds, okD n d
  | n + 1, .tuple ds => ds.length ≤ 4000000 ∧ ∀ d ∈ ds, okD n d
  | _ + 1, .dict _ => False
  | _ + 1, _ => True
theorem okD_seq {n : Nat} {f : Bool} {ds : List PyData} : okD (n + 1) (seqD f ds) ↔ ds.length ≤ 4000000 ∧ ∀ d ∈ ds, okD n d := by
  cases f <;> exact Iff.rfl
mutual
def listsD : PyData → PyData
  | .list ds => .list (listsA ds)
  | .tuple ds => .list (listsA ds)
  | .none => .none
  | .bool b => .bool b
  | .int i => .int i
  | .str x => .str x
  | .dict k => .dict k
def listsA : List PyData → List PyData
  | [] => []
  | d :: ds => listsD d :: listsA ds
end
theorem listsA_map : ∀ ds : List PyData, listsA ds = ds.map listsD
  | [] => rfl
  | d :: ds => by
    show listsD d :: listsA ds = listsD d :: ds.map listsD
    rw [listsA_map ds]
theorem listsD_seq {f : Bool} {ds : List PyData} : listsD (seqD f ds) = .list (ds.map listsD) := by
  cases f
  · show PyData.list (listsA ds) = _
    rw [listsA_map]
  · show PyData.list (listsA ds) = _
    rw [listsA_map]
theorem fnok_no {P : Program} {w : World} {K : PySem.W.Frag} {mg : Str → Option Value} {base : Heap} {CX : CXT} {k : Nat} {f : Addr} {fd : FuncData} {ps : List Str} : FnOk P w K mg base CX k f fd ps (fun _ _ _ _ => False) := ⟨fun _ _ _ _ h => h.elim, fun _ _ _ _ _ _ _ _ _ _ _ _ _ h => h.elim⟩
/-- an atom, or a row -/
theorem dp_cases {K : PySem.W.Frag} {H : Hp} {v : V} {d : PyData} (h : Dp K H v d) : (∃ f ds, d = seqD f ds) ∨ (PySem.W.kitAny K (.type (tyD d)) [.type "list", .type "tuple"] = some false ∧ listsD d = d) := by
  have no : ∀ s : String, kitB s "list" = some false → kitB s "tuple" = some false → PySem.W.kitAny K (.type s) [.type "list", .type "tuple"] = some false := fun s h1 h2 =>
    kitAny_cons (kit_ty h1) (fun _ => kitAny_cons (kit_ty h2) (fun _ => kitAny_nil) (fun z => nomatch z)) (fun z => nomatch z)
  cases h with
  | non => exact .inr ⟨no "NoneType" (by decide +kernel) (by decide +kernel), rfl⟩
  | bl b => exact .inr ⟨no "bool" (by decide +kernel) (by decide +kernel), rfl⟩
  | int i => exact .inr ⟨no "int" (by decide +kernel) (by decide +kernel), rfl⟩
  | str x => exact .inr ⟨no "str" (by decide +kernel) (by decide +kernel), rfl⟩
  | @lst a xs ds hs _ => exact .inl ⟨false, ds, rfl⟩
  | @tup a xs ds hs _ => exact .inl ⟨true, ds, rfl⟩
theorem kit_seq {K : PySem.W.Frag} {fb : Bool} {ds : List PyData} : PySem.W.kitAny K (.type (tyD (seqD fb ds))) [.type "list", .type "tuple"] = some true := by
  have h1 : PySem.W.kitAny K (.type "list") [.type "list", .type "tuple"] = some true := kitAny_cons (b := true) (kit_ty (by decide +kernel)) (fun z => nomatch z) (fun _ => rfl)
  have h2 : PySem.W.kitAny K (.type "tuple") [.type "list", .type "tuple"] = some true := kitAny_cons (b := false) (kit_ty (by decide +kernel)) (fun _ => kitAny_cons (b := true) (kit_ty (by decide +kernel)) (fun z => nomatch z) (fun _ => rfl)) (fun z => nomatch z)
  cases fb with
  | false => exact h1
  | true => exact h2
/-- a place that was free goes into the cut -/
theorem cutS_into {S : List Addr} {H H' : Hp} {p : Addr} (e : Same H H') (h : H p = none) : Same (cutS S H) (cutS (p :: S) H') := fun b o hb => by
  obtain ⟨h1, h2⟩ := cutS_some hb
  have nb : b ≠ p := ne_of_none h2 h
  rw [cutS_out (fun z => by
    rcases List.mem_cons.mp z with z | z
    · exact nb z
    · exact h1 z)]
  exact e b o h2
/-- a comprehension over data, its element told by a function of data -/
theorem lc_data {K : PySem.W.Frag} {tl te : TE} {j : Nat} {vs : List Nat} {σ : L2.St} {H H0 : Hp} {Q : VK} {a : Addr} {fb : Bool} {xs : List V} {ds : List PyData} {S : List Addr} (g : PyData → PyData)
    (ht : ∀ R' : VK, R' (.ref a) H0 → tl σ H R') (hs : SqF fb K H0 a xs) (ha : DpAll K (cutS S H0) xs ds) (hT : Trk S H0) (hl : ds.length ≤ 4000000)
    (hw : ∀ x, wipe ((wipe σ vs).set j (some x)) vs = wipe σ vs)
    (he : ∀ (x : V) (d : PyData) (H1 : Hp) (T : List Addr), d ∈ ds → Trk T H1 → Dp K (cutS T H1) x d → ∀ Q' : VK, (∀ H2 y, Same H1 H2 → Dp K (cutS T H2) y (g d) → Q' y H2) → te ((wipe σ vs).set j (some x)) H1 Q')
    (q : ∀ D ys H', Same H0 H' → H0 D = none → H' D = some (.lst ys) → DpAll K (cutS S H') ys (ds.map g) → Q (.ref D) H') : tLcX (iSeq K tl) (gName j) tYes te vs σ H Q := by
  have ll := dpa_len ha
  refine lc_of ?_
  refine iSeq_at ht hs fun J w D hD => ?_
  refine lc_it w (fun i H1 => ∃ ys, Same H0 H1 ∧ H1 D = some (.lst ys) ∧ DpAll K (cutS (D :: S) H1) ys ((ds.take i).map g)) ⟨[], .upd hD, upd_same, .nil⟩ (fun i H1 _ p => ?_) (fun i x H1 H1' hi p y => ?_) (fun H1 p => ?_)
  · obtain ⟨ys, e1, _⟩ := p
    exact e1.sqF hs
  · obtain ⟨ys, e1, e2, e3⟩ := p
    obtain ⟨rfl, hx⟩ := y
    obtain ⟨d, hd, hxd⟩ := dpa_get ha hx
    refine ⟨hw x, ?_⟩
    dsimp only [tYes]
    rw [if_pos rfl]
    have s3 : Same (cutS S H0) (cutS (D :: S) H1') := cutS_into e1 hD
    have hxd1 : Dp K (cutS (D :: S) H1') x d := s3.dp hxd
    refine he x d H1' (D :: S) (List.mem_of_getElem? hd) ((hT.mono e1).cons e2) hxd1 _ fun H2 y s2 hy => ?_
    refine ⟨ys, s2 _ _ e2, ?_, ys ++ [y], ?_, upd_same, ?_⟩
    · have := dpa_len e3
      rw [this, List.length_map, List.length_take]
      exact szL (by omega)
    · exact (e1.trans s2).mut hD
    · rw [cutS_upd List.mem_cons_self, List.take_add_one, hd, List.map_append]
      exact dpa_app ((cutS_mono s2).dpa e3) (dpa_one hy)
  · obtain ⟨ys, e1, e2, e3⟩ := p
    refine q D ys H1 e1 hD e2 ?_
    have e4 : (ds.take xs.length).map g = ds.map g := by rw [List.take_of_length_le (by omega)]
    rw [e4] at e3
    exact cutS_tail.dpa e3
end Jl

set_option Elab.async false
set_option linter.all false
set_option maxRecDepth 100000
set_option maxHeartbeats 4000000
set_option pp.maxSteps 900
namespace Jl
open PySem PySem.Spec PyProof.Rows L2
open Evl (sz_of sz_lt)
local macro_rules | `(tactic| walk_at "at") => `(tactic| first | exact box0 | exact box1 | exact box2)
local macro_rules | `(tactic| walk_at "side") => `(tactic| first
  | (show (0 : Int) < _; decide)
  | (show (0 : Int) < _; omega)
  | exact ⟨by decide, by decide, by decide⟩
  | exact sz_of (Nat.le_of_ble_eq_true rfl)
  | exact rfl
  | exact Or.inl (by decide)
  | exact Or.inr (by decide)
  | exact Or.inr ⟨by omega, by omega⟩
  | exact Or.inl ⟨by omega, by omega⟩
  | exact ⟨by decide, by decide +kernel⟩)
local macro_rules | `(tactic| walk_at "ev1") => `(tactic| first
  | refine ⟨_, rfl, ?_⟩
  | refine ⟨_, _, rfl, rfl, ?_⟩
  | refine ⟨_, _, _, _, rfl, rfl, (by assumption), (by walk_at "at"), ?_⟩
  | refine Or.inl ⟨_, rfl, ?_⟩
  | refine Or.inr ⟨_, rfl, ?_⟩
  | refine ⟨(by walk_at "side"), ?_⟩)
local macro_rules | `(tactic| walk_at "nrm") => `(tactic| dsimp only [tNil, tCons, tC, tCB])
local macro_rules | `(tactic| walk_at "ev") => `(tactic| repeat (walk_at "ev1"))

abbrev sc_w_same_N : List Str := ["_law_got", "_law_due", "_law_mine", "_law_its"]
abbrev s_w_same : Stmt := topS 15
theorem sc_w_same : FnScope ["_law_got", "_law_due", "_law_mine", "_law_its"] ["_law_got", "_law_due"] (defScope s_w_same) := ⟨rfl, rfl, rfl, by decide +kernel, rfl, by decide +kernel, by decide +kernel⟩
theorem kit_list {K : PySem.W.Frag} {fb : Bool} {ds : List PyData} : PySem.W.kitOne K (.type (tyD (seqD fb ds))) (.type "list") = some (!fb) := by
  have h1 : PySem.W.kitOne K (.type "list") (.type "list") = some true := kit_ty (by decide +kernel)
  have h2 : PySem.W.kitOne K (.type "tuple") (.type "list") = some false := kit_ty (by decide +kernel)
  cases fb with
  | false => exact h1
  | true => exact h2
theorem kit_tup {K : PySem.W.Frag} {fb : Bool} {ds : List PyData} : PySem.W.kitOne K (.type (tyD (seqD fb ds))) (.type "tuple") = some fb := by
  have h1 : PySem.W.kitOne K (.type "list") (.type "tuple") = some false := kit_ty (by decide +kernel)
  have h2 : PySem.W.kitOne K (.type "tuple") (.type "tuple") = some true := kit_ty (by decide +kernel)
  cases fb with
  | false => exact h1
  | true => exact h2
section
variable {P : Program} {w : World} {K : PySem.W.Frag} {mg : Str → Option Value} {base : Heap}
/-- _law_same(got, due) of equal data -/
def spSame (K : PySem.W.Frag) : Nat → Sp
  | 0 => fun _ _ _ _ => False
  | n + 1 => fun vs H Q _ => ∃ (x y : V) (d : PyData), vs = [x, y] ∧ Dp K H x d ∧ Dp K H y d ∧ okD (n + 1) d ∧ ∀ H', Same H H' → Q (.bl true) H'
theorem ok_same {f : Addr} {fd : FuncData} (F_w_same : Fun K "_law_same" "_law_same" s_w_same f fd) (g_w_same : mg "_law_same" = some (.ref f)) (b_w_same : Binds K fd ["_law_got", "_law_due"] []) (m_isinstance : mg "isinstance" = none) (m_list : mg "list" = none) (m_tuple : mg "tuple" = none)
    (m_bool : mg "bool" = none) (m_str : mg "str" = none) (m_int : mg "int" = none) (m_len : mg "len" = none) (m_all : mg "all" = none) (m_zip : mg "zip" = none) :
    ∀ n : Nat, FnOk P w K mg base CX0 n f fd ["_law_got", "_law_due"] (spSame K n)
  | 0 => fnok_no
  | n + 1 => by
    have G_w_same := ok_same F_w_same g_w_same b_w_same m_isinstance m_list m_tuple m_bool m_str m_int m_len m_all m_zip n
    refine F_w_same.ok sc_w_same (fun vs H Q E h => ?_) (fun cdv A outer s H vs Q E hr h => ?_)
    · obtain ⟨x, y, d, rfl, _⟩ := h
      rfl
    · obtain ⟨x, y, d, rfl, hx, hy, hk, q⟩ := h
      refine ⟨_, (pss_cons (ps_if (pt_val (pe_callB call_isiT (by rfl) m_isinstance (by decide +kernel) (pa_cons (pv 1) (pa_cons (pe_tup (pa_cons (pe_bltn (v := .ty "list") (u := .type "list") (by rfl) m_list (by decide +kernel) rfl) (pa_cons (pe_bltn (v := .ty "tuple") (u := .type "tuple") (by rfl) m_tuple (by decide +kernel) rfl) pa_nil))) pa_nil)))) 
      (pss_cons (ps_if (PW.pt (pw_or (pt_cmpR op_ne (pe_callB call_isi (by rfl) m_isinstance (by decide +kernel) (pa_cons (pv 0) (pa_cons (pe_bltn (v := .ty "list") (u := .type "list") (by rfl) m_list (by decide +kernel) rfl) pa_nil))) (pe_callB call_isi (by rfl) m_isinstance (by decide +kernel) (pa_cons (pv 1) (pa_cons (pe_bltn (v := .ty "list") (u := .type "list") (by rfl) m_list (by decide +kernel) rfl) pa_nil))) (nomark _)) (pw_or1 (pt_cmpR op_ne (pe_callB call_isi (by rfl) m_isinstance (by decide +kernel) (pa_cons (pv 0) (pa_cons (pe_bltn (v := .ty "tuple") (u := .type "tuple") (by rfl) m_tuple (by decide +kernel) rfl) pa_nil))) (pe_callB call_isi (by rfl) m_isinstance (by decide +kernel) (pa_cons (pv 1) (pa_cons (pe_bltn (v := .ty "tuple") (u := .type "tuple") (by rfl) m_tuple (by decide +kernel) rfl) pa_nil))) (nomark _))))) (pss_one (ps_ret pe_bl)) pss_nil) 
      (pss_one (ps_ret (pe_and (pe_cmpR op_eq (pe_callB call_len_seq (by rfl) m_len PySem.boot_len (pa_cons (pv 0) pa_nil)) (pe_callB call_len_seq (by rfl) m_len PySem.boot_len (pa_cons (pv 1) pa_nil)) (nomark _)) (pe_one (pe_callB (cr_all rfl) (by rfl) m_all (by decide +kernel) (pa_cons (pe_lcX (pe_lc (own := [("_law_mine", 2), ("_law_its", 3)]) (g := gTup K 2 (gCons (gName 2) (gCons (gName 3) gNil))) (tt := tYes) (by rfl) sc_w_same.nd (RZ.pi_zipA (by rfl) m_zip (pa_cons (pv 0) (pa_cons (pv 1) pa_nil))) (blkOk_by (own := [("_law_mine", 2), ("_law_its", 3)]) (N := sc_w_same_N) (sc := defScope s_w_same) (by decide +kernel)) (fun _ _ _ _ _ => pg_tup rfl (pgs_cons (pg_name (i := 2) sc_w_same.nd rfl (Or.inl rfl)) (pgs_cons (pg_name (i := 3) sc_w_same.nd rfl (Or.inl rfl)) pgs_nil))) (fun _ _ _ _ _ => pts_nil) (fun _ _ _ _ _ => (pe_call G_w_same hr (by rfl) g_w_same F_w_same.kp b_w_same .nil pass0 (pa_cons (pv 2) (pa_cons (pv 3) pa_nil)))))) pa_nil))))))) pss_nil) 
    (pss_cons (ps_if (PW.pt (pw_or (pt_cmpR op_isN (pv 1) pe_non (nomark _)) (pw_or1 (pt_val (pe_callB call_isiT (by rfl) m_isinstance (by decide +kernel) (pa_cons (pv 1) (pa_cons (pe_tup (pa_cons (pe_bltn (v := .ty "bool") (u := .type "bool") (by rfl) m_bool (by decide +kernel) rfl) (pa_cons (pe_bltn (v := .ty "str") (u := .type "str") (by rfl) m_str (by decide +kernel) rfl) pa_nil))) pa_nil))))))) (pss_one (ps_ret (pe_and (pe_cmpR op_eq (pv 0) (pv 1) (nomark _)) (pe_and (pe_cmpR op_eq (pe_callB call_isi (by rfl) m_isinstance (by decide +kernel) (pa_cons (pv 0) (pa_cons (pe_bltn (v := .ty "bool") (u := .type "bool") (by rfl) m_bool (by decide +kernel) rfl) pa_nil))) (pe_callB call_isi (by rfl) m_isinstance (by decide +kernel) (pa_cons (pv 1) (pa_cons (pe_bltn (v := .ty "bool") (u := .type "bool") (by rfl) m_bool (by decide +kernel) rfl) pa_nil))) (nomark _)) (pe_one (pe_cmpR op_eq (pe_cmpR op_isN (pv 0) pe_non (nomark _)) (pe_cmpR op_isN (pv 1) pe_non (nomark _)) (nomark _))))))) pss_nil) 
    (pss_one (ps_ret (pe_and (pe_callB call_isi (by rfl) m_isinstance (by decide +kernel) (pa_cons (pv 0) (pa_cons (pe_bltn (v := .ty "int") (u := .type "int") (by rfl) m_int (by decide +kernel) rfl) pa_nil))) (pe_and (pe_not (pe_callB call_isi (by rfl) m_isinstance (by decide +kernel) (pa_cons (pv 0) (pa_cons (pe_bltn (v := .ty "bool") (u := .type "bool") (by rfl) m_bool (by decide +kernel) rfl) pa_nil)))) (pe_one (pe_cmpR op_eq (pv 0) (pv 1) (nomark _))))))))), ?_⟩
      walk_at "ev"
      intro p hp
      have e1 : Same H (upd H p (.tup [.ty "list", .ty "tuple"])) := .upd hp
      have hp1 : (upd H p (.tup [.ty "list", .ty "tuple"])) p = some (.tup [.ty "list", .ty "tuple"]) := upd_same
      walk_at "nrm"
      generalize upd H p (.tup [.ty "list", .ty "tuple"]) = H1 at e1 hp1
      have hx1 := e1.dp hx
      have hy1 := e1.dp hy
      rcases dp_cases hy with ⟨fb, ds, rfl⟩ | ⟨hk0, hl⟩
      · refine isi2 hy1 hp1 (fun t e => by rw [e]; exact kit_seq) ?_
        refine ⟨_, rfl, iteT ?_⟩
        walk_at "ev"
        walk_at "nrm"
        refine isi1 hx1 (fun t e => by rw [e]; exact kit_list) ?_
        walk_at "ev"
        walk_at "nrm"
        refine isi1 hy1 (fun t e => by rw [e]; exact kit_list) ?_
        walk_at "ev"
        refine iteNS rfl ?_
        walk_at "ev"
        walk_at "nrm"
        refine isi1 hx1 (fun t e => by rw [e]; exact kit_tup) ?_
        walk_at "ev"
        walk_at "nrm"
        refine isi1 hy1 (fun t e => by rw [e]; exact kit_tup) ?_
        walk_at "ev"
        refine iteNS rfl ?_
        obtain ⟨a, xs, rfl, ha, hax⟩ := Dp.seq_of hx1
        obtain ⟨b, ys, rfl, hb, hby⟩ := Dp.seq_of hy1
        have lx := dpa_len hax
        have ly := dpa_len hby
        refine ⟨_, rfl, a, xs, rfl, ha.or, _, rfl, b, ys, rfl, hb.or, rfl, _, rfl, ?_⟩
        have el : V.int (xs.length : Nat) = V.int (ys.length : Nat) := by rw [lx, ly]
        rw [decide_eq_true el]
        refine iteT ?_
        obtain ⟨hk1, hk2⟩ := okD_seq.mp hk
        walk_at "nrm"
        refine lc_of ?_
        refine iZip_at (fun R' r => ⟨_, rfl, _, rfl, r⟩) ha hb (by omega) fun J w D hD => ?_
        refine lc_it w (fun i H2 => Same H1 H2 ∧ H2 D = some (.lst (List.replicate i (.bl true)))) ⟨.upd hD, upd_same⟩ (fun i H2 _ p => ⟨p.1.sqF ha, p.1.sqF hb⟩) (fun i v H2 H2' hi p yy => ?_) (fun H2 p => ?_)
        · obtain ⟨s1, hl⟩ := p
          obtain ⟨T, x1, x2, rfl, hTn, rfl, g1, g2⟩ := yy
          obtain ⟨d, hd, hd1⟩ := dpa_get hax g1
          obtain ⟨d', hd', hd2⟩ := dpa_get hby g2
          cases Option.some.inj (hd.symm.trans hd')
          have s2 : Same H1 (upd H2 T (.tup [x1, x2])) := s1.trans (.upd hTn)
          have hkd := hk2 d (List.mem_of_getElem? hd)
          refine ⟨T, [x1, x2], rfl, .inl (.inl upd_same), rfl, x1, [x2], rfl, x2, [], rfl, rfl, rfl, ?_⟩
          dsimp only [tYes]
          rw [if_pos rfl]
          refine ⟨_, rfl, _, rfl, ?_⟩
          cases n with
          | zero => exact hkd.elim
          | succ n =>
            refine ⟨x1, x2, d, rfl, s2.dp hd1, s2.dp hd2, hkd, fun H3 s3 => ⟨_, s3 _ _ ((Same.upd hTn) _ _ hl), ?_, s2.trans s3 |>.mut hD, ?_⟩⟩
            · rw [List.length_replicate]
              exact szL (by omega)
            · rw [upd_same, List.replicate_succ']
        · obtain ⟨s1, hl⟩ := p
          refine ⟨D, List.replicate xs.length true, rfl, sql_of (by rw [List.map_replicate]; exact hl), ?_⟩
          have e : (List.replicate xs.length true).all id = true := by
            rw [List.all_eq_true]
            intro z hz
            rw [List.eq_of_mem_replicate hz]
            rfl
          rw [e]
          exact q _ (e1.trans s1)
      · refine isi2 hy1 hp1 (fun t e => by rw [e]; exact hk0) ?_
        refine ⟨_, rfl, iteF ?_⟩
        cases hx with
        | non => 
          cases hy
          walk_at "ev"
          walk_at "nrm"
          refine isi1 (r := false) hx1 (fun t e => by rw [e]; exact kit_ty (a := "NoneType") (b := "bool") (by decide +kernel)) ?_
          walk_at "ev"
          walk_at "nrm"
          refine isi1 (r := false) hy1 (fun t e => by rw [e]; exact kit_ty (a := "NoneType") (b := "bool") (by decide +kernel)) ?_
          walk_at "ev"
          exact q _ e1
        | bl c => 
          cases hy
          walk_at "ev"
          intro p2 hp2
          have e2 : Same H1 (upd H1 p2 (.tup [.ty "bool", .ty "str"])) := .upd hp2
          have hp3 : (upd H1 p2 (.tup [.ty "bool", .ty "str"])) p2 = some (.tup [.ty "bool", .ty "str"]) := upd_same
          walk_at "nrm"
          refine isi2 (r := true) (e2.dp hy1) hp3 (fun t e => by rw [e]; exact kitAny_cons (kit_ty (a := "bool") (b := "bool") (r := true) (by decide +kernel)) (fun z => nomatch z) (fun _ => rfl)) ?_
          walk_at "ev"
          rw [if_pos (decide_eq_true rfl)]
          walk_at "ev"
          walk_at "nrm"
          refine isi1 (r := true) (e2.dp hx1) (fun t e => by rw [e]; exact kit_ty (a := "bool") (b := "bool") (by decide +kernel)) ?_
          walk_at "ev"
          walk_at "nrm"
          refine isi1 (r := true) (e2.dp hy1) (fun t e => by rw [e]; exact kit_ty (a := "bool") (b := "bool") (by decide +kernel)) ?_
          walk_at "ev"
          exact q _ (e1.trans e2)
        | str c => 
          cases hy
          walk_at "ev"
          intro p2 hp2
          have e2 : Same H1 (upd H1 p2 (.tup [.ty "bool", .ty "str"])) := .upd hp2
          have hp3 : (upd H1 p2 (.tup [.ty "bool", .ty "str"])) p2 = some (.tup [.ty "bool", .ty "str"]) := upd_same
          walk_at "nrm"
          refine isi2 (r := true) (e2.dp hy1) hp3 (fun t e => by rw [e]; exact kitAny_cons (kit_ty (a := "str") (b := "bool") (r := false) (by decide +kernel)) (fun _ => kitAny_cons (kit_ty (a := "str") (b := "str") (r := true) (by decide +kernel)) (fun z => nomatch z) (fun _ => rfl)) (fun z => nomatch z)) ?_
          walk_at "ev"
          rw [if_pos (decide_eq_true rfl)]
          walk_at "ev"
          walk_at "nrm"
          refine isi1 (r := false) (e2.dp hx1) (fun t e => by rw [e]; exact kit_ty (a := "str") (b := "bool") (by decide +kernel)) ?_
          walk_at "ev"
          walk_at "nrm"
          refine isi1 (r := false) (e2.dp hy1) (fun t e => by rw [e]; exact kit_ty (a := "str") (b := "bool") (by decide +kernel)) ?_
          walk_at "ev"
          exact q _ (e1.trans e2)
        | int c => 
          cases hy
          walk_at "ev"
          intro p2 hp2
          have e2 : Same H1 (upd H1 p2 (.tup [.ty "bool", .ty "str"])) := .upd hp2
          have hp3 : (upd H1 p2 (.tup [.ty "bool", .ty "str"])) p2 = some (.tup [.ty "bool", .ty "str"]) := upd_same
          walk_at "nrm"
          refine isi2 (r := false) (e2.dp hy1) hp3 (fun t e => by rw [e]; exact kitAny_cons (kit_ty (a := "int") (b := "bool") (r := false) (by decide +kernel)) (fun _ => kitAny_cons (kit_ty (a := "int") (b := "str") (r := false) (by decide +kernel)) (fun _ => kitAny_nil) (fun z => nomatch z)) (fun z => nomatch z)) ?_
          walk_at "ev"
          walk_at "nrm"
          refine isi1 (r := true) (e2.dp hx1) (fun t e => by rw [e]; exact kit_ty (a := "int") (b := "int") (by decide +kernel)) ?_
          walk_at "ev"
          walk_at "nrm"
          refine isi1 (r := false) (e2.dp hx1) (fun t e => by rw [e]; exact kit_ty (a := "int") (b := "bool") (by decide +kernel)) ?_
          walk_at "ev"
          rw [decide_eq_true rfl]
          exact q _ (e1.trans e2)
        | @lst a xs ds hs _ => cases (hk0.symm.trans (kit_seq (fb := false) (ds := ds)))
        | @tup a xs ds hs _ => cases (hk0.symm.trans (kit_seq (fb := true) (ds := ds)))
end
end Jl

set_option Elab.async false
set_option linter.all false
set_option maxRecDepth 100000
set_option maxHeartbeats 4000000
set_option pp.maxSteps 900
namespace Jl
open PySem PySem.Spec PyProof.Rows L2
open Evl (sz_of sz_lt)
local macro_rules | `(tactic| walk_at "at") => `(tactic| first | exact box0 | exact box1 | exact box2)
local macro_rules | `(tactic| walk_at "side") => `(tactic| first
  | (show (0 : Int) < _; decide)
  | (show (0 : Int) < _; omega)
  | exact ⟨by decide, by decide, by decide⟩
  | exact sz_of (Nat.le_of_ble_eq_true rfl)
  | exact rfl
  | exact Or.inl (by decide)
  | exact Or.inr (by decide)
  | exact Or.inr ⟨by omega, by omega⟩
  | exact Or.inl ⟨by omega, by omega⟩
  | exact ⟨by decide, by decide +kernel⟩)
local macro_rules | `(tactic| walk_at "ev1") => `(tactic| first
  | refine ⟨_, rfl, ?_⟩
  | refine ⟨_, _, rfl, rfl, ?_⟩
  | refine ⟨_, _, _, _, rfl, rfl, (by assumption), (by walk_at "at"), ?_⟩
  | refine ⟨_, _, rfl, (by assumption), ?_⟩
  | refine ⟨_, _, rfl, Or.inl (by assumption), ?_⟩
  | refine ⟨_, _, rfl, Or.inr (by assumption), ?_⟩
  | refine Or.inl ⟨_, rfl, ?_⟩
  | refine Or.inr ⟨_, rfl, ?_⟩
  | refine ⟨(by walk_at "side"), ?_⟩)
local macro_rules | `(tactic| walk_at "nrm") => `(tactic| dsimp only [tNil, tCons, tC, tCB])
local macro_rules | `(tactic| walk_at "ev") => `(tactic| repeat (walk_at "ev1"))

abbrev sc_w_cells_N : List Str := ["_law_script", "_law_most", "_law_cells_here", "_law_k", "_law_cell", "_law_at_so"]
abbrev s_w_cells : Stmt := topS 13
theorem sc_w_cells : FnScope ["_law_script", "_law_most", "_law_cells_here", "_law_k", "_law_cell", "_law_at_so"] ["_law_script", "_law_most"] (defScope s_w_cells) := ⟨rfl, rfl, rfl, by decide +kernel, rfl, by decide +kernel, by decide +kernel⟩
theorem ixN_nat {n j : Nat} (h : j < n) : ixN n (j : Int) = some j := by
  unfold ixN
  rw [if_pos (by omega), if_pos (by omega)]
  simp
theorem cutV_int {ns : List Int} {lo hi : Option Int} : cutV (ns.map V.int) lo hi = ((ns.drop (HT.sIx ns.length 0 lo)).take (HT.sIx ns.length ns.length hi - HT.sIx ns.length 0 lo)).map V.int := by
  unfold cutV
  rw [List.length_map, List.map_take, List.map_drop]
section
variable {P : Program} {w : World} {K : PySem.W.Frag} {mg : Str → Option Value} {base : Heap}
/-- _law_cells(script, most): a new list of at most so many numbers -/
def spCells (K : PySem.W.Frag) : Sp := fun vs H Q _ => ∃ (a : Addr) (ns : List Int) (m : Nat), vs = [.ref a, .int (m : Int)] ∧ SqL K H a (ns.map V.int) ∧ ns.length ≤ 63 ∧ 1 ≤ m ∧ m ≤ 60 ∧
  ∀ (H' : Hp) (p : Addr) (cs : List Int), Same H H' → H p = none → H' p = some (.lst (cs.map V.int)) → cs.length ≤ m → Q (.ref p) H'
theorem ok_cells {f : Addr} {fd : FuncData} {k : Nat} (F : Fun K "_law_cells" "_law_cells" s_w_cells f fd) (m_int : mg "int" = none) (m_list : mg "list" = none) (m_enumerate : mg "enumerate" = none) : FnOk P w K mg base CX0 (k + 1) f fd ["_law_script", "_law_most"] (spCells K) := by
  refine F.ok sc_w_cells (fun vs H Q E h => ?_) (fun cdv A outer s H vs Q E hr h => ?_)
  · obtain ⟨a, ns, m, rfl, _⟩ := h
    rfl
  · obtain ⟨a, ns, m, rfl, hS, hn, m1, m2, q⟩ := h
    refine ⟨_, (Evl.pss_cut (ps_set (i := 2) sc_w_cells.nd rfl (Or.inl rfl) (pe_orT (pe_callTy call_list_of (by rfl) m_list (by decide +kernel) (pa_cons (pe_slice sl_list (pv 0) po_none (po_some (pv 1))) pa_nil)) (pe_one (pe_lst (pa_cons pe_int pa_nil))))) 
    (pss_cons (ps_forX (ps_for PassesOwn.never rfl (pi_enum (by rfl) m_enumerate (pa_cons (pe_slice sl_list (pv 0) (po_some (pv 1)) (po_some pe_int)) pa_nil)) (pg_tup rfl (pgs_cons (pg_name (i := 3) sc_w_cells.nd rfl (Or.inl rfl)) (pgs_cons (pg_name (i := 4) sc_w_cells.nd rfl (Or.inl rfl)) pgs_nil))) 
      (pss_cons (ps_set (i := 5) sc_w_cells.nd rfl (Or.inl rfl) (pe_op op_mod (pe_callTy call_int1 (by rfl) m_int (by decide +kernel) (pa_cons (pv 3) pa_nil)) (pv 1))) 
      (pss_one (ps_asg (pe_op op_add (pe_ix ix_list (pv 2) (pv 5) (fun _ _ => rfl)) (pe_op op_mul (pv 4) (pe_op op_add (pv 3) pe_int))) (pg_sub (pv 2) (pv 5) set_list)))))) 
    (pss_one (ps_ret (pv 2))))), ?_⟩
    refine ⟨fun σ1 H1 => ∃ (p : Addr) (c0 : List Int), σ1 = [some (.ref a), some (.int (m : Int)), some (.ref p), none, none, none] ∧ Same H H1 ∧ H p = none ∧ H1 p = some (.lst (c0.map V.int)) ∧ c0.length ≤ m ∧ (m < ns.length → c0.length = m), ?_, ?_⟩
    · walk_at "ev"
      intro p hp
      rw [cutV_int, show HT.sIx ns.length 0 none = 0 from HT.sIx_none _ _, show HT.sIx ns.length ns.length (some (m : Int)) = min m ns.length from HT.sIx_nat _ _ _, Nat.sub_zero, List.drop_zero]
      walk_at "nrm"
      have s1 : Same H (upd H p (.lst ((ns.take (min m ns.length)).map V.int))) := .upd hp
      refine ⟨p, _, rfl, .inl (sql_of upd_same), fun l hl => ?_⟩
      have s2 := s1.trans (Same.upd (o := .lst ((ns.take (min m ns.length)).map V.int)) hl)
      refine ⟨_, .inl ⟨_, sql_of upd_same, rfl⟩, ite2 (fun e => ?_) (fun e => ?_)⟩
      · refine ⟨l, _, rfl, s2, s1.free hl, upd_same, ?_, fun h => ?_⟩
        · rw [List.length_take]
          omega
        · rw [List.length_take]
          omega
      · walk_at "ev"
        intro r hr
        refine ⟨r, [0], rfl, s2.trans (.upd hr), s2.free hr, upd_same, by simp; omega, fun h => (e ?_).elim⟩
        have : (ns.take (min m ns.length)).length ≠ 0 := by
          rw [List.length_take]
          omega
        cases hq : ns.take (min m ns.length) with
        | nil => rw [hq] at this; exact (this rfl).elim
        | cons => rfl
    · rintro σ1 H1 ⟨p, c0, rfl, s1, hp, hp1, hc0, hc1⟩
      have hS1 : SqL K H1 a (ns.map V.int) := s1.sqL hS
      refine for_of ?_
      walk_at "ev"
      intro p3 hp3
      rw [cutV_int]
      generalize hms : List.take _ (List.drop _ ns) = ms
      have hlen : ms.length ≤ ns.length - m := by
        rw [← hms, List.length_take, List.length_drop, show HT.sIx ns.length 0 (some (m : Int)) = min m ns.length from HT.sIx_nat _ _ _]
        omega
      have s3 : Same H1 (upd H1 p3 (.lst (ms.map V.int))) := .upd hp3
      refine ⟨p3, _, rfl, sql_of upd_same, ?_⟩
      refine forR_it (walk_enum (K := K) (a := p3) (xs := ms.map V.int)) (fun i σ H2 => ∃ x3 x4 x5 cs, σ = [some (.ref a), some (.int (m : Int)), some (.ref p), x3, x4, x5] ∧ Same H H2 ∧ H2 p = some (.lst (cs.map V.int)) ∧ cs.length = c0.length ∧ H2 p3 = some (.lst (ms.map V.int)))
        ⟨_, _, _, c0, rfl, s1.trans s3, s3 _ _ hp1, rfl, upd_same⟩ (fun i σ H2 _ h => ?_) (fun i v σ H2 H2' hi h y => ?_) (fun σ H2 h => ?_)
      · obtain ⟨_, _, _, _, _, _, _, _, h3⟩ := h
        exact sql_of h3
      · obtain ⟨x3, x4, x5, cs, rfl, s4, h4, hl4, h3⟩ := h
        obtain ⟨T, u1, u2, rfl, hT, rfl, g1, g2⟩ := y
        cases g1
        rw [List.length_map] at hi
        have g2 : (ms.map V.int)[i]? = some u2 := g2
        rw [List.getElem?_map, List.getElem?_eq_getElem hi] at g2
        cases g2
        have s5 : Same H2 (upd H2 T (.tup [.int (i : Int), .int ms[i]])) := .upd hT
        have hcm : cs.length = m := by rw [hl4]; exact hc1 (by omega)
        refine ⟨T, _, rfl, sqt_of upd_same, rfl, _, _, rfl, _, _, rfl, rfl, ?_⟩
        have hat : ((i : Int) % (m : Int)) = ((i % m : Nat) : Int) := rfl
        have hlt : i % m < cs.length := by rw [hcm]; exact Nat.mod_lt _ (by omega)
        have h6 := s5 _ _ h4
        have hS6 : SqL K (upd H2 T (.tup [.int (i : Int), .int ms[i]])) p (cs.map V.int) := sql_of h6
        have hi63 : (i : Int) < 63 := by omega
        have hix : ixN (cs.map V.int).length ((i : Int) % (m : Int)) = some (i % m) := by
          rw [hat, List.length_map]
          exact ixN_nat hlt
        walk_at "ev"
        refine ⟨p, _, _, _, rfl, rfl, hS6, at_of (v := .int cs[i % m]) hat (by rw [List.getElem?_map, List.getElem?_eq_getElem hlt]; rfl), ?_⟩
        walk_at "ev"
        refine ⟨p, _, _, i % m, rfl, rfl, h6, hix, ?_⟩
        have np : p3 ≠ p := fun z => by
          rw [z, hp1] at hp3
          cases hp3
        refine ⟨_, _, _, cs.set (i % m) (cs[i % m] + ms[i] * ((i : Int) + 2)), rfl, (s4.trans s5).mut hp, ?_, by rw [List.length_set]; exact hl4, ?_⟩
        · rw [upd_same, List.map_set]
        · rw [upd_ne np]
          exact s5 _ _ h3
      · obtain ⟨x3, x4, x5, cs, rfl, s4, h4, hl4, h3⟩ := h
        exact ⟨_, rfl, q _ _ cs s4 hp h4 (by omega)⟩
end
end Jl

set_option Elab.async false
set_option linter.all false
set_option maxRecDepth 100000
set_option maxHeartbeats 4000000
set_option pp.maxSteps 900
namespace Jl
open PySem PySem.Spec PyProof.Rows L2
open Evl (sz_of sz_lt)
local macro_rules | `(tactic| walk_at "at") => `(tactic| first | exact box0 | exact box1 | exact box2)
local macro_rules | `(tactic| walk_at "sq") => `(tactic| first | (show SqL _ _ _ _; assumption) | (show SqT _ _ _ _; assumption) | (show _ = some _; assumption))
local macro_rules | `(tactic| walk_at "side") => `(tactic| first
  | (show (0 : Int) < _; decide)
  | (show (0 : Int) < _; omega)
  | exact ⟨by decide, by decide, by decide⟩
  | exact sz_of (Nat.le_of_ble_eq_true rfl)
  | exact rfl
  | exact Or.inl (by decide)
  | exact Or.inr (by decide)
  | exact Or.inr ⟨by omega, by omega⟩
  | exact Or.inl ⟨by omega, by omega⟩
  | exact ⟨by decide, by decide +kernel⟩)
local macro_rules | `(tactic| walk_at "ev1") => `(tactic| first
  | refine ⟨_, rfl, ?_⟩
  | refine ⟨_, _, rfl, rfl, ?_⟩
  | refine ⟨_, _, _, _, rfl, rfl, (by walk_at "sq"), (by walk_at "at"), ?_⟩
  | refine ⟨_, _, rfl, (by walk_at "sq"), ?_⟩
  | refine ⟨_, _, rfl, Or.inl (by walk_at "sq"), ?_⟩
  | refine ⟨_, _, rfl, Or.inr (by walk_at "sq"), ?_⟩
  | refine Or.inl ⟨_, rfl, ?_⟩
  | refine Or.inr ⟨_, rfl, ?_⟩
  | refine ⟨(by walk_at "side"), ?_⟩
  | refine ⟨.inl ⟨rfl, _, (by walk_at "sq")⟩, ?_⟩
  | refine ⟨_, _, rfl, ?_⟩)
local macro_rules | `(tactic| walk_at "nrm") => `(tactic| dsimp only [tNil, tCons, tC, tCB])
local macro_rules | `(tactic| walk_at "ev") => `(tactic| repeat (walk_at "ev1"))

abbrev sc_w_pick_N : List Str := ["_law_box_here", "_law_pool", "_law_size_so", "_law_rest", "_law_some", "_law_turn"]
abbrev s_w_pick : Stmt := topS 14
theorem sc_w_pick : FnScope ["_law_box_here", "_law_pool", "_law_size_so", "_law_rest", "_law_some", "_law_turn"] ["_law_box_here", "_law_pool", "_law_size_so"] (defScope s_w_pick) := ⟨rfl, rfl, rfl, by decide +kernel, rfl, by decide +kernel, by decide +kernel⟩
theorem cutS_more {S T : List Addr} {H H' : Hp} (e : Same (cutS T H) (cutS T H')) (h : ∀ a ∈ T, a ∈ S) : Same (cutS S H) (cutS S H') := fun b o q => by
  obtain ⟨h1, h2⟩ := cutS_some q
  have h3 : b ∉ T := fun z => h1 (h b z)
  have := e b o (by rw [cutS_out h3]; exact h2)
  rw [cutS_out h3] at this
  rw [cutS_out h1]
  exact this
theorem era_map {α β : Type} (f : α → β) : ∀ (l : List α) (k : Nat), (l.map f).eraseIdx k = (l.eraseIdx k).map f
  | [], _ => rfl
  | _ :: _, 0 => rfl
  | a :: l, k + 1 => congrArg (f a :: ·) (era_map f l k)
theorem era_perm {α : Type} : ∀ (l : List α) (k : Nat) (h : k < l.length), (l[k] :: l.eraseIdx k).Perm l
  | a :: l, 0, _ => List.Perm.refl _
  | a :: l, k + 1, h => (List.Perm.swap a (l[k]'(by simpa using h)) (l.eraseIdx k)).trans (List.Perm.cons a (era_perm l k (by simpa using h)))
theorem small8000 {i : Int} (h : 0 ≤ i ∧ i ≤ 10 ^ 60) : i.natAbs < 2 ^ 8000 := by
  have h2 : i.natAbs < 2 ^ 250 := by omega
  exact Nat.lt_of_lt_of_le h2 (Nat.pow_le_pow_right (by decide) (by decide))
/-! ### the box as it goes on -/
def BoxL (bx : List V) (N : Nat) : Prop := ∃ c0 c1 c2 : Int, bx = boxV c0 c1 c2 ∧ 0 ≤ c0 ∧ 0 ≤ c1 ∧ c1 < 2 ^ 62 ∧ 0 ≤ c2 ∧ c2 ≤ N
theorem BoxL.mono {bx : List V} {N M : Nat} (h : BoxL bx N) (e : N ≤ M) : BoxL bx M := by
  obtain ⟨c0, c1, c2, rfl, h1, h2, h3, h4, h5⟩ := h
  exact ⟨c0, c1, c2, rfl, h1, h2, h3, h4, by omega⟩
def spTake2 : Sp := fun vs H Q _ => ∃ (b : Addr) (n : Int) (bx : List V) (N : Nat), vs = [.ref b, .int n] ∧ H b = some (.lst bx) ∧ BoxL bx N ∧ N < 2 ^ 60 ∧ 1 ≤ n ∧ n.natAbs < 2 ^ 8000 ∧
  ∀ r bx', 0 ≤ r → r < n → BoxL bx' (N + 1) → Q (.int r) (upd H b (.lst bx'))
section
variable {P : Program} {w : World} {K : PySem.W.Frag} {mg : Str → Option Value} {base : Heap}
theorem ok_take2 {f : Addr} {fd : FuncData} {k : Nat} (G : FnOk P w K mg base CX0 k f fd ["_law_box_here", "_law_below"] (spTake K)) : FnOk P w K mg base CX0 k f fd ["_law_box_here", "_law_below"] spTake2 :=
  G.imp fun vs H Q E h => by
    obtain ⟨b, n, bx, N, rfl, hb, ⟨c0, c1, c2, rfl, h1, h2, h3, h4, h5⟩, hN, n1, n2, q⟩ := h
    exact ⟨b, c0, c1, c2, n, rfl, hb, h1, h2, h3, h4, by omega, n1, n2, fun r d0 d2 r0 r1 d00 d20 d21 => q r _ r0 r1 ⟨d0, c1, d2, rfl, d00, h2, h3, d20, by omega⟩⟩
/-- _law_pick(box, pool, size): some of the pool, each once -/
def spPick (K : PySem.W.Frag) : Sp := fun vs H Q _ => ∃ (b a : Addr) (n : Int) (bx : List V) (N : Nat) (xs : List Str), vs = [.ref b, .ref a, .int n] ∧ H b = some (.lst bx) ∧ BoxL bx N ∧ N + xs.length < 2 ^ 60 ∧ SqL K H a (xs.map V.str) ∧ xs.length ≤ 1000 ∧ 0 ≤ n ∧ n < 2 ^ 60 ∧
  ∀ (H' : Hp) (q : Addr) (ys rs : List Str) (bx' : List V), (ys ++ rs).Perm xs → ys.length = min n.toNat xs.length → H q = none → H' q = some (.lst (ys.map V.str)) → H' b = some (.lst bx') → BoxL bx' (N + ys.length) → Same (cutS [b] H) (cutS [b] H') → Q (.ref q) H'
theorem ok_pick {f fT : Addr} {fd fdT : FuncData} {k : Nat} (F : Fun K "_law_pick" "_law_pick" s_w_pick f fd) (G_w_take : FnOk P w K mg base CX0 k fT fdT ["_law_box_here", "_law_below"] spTake2) (g_w_take : mg "_law_take" = some (.ref fT)) (F_w_take : Fun K "_law_take" "_law_take" s_w_take fT fdT) (b_w_take : Binds K fdT ["_law_box_here", "_law_below"] [])
    (m_list : mg "list" = none) (m_range : mg "range" = none) (m_min : mg "min" = none) (m_len : mg "len" = none) : FnOk P w K mg base CX0 (k + 1) f fd ["_law_box_here", "_law_pool", "_law_size_so"] (spPick K) := by
  refine F.ok sc_w_pick (fun vs H Q E h => ?_) (fun cdv A outer s H vs Q E hr h => ?_)
  · obtain ⟨b, a, n, bx, N, xs, rfl, _⟩ := h
    rfl
  · obtain ⟨b, a, n, bx, N, xs, rfl, hb, hB, hN, hA, hx, n0, n1, q⟩ := h
    refine ⟨_, (pss_cons (ps_par (i := 3) (j := 4) (by rfl) sc_w_pick.nd rfl rfl (by decide) rfl rfl (pa_cons (pe_callTy call_list_of (by rfl) m_list (by decide +kernel) (pa_cons (pv 1) pa_nil)) (pa_cons (pe_lst pa_nil) pa_nil)) (by rfl)) 
    (pss_cons (ps_forX (ps_for PassesOwn.never rfl (pi_range1 (by rfl) m_range (pa_cons (pe_callB (call_min2 rfl) (by rfl) m_min (by decide +kernel) (pa_cons (pv 2) (pa_cons (pe_callB call_len_seq (by rfl) m_len PySem.boot_len (pa_cons (pv 3) pa_nil)) pa_nil))) pa_nil)) (pg_name (i := 5) sc_w_pick.nd rfl (Or.inl rfl)) (pss_one (ps_expr (pe_bm PySem.F.plainAttrs_list PySem.F.slot_list_append PySem.F.type_list_append mt_append (pv 4) (pa_cons (pe_bm PySem.F.plainAttrs_list PySem.F.slot_list_pop PySem.F.type_list_pop mt_popAt (pv 3) (pa_cons (pe_call G_w_take hr (by rfl) g_w_take F_w_take.kp b_w_take .nil pass0 (pa_cons (pv 0) (pa_cons (pe_callB call_len_seq (by rfl) m_len PySem.boot_len (pa_cons (pv 3) pa_nil)) pa_nil))) pa_nil)) pa_nil)))))) 
    (pss_one (ps_ret (pv 4))))), ?_⟩
    walk_at "ev"
    intro l hl
    walk_at "ev"
    intro p hp
    walk_at "ev"
    refine for_of ?_
    have nbl : l ≠ b := fun z => by
      rw [z, hb] at hl
      cases hl
    have s1 : Same H (upd H l (.lst (xs.map V.str))) := .upd hl
    have s2 : Same (upd H l (.lst (xs.map V.str))) (upd (upd H l (.lst (xs.map V.str))) p (.lst [])) := .upd hp
    have hl2 := s2 _ _ (upd_same (H := H) (a := l) (o := .lst (xs.map V.str)))
    have hp2 : (upd (upd H l (.lst (xs.map V.str))) p (.lst [])) p = some (.lst []) := upd_same
    have s12 := s1.trans s2
    have hpl : p ≠ l := fun z => by
      rw [z, upd_same] at hp
      cases hp
    have hpb : p ≠ b := fun z => by
      rw [z, upd_ne nbl.symm, hb] at hp
      cases hp
    have hp0 : H p = none := s1.free hp
    have hL2 : SqL K (upd (upd H l (.lst (xs.map V.str))) p (.lst [])) l (xs.map V.str) := sql_of hl2
    show iRng1 _ _ (upd (upd H l (.lst (xs.map V.str))) p (.lst [])) _
    generalize upd (upd H l (.lst (xs.map V.str))) p (.lst []) = H2 at s12 hl2 hp2 hL2
    walk_at "ev"
    rw [List.length_map]
    have hj : (if (xs.length : Int) < n then (xs.length : Int) else n) = ((min n.toNat xs.length : Nat) : Int) := by
      split <;> omega
    rw [hj]
    refine ⟨by omega, by omega, ?_⟩
    rw [Int.toNat_natCast]
    refine forR_it (walk_range (lo := 0) (n := min n.toNat xs.length)) (fun i σ H3 => ∃ x5 ys rs bx', σ = [some (.ref b), some (.ref a), some (.int n), some (.ref l), some (.ref p), x5] ∧ H3 l = some (.lst (rs.map V.str)) ∧ H3 p = some (.lst (ys.map V.str)) ∧ H3 b = some (.lst bx') ∧ BoxL bx' (N + i) ∧ (ys ++ rs).Perm xs ∧ ys.length = i ∧ Same (cutS [b] H) H3)
      ⟨_, [], xs, bx, rfl, hl2, hp2, s12 _ _ hb, hB, List.Perm.refl _, rfl, cutS_le.trans s12⟩ (fun _ _ _ _ _ => trivial) (fun i v σ H3 H3' hi h y => ?_) (fun σ H3 h => ?_)
    · obtain ⟨x5, ys, rs, bx', rfl, h1, h2, h3, h4, h5, h6, h7⟩ := h
      obtain ⟨rfl, rfl⟩ := y
      have hlen := h5.length_eq
      rw [List.length_append] at hlen
      have hL : SqL K H3' l (rs.map V.str) := sql_of h1
      have hPl : SqL K H3' p (ys.map V.str) := sql_of h2
      walk_at "ev"
      have hrl : ((rs.map V.str).length : Int) = rs.length := by rw [List.length_map]
      have hr1 : 1 ≤ rs.length := by omega
      refine ⟨b, _, bx', N + i, rfl, h3, h4, by omega, by omega, small8000 (by rw [hrl]; omega), fun r bx2 r0 r1 hB2 => ?_⟩
      rw [hrl] at r1
      obtain ⟨k, rfl⟩ : ∃ k : Nat, r = (k : Int) := ⟨r.toNat, by omega⟩
      have hk : k < rs.length := by omega
      have hsi : seqIndex? (k : Int) (rs.map V.str).length = some k := (ixN_seq (ixN_nat (by rw [List.length_map]; exact hk))).1
      have h1' : (upd H3' b (.lst bx2)) l = some (.lst (rs.map V.str)) := by
        rw [upd_ne nbl]
        exact h1
      refine ⟨l, _, (k : Int), k, .str rs[k], rfl, rfl, h1', by omega, by omega, hsi, by rw [List.getElem?_map, List.getElem?_eq_getElem hk]; rfl, ?_⟩
      have h2' : (upd (upd H3' b (.lst bx2)) l (.lst ((rs.map V.str).eraseIdx k))) p = some (.lst (ys.map V.str)) := by
        rw [upd_ne hpl, upd_ne hpb]
        exact h2
      refine ⟨p, _, _, rfl, rfl, h2', ?_, ?_⟩
      · rw [List.length_map]
        exact sz_lt (by omega)
      · refine ⟨_, ys ++ [rs[k]], rs.eraseIdx k, bx2, rfl, ?_, ?_, ?_, hB2, ?_, ?_, ?_⟩
        · rw [upd_ne hpl.symm, upd_same, era_map]
        · rw [upd_same, List.map_append]
          rfl
        · rw [upd_ne hpb.symm, upd_ne nbl.symm, upd_same]
        · refine List.Perm.trans ?_ h5
          rw [List.append_assoc]
          exact List.Perm.append_left ys (era_perm rs k hk)
        · rw [List.length_append, h6]
          rfl
        · intro x o hx
          obtain ⟨g1, g2⟩ := cutS_some hx
          have gb : x ≠ b := fun z => g1 (by rw [z]; exact List.mem_cons_self)
          have gl : x ≠ l := ne_of_none g2 hl
          have gp : x ≠ p := ne_of_none g2 hp0
          rw [upd_ne gp, upd_ne gl, upd_ne gb]
          exact h7 x o hx
    · obtain ⟨x5, ys, rs, bx', rfl, h1, h2, h3, h4, h5, h6, h7⟩ := h
      refine ⟨_, rfl, ?_⟩
      refine q H3 p ys rs bx' h5 h6 hp0 h2 h3 (by rw [h6]; exact h4) fun x o hx => ?_
      obtain ⟨g1, g2⟩ := cutS_some hx
      rw [cutS_out g1]
      exact h7 x o hx
end
end Jl

set_option Elab.async false
set_option linter.all false
set_option maxRecDepth 100000
set_option maxHeartbeats 4000000
set_option pp.maxSteps 900
namespace Jl
open PySem PySem.Spec PyProof.Rows L2
open Evl (sz_of sz_lt)
local macro_rules | `(tactic| walk_at "at") => `(tactic| first | exact box0 | exact box1 | exact box2)
local macro_rules | `(tactic| walk_at "sq") => `(tactic| first | (show SqL _ _ _ _; assumption) | (show SqT _ _ _ _; assumption) | (show _ = some _; assumption))
local macro_rules | `(tactic| walk_at "side") => `(tactic| first
  | (show (0 : Int) < _; decide)
  | (show (0 : Int) < _; omega)
  | exact ⟨by decide, by decide, by decide⟩
  | exact sz_of (Nat.le_of_ble_eq_true rfl)
  | exact rfl
  | exact Or.inl (by decide)
  | exact Or.inr (by decide)
  | exact Or.inr ⟨by omega, by omega⟩
  | exact Or.inl ⟨by omega, by omega⟩
  | exact ⟨by decide, by decide +kernel⟩)
local macro_rules | `(tactic| walk_at "ev1") => `(tactic| first
  | refine ⟨_, rfl, ?_⟩
  | refine ⟨_, _, rfl, rfl, ?_⟩
  | refine ⟨_, _, _, _, rfl, rfl, (by walk_at "sq"), (by walk_at "at"), ?_⟩
  | refine ⟨_, _, rfl, (by walk_at "sq"), ?_⟩
  | refine ⟨_, _, rfl, Or.inl (by walk_at "sq"), ?_⟩
  | refine ⟨_, _, rfl, Or.inr (by walk_at "sq"), ?_⟩
  | refine Or.inl ⟨_, rfl, ?_⟩
  | refine Or.inr ⟨_, rfl, ?_⟩
  | refine ⟨(by walk_at "side"), ?_⟩
  | refine ⟨.inl ⟨rfl, _, (by walk_at "sq")⟩, ?_⟩
  | refine ⟨_, _, rfl, ?_⟩)
local macro_rules | `(tactic| walk_at "nrm") => `(tactic| dsimp only [tNil, tCons, tC, tCB])
local macro_rules | `(tactic| walk_at "ev") => `(tactic| repeat (walk_at "ev1"))
/-! ### range(n) as a value, list of it -/
section
variable {X : Cx}
theorem cr_range1 : CallR X (.type "range") (fun vs H Q => ∃ j, vs = [V.int j] ∧ ∀ p, H p = none → Q (.ref p) (upd H p (.rng 0 j))) := fun pins s σ H vs us Q I r h => by
  obtain ⟨j, rfl, q⟩ := h
  obtain ⟨u, rfl, ru⟩ := vals1 r
  obtain ⟨t, rfl⟩ := ru
  exact call_range_1 ⟨.ref _, _, I.laid (o := .rng 0 j) (t' := s.toks + 1 + 1) (fun _ _ e => Heap.get?_push_of_some _ e) (Nat.le_refl _) ⟨_, _, _, Heap.get?_push_size _ rfl⟩, rfl, q _ (I.hok.fresh (Nat.le_refl _))⟩
theorem vals_from {f : Nat → V} : ∀ {us : List Value} (k : Nat), (∀ i v, us[i]? = some v → RelV (f (k + i)) v) → Vals ((List.range us.length).map fun i => f (k + i)) us
  | [], _, _ => .nil
  | u :: us, k, h => by
    rw [List.length_cons, List.range_succ_eq_map, List.map_cons, List.map_map]
    refine .cons (h 0 u rfl) ?_
    have := vals_from (f := f) (us := us) (k + 1) fun i v hv => by
      have q := h (i + 1) v (by simpa using hv)
      have e : k + (i + 1) = k + 1 + i := by omega
      rw [e] at q
      exact q
    have e : ((fun i => f (k + i)) ∘ Nat.succ) = fun i => f (k + 1 + i) := by
      funext i
      show f (k + (i + 1)) = f (k + 1 + i)
      congr 1
      omega
    rw [e]
    exact this
theorem call_list_rng (hc : X.calm = true) : CallR X (.type "list") (fun xs H Q => ∃ (r : Addr) (n : Nat), xs = [.ref r] ∧ H r = some (.rng 0 (n : Int)) ∧ n ≤ 1000 ∧ ∀ p, H p = none → Q (.ref p) (upd H p (.lst ((List.range n).map fun i => V.int ((i : Nat) : Int))))) := fun pins s σ H xs us Q I r h => by
  obtain ⟨a, n, rfl, ha, hn, q⟩ := h
  obtain ⟨u, rfl, ru⟩ := vals1 r
  cases ru
  obtain ⟨t, u, v, ho⟩ := I.hok _ _ ha
  refine call_list_range (n := n) (I.ok.hd hc) (show IsRange s.heap a 0 (n : Int) 1 t u v from ho) (small_one (by omega) (by omega) (by omega) (by omega)) ?_ (by omega) fun h' tk acc c hk hS hi => ?_
  · rw [rangeSize_one]
    by_cases h0 : (0 : Int) < n
    · rw [if_pos h0]
      omega
    · rw [if_neg h0]
      omega
  · obtain ⟨h1, h2⟩ := hi
    have hl : acc.toList.length = n := by rw [Array.length_toList]; exact h1
    have hv : Vals ((List.range n).map fun i => V.int ((i : Nat) : Int)) acc.toList := by
      rw [← hl]
      have g := vals_from (f := fun i => V.int ((i : Nat) : Int)) (us := acc.toList) 0 fun i v hv => by
        have hi : i < n := by
          rw [← hl]
          exact (List.getElem?_eq_some_iff.mp hv).1
        obtain ⟨t, e2⟩ := h2 i v (by simpa using hv)
        refine ⟨t, ?_⟩
        rw [e2]
        congr 1
        omega
      have e : (fun i => V.int (((0 + i : Nat)) : Int)) = fun i => V.int ((i : Nat) : Int) := by
        funext i
        rw [Nat.zero_add]
      rw [e] at g
      exact g
    exact ⟨.ref _, _, I.laid (o := .lst ((List.range n).map fun i => V.int ((i : Nat) : Int))) (t' := tk) hk (Nat.le_refl _) ⟨by rw [List.length_map, List.length_range]; exact sz_of (by omega), acc.toList, c, hv, by simpa using hS⟩, rfl, q _ (I.hok.fresh (Nat.le_refl _))⟩
/-! ### a method of a tuple whose object is known -/
/-- the place of a tuple whose object is known -/
def TupO (H : Hp) (x : V) : Prop := ∃ (p : Addr) (ob : Obj) (xs : List V), x = .ref p ∧ H p = some (.frz ob (.tup xs)) ∧ ob.cls = .type "tuple" ∧ ob.dict = none
def tBMT (r : V → List V → Hp → VK → Prop) (to : TE) (t : TA) : TE := fun σ H Q => to σ H fun x H1 => TupO H1 x ∧ t σ H1 fun xs H2 => r x xs H2 Q
theorem pe_tm {o e : Expr} {es : List Expr} {to : TE} {t : TA} {name : Str} {apos cpos : Pos} {id : String} {r : V → List V → Hp → VK → Prop} (slot : Slot "tuple" name id) (hty : typeOf (.builtin id) = pure (.type "method_descriptor")) (hm : MtR X id r) (ho : PE X o to) (ha : PA X (e :: es) t)
    (h1 : attributeBase o name X.env (eval o X.env) = eval o X.env := by rfl)
    (h2 : ((backTo cpos (starEach (e :: es) X.env)).all (fun x => !x.1) && (backToKw cpos (keywordEach [] X.env)).all (fun x => x.1.isSome)
      && decide ((e :: es).length + ([] : List Keyword).length + (if ([] : List Keyword).isEmpty then 0 else 1) < 30)) = true := by rfl)
    (h3 : (apos.endLine == cpos.line) = true := by rfl) (h4 : starEach (e :: es) X.env = (false, eval e X.env) :: starEach es X.env := by rfl) (h5 : (backTo cpos (starEach es X.env)).any (·.1) = false := by rfl) :
    PE X (.Call (.Attribute o name apos) (e :: es) [] cpos) (tBMT r to t) := ⟨fun pins s σ H Q I h => wpAny_Call_method_late h1 h2 h3 rfl (thn (ho.run pins s σ H _ I h) fun v s1 ⟨x, H1, I1, r1, ⟨p, ob, xs, ex, hp, hc, hd⟩, q1⟩ => by
  subst ex
  obtain rfl : v = Value.ref p := r1
  have hob : s1.heap.get? p = some ob := (I1.hok p _ hp).1
  refine ⟨"tuple", id, PySem.F.plainAttrs_tuple, slot, hty, ⟨ob, hob, hc⟩, fun a ea => ?_, ?_⟩
  · cases ea
    exact ⟨ob, hob, hd⟩
  · have g := ha.run cpos pins s1 σ H1 _ I1 q1
    rw [h4] at g ⊢
    have h6 : ((false, eval e X.env) :: backTo cpos (starEach es X.env)).any (·.1) = false := by
      rw [List.any_cons, h5]
      rfl
    exact Calls.callWith_builtin h6 (Calls.evalArgs_plain (thn g fun us s2 ⟨vs, H2, I2, r2, q2⟩ => hm pins s2 σ H2 (.ref p) vs _ us Q I2 rfl r2 q2)))⟩
/-- tuple(a list): a tuple whose object is known -/
def rTupF (K : PySem.W.Frag) : List V → Hp → VK → Prop := fun xs H Q => ∃ (p : Addr) (ys : List V), xs = [.ref p] ∧ SqL K H p ys ∧ ∀ (l : Addr) (ob : Obj), H l = none → ob.cls = .type "tuple" → ob.dict = none → Q (.ref l) (upd H l (.frz ob (.tup ys)))
theorem call_tupF : CallR X (.type "tuple") (rTupF X.K) := fun pins s σ H xs us Q I r h => by
  obtain ⟨p, ys, rfl, hq, q⟩ := h
  obtain ⟨u, rfl, rx⟩ := vals1 r
  cases rx
  obtain ⟨its, rv, pl, hz⟩ := I.list hq
  have hlen := rv.length
  refine call_tuple_list pl.isList (fun h' kp => ?_) (by rw [List.size_toArray]; omega)
  have I1 : Inv X pins σ H { s with heap := h' } := I.kept (t' := s.toks) kp
  have hget : (h'.push { cls := .type "tuple", data := .seq its.toArray }).get? h'.objs.size = some { cls := .type "tuple", data := .seq its.toArray } := Heap.get?_push_size _ rfl
  exact ⟨.ref h'.objs.size, _, I1.laid (o := .frz { cls := .type "tuple", data := .seq its.toArray } (.tup ys)) (t' := s.toks) (fun b o e => Heap.get?_push_of_some _ e) (Nat.le_refl _) ⟨hget, hz, its, rv, ⟨_, hget, rfl, _, rfl⟩⟩, rfl, q _ _ (I1.hok.fresh (Nat.le_refl _)) rfl rfl⟩
end
end Jl

set_option Elab.async false
set_option linter.all false
set_option maxRecDepth 100000
set_option maxHeartbeats 4000000
set_option pp.maxSteps 900
namespace Jl
open PySem PySem.Spec PyProof.Rows L2
open Evl (sz_of sz_lt)
local macro_rules | `(tactic| walk_at "at") => `(tactic| first | exact box0 | exact box1 | exact box2)
local macro_rules | `(tactic| walk_at "sq") => `(tactic| first | (show SqL _ _ _ _; assumption) | (show SqT _ _ _ _; assumption) | (show _ = some _; assumption))
local macro_rules | `(tactic| walk_at "side") => `(tactic| first
  | (show (0 : Int) < _; decide)
  | (show (0 : Int) < _; omega)
  | exact ⟨by decide, by decide, by decide⟩
  | exact sz_of (Nat.le_of_ble_eq_true rfl)
  | exact rfl
  | exact Or.inl (by decide)
  | exact Or.inr (by decide)
  | exact Or.inr ⟨by omega, by omega⟩
  | exact Or.inl ⟨by omega, by omega⟩
  | exact ⟨by decide, by decide +kernel⟩)
local macro_rules | `(tactic| walk_at "ev1") => `(tactic| first
  | refine ⟨_, rfl, ?_⟩
  | refine ⟨_, _, rfl, rfl, ?_⟩
  | refine ⟨_, _, _, _, rfl, rfl, (by walk_at "sq"), (by walk_at "at"), ?_⟩
  | refine ⟨_, _, rfl, (by walk_at "sq"), ?_⟩
  | refine ⟨_, _, rfl, Or.inl (by walk_at "sq"), ?_⟩
  | refine ⟨_, _, rfl, Or.inr (by walk_at "sq"), ?_⟩
  | refine Or.inl ⟨_, rfl, ?_⟩
  | refine Or.inr ⟨_, rfl, ?_⟩
  | refine ⟨(by walk_at "side"), ?_⟩
  | refine ⟨.inl ⟨rfl, _, (by walk_at "sq")⟩, ?_⟩
  | refine ⟨_, _, rfl, ?_⟩)
local macro_rules | `(tactic| walk_at "nrm") => `(tactic| dsimp only [tNil, tCons, tC, tCB])
local macro_rules | `(tactic| walk_at "ev") => `(tactic| repeat (walk_at "ev1"))

abbrev sc_w_web_N : List Str := ["_law_box_here", "_law_size_so", "_law_most", "_law_high", "_law_tags", "_law_marks", "_law_found", "_law_mark", "_law_one", "_law_two", "_law_space"]
abbrev s_w_web : Stmt := topS 16
theorem sc_w_web : FnScope ["_law_box_here", "_law_size_so", "_law_most", "_law_high", "_law_tags", "_law_marks", "_law_found", "_law_mark", "_law_one", "_law_two", "_law_space"] ["_law_box_here", "_law_size_so", "_law_most", "_law_high"] (defScope s_w_web) := ⟨rfl, rfl, rfl, by decide +kernel, rfl, by decide +kernel, by decide +kernel⟩
/-- the first row of a pair stands as a tuple whose object is known -/
def TupW (H : Hp) (v : V) (xs : List V) : Prop := ∃ (a0 a1 a2 : Addr) (ob : Obj), v = .ref a0 ∧ H a0 = some (.tup [.ref a1, .ref a2]) ∧ H a1 = some (.frz ob (.tup xs)) ∧ ob.cls = .type "tuple" ∧ ob.dict = none
/-! ### nets as data -/
structure QD where
  nm : Str
  st : Str
  en : Str
  room : Int
  gap : Int
def QD.d (f : Bool) (q : QD) : PyData := seqD f [.str q.nm, .str q.st, .str q.en, .int q.room, .int q.gap]
def netD (f : Bool) (ws : List Str) (qs : List QD) : PyData := seqD f [seqD f (ws.map PyData.str), seqD f (qs.map (QD.d f))]
def poolW : List Str := [Str.ofString "a", Str.ofString "b", Str.ofString "c.x", Str.ofString "d2", Str.ofString "k", Str.ofString "node", Str.ofString "s", Str.ofString "t", Str.ofString "w.1", Str.ofString "z"]
def poolQ : List Str := [Str.ofString "a", Str.ofString "d2", Str.ofString "e", Str.ofString "f1", Str.ofString "in.a", Str.ofString "k", Str.ofString "m", Str.ofString "out", Str.ofString "p", Str.ofString "q", Str.ofString "s", Str.ofString "v", Str.ofString "x", Str.ofString "z"]
structure GoodNet (s m : Nat) (h : Int) (ws : List Str) (qs : List QD) : Prop where
  wn : ws.Nodup
  wo : sortedS ws = true
  w2 : 2 ≤ ws.length
  wl : ws.length ≤ s
  wp : ∀ x ∈ ws, x ∈ poolW
  qn : ∃ l : List Str, l.Nodup ∧ sortedS l = true ∧ (∀ x ∈ l, x ∈ poolQ) ∧ ∃ k, qs.map QD.nm = l.take k
  q1 : 1 ≤ qs.length
  ql : qs.length ≤ m
  qq : ∀ q ∈ qs, q.st ∈ ws ∧ q.en ∈ ws ∧ q.st ≠ q.en ∧ 1 ≤ q.gap ∧ q.gap ≤ q.room ∧ q.room ≤ h
theorem cutS_at {S : List Addr} {H : Hp} {a : Addr} {o : HO} (h : H a = some o) (n : a ∉ S) : cutS S H a = some o := by
  rw [cutS_out n]
  exact h
theorem not1 {a b : Addr} (h : a ≠ b) : a ∉ [b] := fun z => h (List.mem_singleton.mp z)
theorem not2 {a b c : Addr} (h : a ≠ b) (h2 : a ≠ c) : a ∉ [b, c] := fun z => by
  rcases List.mem_cons.mp z with e | e
  · exact h e
  · exact h2 (List.mem_singleton.mp e)
theorem cutV_map {α : Type} {f : α → V} {xs : List α} {k : Nat} : cutV (xs.map f) none (some (k : Int)) = (xs.take k).map f := by
  unfold cutV
  rw [List.length_map, show HT.sIx xs.length 0 none = 0 from HT.sIx_none _ _, show HT.sIx xs.length xs.length (some (k : Int)) = min k xs.length from HT.sIx_nat _ _ _, Nat.sub_zero, List.drop_zero, ← List.map_take]
  congr 1
  by_cases h : k ≤ xs.length
  · rw [Nat.min_eq_left h]
  · rw [Nat.min_eq_right (by omega), List.take_of_length_le (by omega), List.take_of_length_le (by omega)]
/-- where the loop of _law_web stands -/
structure WSt (K : PySem.W.Frag) (b p7 p9 : Addr) (H3 : Hp) (ls fs : List V) (ds : List PyData) (Hc : Hp) (bx : List V) (n : Nat) : Prop where
  hb : Hc b = some (.lst bx)
  hB : BoxL bx n
  hf : Hc p7 = some (.lst fs)
  hd : DpAll K (cutS [p7, b] Hc) fs ds
  hS : Same (cutS [b] H3) (cutS [p7, b] Hc)
  h9 : cutS [p7, b] Hc p9 = some (.lst ls)
theorem WSt.take {K : PySem.W.Frag} {b p7 p9 : Addr} {H3 : Hp} {ls fs : List V} {ds : List PyData} {Hc : Hp} {bx bx' : List V} {n : Nat} (w : WSt K b p7 p9 H3 ls fs ds Hc bx n) (n7 : p7 ≠ b) (h : BoxL bx' (n + 1)) : WSt K b p7 p9 H3 ls fs ds (upd Hc b (.lst bx')) bx' (n + 1) := by
  have e : cutS [p7, b] (upd Hc b (.lst bx')) = cutS [p7, b] Hc := cutS_upd (List.mem_cons_of_mem _ List.mem_cons_self)
  exact ⟨upd_same, h, by rw [upd_ne n7]; exact w.hf, by rw [e]; exact w.hd, by rw [e]; exact w.hS, by rw [e]; exact w.h9⟩
theorem WSt.same {K : PySem.W.Frag} {b p7 p9 : Addr} {H3 : Hp} {ls fs : List V} {ds : List PyData} {Hc Hd : Hp} {bx : List V} {n : Nat} (w : WSt K b p7 p9 H3 ls fs ds Hc bx n) (e : Same Hc Hd) : WSt K b p7 p9 H3 ls fs ds Hd bx n :=
  ⟨e _ _ w.hb, w.hB, e _ _ w.hf, (cutS_mono e).dpa w.hd, w.hS.trans (cutS_mono e), cutS_mono e _ _ w.h9⟩
theorem WSt.push {K : PySem.W.Frag} {b p7 p9 : Addr} {H3 : Hp} {ls fs : List V} {ds : List PyData} {Hc : Hp} {bx : List V} {n : Nat} {v : V} {d : PyData} (w : WSt K b p7 p9 H3 ls fs ds Hc bx n) (n7 : p7 ≠ b) (h : Dp K (cutS [p7, b] Hc) v d) :
    WSt K b p7 p9 H3 ls (fs ++ [v]) (ds ++ [d]) (upd Hc p7 (.lst (fs ++ [v]))) bx n := by
  have e : cutS [p7, b] (upd Hc p7 (.lst (fs ++ [v]))) = cutS [p7, b] Hc := cutS_upd List.mem_cons_self
  exact ⟨by rw [upd_ne n7.symm]; exact w.hb, w.hB, upd_same, by rw [e]; exact dpa_app w.hd (dpa_one h), by rw [e]; exact w.hS, by rw [e]; exact w.h9⟩
theorem WSt.mono {K : PySem.W.Frag} {b p7 p9 : Addr} {H3 : Hp} {ls fs : List V} {ds : List PyData} {Hc : Hp} {bx : List V} {n n' : Nat} (w : WSt K b p7 p9 H3 ls fs ds Hc bx n) (h : n ≤ n') : WSt K b p7 p9 H3 ls fs ds Hc bx n' := ⟨w.hb, w.hB.mono h, w.hf, w.hd, w.hS, w.h9⟩
theorem apart (L r1 r2 : Int) (h1 : 0 ≤ r1) (h2 : r1 < L) (h3 : 0 ≤ r2) (h4 : r2 < L - 1) : 0 ≤ (r1 + 1 + r2) % L ∧ (r1 + 1 + r2) % L < L ∧ (r1 + 1 + r2) % L ≠ r1 := by
  refine ⟨Int.emod_nonneg _ (by omega), Int.emod_lt_of_pos _ (by omega), ?_⟩
  by_cases h : r1 + 1 + r2 < L
  · rw [Int.emod_eq_of_lt (by omega) h]
    omega
  · rw [← Int.sub_emod_right (r1 + 1 + r2) L, Int.emod_eq_of_lt (by omega) (by omega)]
    omega
section
variable {P : Program} {w : World} {K : PySem.W.Frag} {mg : Str → Option Value} {base : Heap}
/-- _law_web(box, size, most, high): a drawn net -/
def spWeb (K : PySem.W.Frag) : Sp := fun vs H Q _ => ∃ (b : Addr) (s m : Nat) (h : Int) (bx : List V) (N : Nat), vs = [.ref b, .int (s : Int), .int (m : Int), .int h] ∧ H b = some (.lst bx) ∧ BoxL bx N ∧ N < 2 ^ 50 ∧ 2 ≤ s ∧ s ≤ 10 ∧ 1 ≤ m ∧ m ≤ 14 ∧ 1 ≤ h ∧ h ≤ 10 ^ 50 ∧
  ∀ (H' : Hp) (v : V) (ws : List Str) (qs : List QD) (bx' : List V), GoodNet s m h ws qs → Dp K (cutS [b] H') v (netD true ws qs) → TupW (cutS [b] H') v (ws.map V.str) → H' b = some (.lst bx') → BoxL bx' (N + 200) → Same (cutS [b] H) (cutS [b] H') → Q v H'
theorem ok_web {f fT fP : Addr} {fd fdT fdP : FuncData} {k : Nat} (F : Fun K "_law_web" "_law_web" s_w_web f fd) (G_w_take : FnOk P w K mg base CX0 k fT fdT ["_law_box_here", "_law_below"] spTake2) (g_w_take : mg "_law_take" = some (.ref fT)) (F_w_take : Fun K "_law_take" "_law_take" s_w_take fT fdT) (b_w_take : Binds K fdT ["_law_box_here", "_law_below"] [])
    (G_w_pick : FnOk P w K mg base CX0 k fP fdP ["_law_box_here", "_law_pool", "_law_size_so"] (spPick K)) (g_w_pick : mg "_law_pick" = some (.ref fP)) (F_w_pick : Fun K "_law_pick" "_law_pick" s_w_pick fP fdP) (b_w_pick : Binds K fdP ["_law_box_here", "_law_pool", "_law_size_so"] [])
    (m_sorted : mg "sorted" = none) (m_len : mg "len" = none) (m_int : mg "int" = none) (m_tuple : mg "tuple" = none) : FnOk P w K mg base CX0 (k + 1) f fd ["_law_box_here", "_law_size_so", "_law_most", "_law_high"] (spWeb K) := by
  refine F.ok sc_w_web (fun vs H Q E h => ?_) (fun cdv A outer s0 H vs Q E hr h => ?_)
  · obtain ⟨b, s, m, h, bx, N, rfl, _⟩ := h
    rfl
  · obtain ⟨b, s, m, h, bx, N, rfl, hb, hB, hN, s1, s2, m1, m2, h1, h2, q⟩ := h
    refine ⟨_, (pss_cons (ps_set (i := 4) sc_w_web.nd rfl (Or.inl rfl) (pe_call G_w_pick hr (by rfl) g_w_pick F_w_pick.kp b_w_pick .nil pass0 (pa_cons (pv 0) (pa_cons (pe_lst (pa_cons pe_str (pa_cons pe_str (pa_cons pe_str (pa_cons pe_str (pa_cons pe_str (pa_cons pe_str (pa_cons pe_str (pa_cons pe_str (pa_cons pe_str (pa_cons pe_str pa_nil))))))))))) (pa_cons (pe_op op_add pe_int (pe_call G_w_take hr (by rfl) g_w_take F_w_take.kp b_w_take .nil pass0 (pa_cons (pv 0) (pa_cons (pe_op op_sub (pv 1) pe_int) pa_nil)))) pa_nil))))) 
    (pss_cons (ps_set (i := 5) sc_w_web.nd rfl (Or.inl rfl) (pe_callB cr_sortedS (by rfl) m_sorted (by decide +kernel) (pa_cons (pe_call G_w_pick hr (by rfl) g_w_pick F_w_pick.kp b_w_pick .nil pass0 (pa_cons (pv 0) (pa_cons (pe_lst (pa_cons pe_str (pa_cons pe_str (pa_cons pe_str (pa_cons pe_str (pa_cons pe_str (pa_cons pe_str (pa_cons pe_str (pa_cons pe_str (pa_cons pe_str (pa_cons pe_str (pa_cons pe_str (pa_cons pe_str (pa_cons pe_str (pa_cons pe_str pa_nil))))))))))))))) (pa_cons (pv 2) pa_nil)))) pa_nil))) 
    (pss_cons (ps_set (i := 6) sc_w_web.nd rfl (Or.inl rfl) (pe_lst pa_nil)) 
    (pss_cons (ps_forX (ps_for PassesOwn.never rfl (pi_list (pe_slice sl_list (pv 5) po_none (po_some (pe_op op_add pe_int (pe_call G_w_take hr (by rfl) g_w_take F_w_take.kp b_w_take .nil pass0 (pa_cons (pv 0) (pa_cons (pv 2) pa_nil))))))) (pg_name (i := 7) sc_w_web.nd rfl (Or.inl rfl)) 
      (pss_cons (ps_set (i := 8) sc_w_web.nd rfl (Or.inl rfl) (pe_call G_w_take hr (by rfl) g_w_take F_w_take.kp b_w_take .nil pass0 (pa_cons (pv 0) (pa_cons (pe_callB call_len_seq (by rfl) m_len PySem.boot_len (pa_cons (pv 4) pa_nil)) pa_nil)))) 
      (pss_cons (ps_set (i := 9) sc_w_web.nd rfl (Or.inl rfl) (pe_op op_mod (pe_callTy call_int1 (by rfl) m_int (by decide +kernel) (pa_cons (pe_op op_add (pe_op op_add (pv 8) pe_int) (pe_call G_w_take hr (by rfl) g_w_take F_w_take.kp b_w_take .nil pass0 (pa_cons (pv 0) (pa_cons (pe_op op_sub (pe_callB call_len_seq (by rfl) m_len PySem.boot_len (pa_cons (pv 4) pa_nil)) pe_int) pa_nil)))) pa_nil)) (pe_callB call_len_seq (by rfl) m_len PySem.boot_len (pa_cons (pv 4) pa_nil)))) 
      (Evl.pss_cut (ps_if (PW.pt (pw_and (pt_cmpR op_gt (pv 8) (pv 9) (nomark _)) (pw_and1 (pt_cmpR op_gt (pe_call G_w_take hr (by rfl) g_w_take F_w_take.kp b_w_take .nil pass0 (pa_cons (pv 0) (pa_cons pe_int pa_nil))) pe_int (nomark _))))) (pss_one (ps_par (i := 8) (j := 9) (by rfl) sc_w_web.nd rfl rfl (by decide) rfl rfl (pa_cons (pv 9) (pa_cons (pv 8) pa_nil)) (by rfl))) pss_nil) 
      (pss_cons (ps_set (i := 10) sc_w_web.nd rfl (Or.inl rfl) (pe_op op_add pe_int (pe_call G_w_take hr (by rfl) g_w_take F_w_take.kp b_w_take .nil pass0 (pa_cons (pv 0) (pa_cons (pv 3) pa_nil))))) 
      (pss_one (ps_expr (pe_bm PySem.F.plainAttrs_list PySem.F.slot_list_append PySem.F.type_list_append mt_append (pv 6) (pa_cons (pe_tup (pa_cons (pv 7) (pa_cons (pe_ix ix_list (pv 4) (pv 8) (fun _ _ => rfl)) (pa_cons (pe_ix ix_list (pv 4) (pv 9) (fun _ _ => rfl)) (pa_cons (pv 10) (pa_cons (pe_op op_add pe_int (pe_call G_w_take hr (by rfl) g_w_take F_w_take.kp b_w_take .nil pass0 (pa_cons (pv 0) (pa_cons (pv 10) pa_nil)))) pa_nil)))))) pa_nil)))))))))) 
    (pss_one (ps_ret (pe_tup (pa_cons (pe_callTy call_tupF (by rfl) m_tuple (by decide +kernel) (pa_cons (pe_callB cr_sortedS (by rfl) m_sorted (by decide +kernel) (pa_cons (pv 4) pa_nil)) pa_nil)) (pa_cons (pe_callTy call_tuple_of (by rfl) m_tuple (by decide +kernel) (pa_cons (pv 6) pa_nil)) pa_nil))))))))), ?_⟩
    have t0 : Trk [b] H := Trk.cons Trk.nil hb
    walk_at "ev"
    intro p1 hp1
    have n1 : p1 ≠ b := fun z => by
      rw [z, hb] at hp1
      cases hp1
    have hb1 : (upd H p1 (.lst (poolW.map V.str))) b = some (.lst bx) := (Same.upd hp1) _ _ hb
    have hS1 : Same (cutS [b] H) (cutS [b] (upd H p1 (.lst (poolW.map V.str)))) := cutS_mono (.upd hp1)
    have hq1 : (upd H p1 (.lst (poolW.map V.str))) p1 = some (.lst (poolW.map V.str)) := upd_same
    show tCons _ _ _ (upd H p1 (.lst (poolW.map V.str))) _
    generalize upd H p1 (.lst (poolW.map V.str)) = H1 at hb1 hS1 hq1 ⊢
    walk_at "ev"
    refine ⟨b, (s : Int) - 1, bx, N, rfl, hb1, hB, by omega, by omega, small8000 (by omega), fun r bx1 r0 r1 hB1 => ?_⟩
    walk_at "ev"
    have hb2 : (upd H1 b (.lst bx1)) b = some (.lst bx1) := upd_same
    have hq2 : (upd H1 b (.lst bx1)) p1 = some (.lst (poolW.map V.str)) := by
      rw [upd_ne n1]
      exact hq1
    have hS2 : Same (cutS [b] H) (cutS [b] (upd H1 b (.lst bx1))) := by
      rw [cutS_upd List.mem_cons_self]
      exact hS1
    refine ⟨b, p1, 2 + r, bx1, N + 1, poolW, rfl, hb2, hB1, by show N + 1 + 10 < 2 ^ 60; omega, sql_of hq2, by decide, by omega, by omega, fun H3 p3 ts rs bx3 hperm hlen hp3 hq3 hb3 hB3 hS3 => ?_⟩
    have tl : ts.length = (2 + r).toNat := by
      rw [hlen]
      show min _ 10 = _
      omega
    have hS3' := hS2.trans hS3
    have n3 : p3 ≠ b := fun z => by
      rw [z, hb2] at hp3
      cases hp3
    have htn : ts.Nodup ∧ ∀ x ∈ ts, x ∈ poolW := by
      have hn : (ts ++ rs).Nodup := hperm.nodup_iff.mpr (by decide +kernel)
      exact ⟨(List.nodup_append.mp hn).1, fun x hx => hperm.mem_iff.mp (List.mem_append_left _ hx)⟩
    have hB3' : BoxL bx3 (N + 20) := hB3.mono (by omega)
    clear hlen hperm hB3 hS3 hB1 hB hq2 hq1 hb1 hS1 hS2 hp3 hb2
    show gName 4 (.ref p3) _ H3 _
    clear hp1 n1
    have hT3 : cutS [b] H3 p3 = some (.lst (ts.map V.str)) := cutS_at hq3 (not1 n3)
    have t3 : Trk [b] H3 := Trk.cons Trk.nil hb3
    walk_at "ev"
    intro p4 hp4
    have n4 : p4 ≠ b := fun z => by
      rw [z, hb3] at hp4
      cases hp4
    have hb4 : (upd H3 p4 (.lst (poolQ.map V.str))) b = some (.lst bx3) := (Same.upd hp4) _ _ hb3
    have hS4 : Same (cutS [b] H3) (cutS [b] (upd H3 p4 (.lst (poolQ.map V.str)))) := cutS_mono (.upd hp4)
    have hq4 : (upd H3 p4 (.lst (poolQ.map V.str))) p4 = some (.lst (poolQ.map V.str)) := upd_same
    show tCons _ _ _ (upd H3 p4 (.lst (poolQ.map V.str))) _
    generalize upd H3 p4 (.lst (poolQ.map V.str)) = H4 at hb4 hS4 hq4 ⊢
    walk_at "ev"
    refine ⟨b, p4, (m : Int), bx3, N + 20, poolQ, rfl, hb4, hB3', by show N + 20 + 14 < 2 ^ 60; omega, sql_of hq4, by decide, by omega, by omega, fun H5 p5 ms rs2 bx5 hperm2 hlen2 hp5 hq5 hb5 hB5 hS5 => ?_⟩
    have ml : ms.length = m := by
      rw [hlen2]
      show min _ 14 = _
      omega
    have hS5' := hS4.trans hS5
    have hmn : ms.Nodup ∧ ∀ x ∈ ms, x ∈ poolQ := by
      have hn : (ms ++ rs2).Nodup := hperm2.nodup_iff.mpr (by decide +kernel)
      exact ⟨(List.nodup_append.mp hn).1, fun x hx => hperm2.mem_iff.mp (List.mem_append_left _ hx)⟩
    have hB5' : BoxL bx5 (N + 40) := hB5.mono (by omega)
    clear hlen2 hperm2 hB5 hS5 hq4 hb4 hS4 hp5
    walk_at "ev"
    refine ⟨p5, ms, rfl, sql_of hq5, by omega, fun zs p6 hz1 hz2 hp6 => ?_⟩
    have zl : zs.length = m := by rw [hz1.length_eq, ml]
    have hzn : zs.Nodup ∧ ∀ x ∈ zs, x ∈ poolQ := ⟨hz1.nodup_iff.mpr hmn.1, fun x hx => hmn.2 x (hz1.mem_iff.mp hx)⟩
    have hb6 : (upd H5 p6 (.lst (zs.map V.str))) b = some (.lst bx5) := (Same.upd hp6) _ _ hb5
    have hS6 : Same (cutS [b] H3) (cutS [b] (upd H5 p6 (.lst (zs.map V.str)))) := hS5'.trans (cutS_mono (.upd hp6))
    have hq6 : (upd H5 p6 (.lst (zs.map V.str))) p6 = some (.lst (zs.map V.str)) := upd_same
    have n6 : p6 ≠ b := fun z => by
      rw [z, hb5] at hp6
      cases hp6
    clear hmn hz1 hq5 hp6 hS5' ml
    show gName 5 (.ref p6) _ (upd H5 p6 (.lst (zs.map V.str))) _
    generalize upd H5 p6 (.lst (zs.map V.str)) = H6 at hb6 hS6 hq6 ⊢
    clear hb5 hp4 n4
    walk_at "ev"
    intro p7 hp7
    have n7 : p7 ≠ b := fun z => by
      rw [z, hb6] at hp7
      cases hp7
    have hb7 : (upd H6 p7 (.lst [])) b = some (.lst bx5) := (Same.upd hp7) _ _ hb6
    have hq7 : (upd H6 p7 (.lst [])) p7 = some (.lst []) := upd_same
    have hS7 : Same (cutS [b] H3) (cutS [p7, b] (upd H6 p7 (.lst []))) := hS6.trans (cutS_cons hp7)
    have hM7 : cutS [p7, b] (upd H6 p7 (.lst [])) p6 = some (.lst (zs.map V.str)) := (cutS_cons (S := [b]) (o := .lst []) hp7) _ _ (cutS_at hq6 (not1 n6))
    show gName 6 (.ref p7) _ (upd H6 p7 (.lst [])) _
    generalize upd H6 p7 (.lst []) = H7 at hb7 hS7 hq7 hM7 ⊢
    clear hb6 hS6 hq6 hp7
    refine for_of ?_
    walk_at "ev"
    refine ⟨b, (m : Int), bx5, N + 40, rfl, hb7, hB5', by omega, by omega, small8000 (by omega), fun r8 bx8 r80 r81 hB8 => ?_⟩
    have hq8 : (upd H7 b (.lst bx8)) p7 = some (.lst []) := by
      rw [upd_ne n7]
      exact hq7
    have hb8 : (upd H7 b (.lst bx8)) b = some (.lst bx8) := upd_same
    have eS8 : cutS [p7, b] (upd H7 b (.lst bx8)) = cutS [p7, b] H7 := cutS_upd (List.mem_cons_of_mem _ List.mem_cons_self)
    rw [← eS8] at hS7 hM7
    generalize upd H7 b (.lst bx8) = H8 at hb8 hS7 hq8 hM7 ⊢
    clear hb7 hq7 eS8 hB5'
    have hSl8 : SqL K H8 p6 (zs.map V.str) := sql_of (cutS_le _ _ hM7)
    walk_at "ev"
    intro p9 hp9
    obtain ⟨k, hk⟩ : ∃ k : Nat, 1 + r8 = (k : Int) := ⟨(1 + r8).toNat, by omega⟩
    rw [hk, cutV_map]
    have kl : k ≤ zs.length := by omega
    have w0 : WSt K b p7 p9 H3 ((zs.take k).map V.str) [] [] (upd H8 p9 (.lst ((zs.take k).map V.str))) bx8 (N + 41) :=
      ⟨(Same.upd hp9) _ _ hb8, hB8, (Same.upd hp9) _ _ hq8, .nil, hS7.trans (cutS_mono (.upd hp9)), cutS_new (Trk.cons (Trk.cons Trk.nil hb8) hq8) hp9⟩
    generalize upd H8 p9 (.lst ((zs.take k).map V.str)) = H9 at w0 ⊢
    clear hp9 hb8 hS7 hq8 hM7 hSl8 hB8
    refine ⟨p9, rfl, ⟨_, sql_of (cutS_le _ _ w0.h9)⟩, ?_⟩
    refine forR_it (walk_list (K := K) (a := p9) (xs := (zs.take k).map V.str)) (fun i σ Hc => ∃ (x7 x8 x9 x10 : Option V) (fs : List V) (qs : List QD) (bxc : List V), σ = [some (.ref b), some (.int (s : Int)), some (.int (m : Int)), some (.int h), some (.ref p3), some (.ref p6), some (.ref p7), x7, x8, x9, x10] ∧
        WSt K b p7 p9 H3 ((zs.take k).map V.str) fs (qs.map (QD.d true)) Hc bxc (N + 41 + 6 * i) ∧ qs.map QD.nm = zs.take i ∧ qs.length = i ∧ ∀ q ∈ qs, q.st ∈ ts ∧ q.en ∈ ts ∧ q.st ≠ q.en ∧ 1 ≤ q.gap ∧ q.gap ≤ q.room ∧ q.room ≤ h)
      ⟨_, _, _, _, [], [], bx8, rfl, w0, rfl, rfl, fun _ hx => absurd hx List.not_mem_nil⟩ (fun i σ Hc _ hh => ?_) (fun i v σ Hc Hc' hi hh y => ?_) (fun σ Hc hh => ?_)
    · obtain ⟨_, _, _, _, _, _, _, _, hw, _⟩ := hh
      exact sql_of (cutS_le _ _ hw.h9)
    · obtain ⟨x7, x8, x9, x10, fs, qs, bxc, rfl, hw, hqn, hql, hqq⟩ := hh
      obtain ⟨rfl, hv⟩ := y
      rw [List.length_map, List.length_take, Nat.min_eq_left kl] at hi
      have hzi : i < zs.length := by omega
      have ev : v = .str zs[i] := by
        rw [List.getElem?_map, List.getElem?_take_of_lt hi, List.getElem?_eq_getElem hzi] at hv
        exact (Option.some.inj hv).symm
      subst ev
      have hTc : SqL K Hc' p3 (ts.map V.str) := sql_of (cutS_le _ _ (hw.hS _ _ hT3))
      have hTl : (ts.map V.str).length = ts.length := List.length_map ..
      walk_at "ev"
      refine ⟨b, _, bxc, _, rfl, hw.hb, hw.hB, by omega, by omega, small8000 (by omega), fun r1 bx1 r10 r11 hB1 => ?_⟩
      have w1 := hw.take n7 hB1
      have hT1 : SqL K _ p3 (ts.map V.str) := sql_of (cutS_le _ _ (w1.hS _ _ hT3))
      generalize upd Hc' b (.lst bx1) = Ha at w1 hT1 ⊢
      walk_at "ev"
      refine ⟨b, _, bx1, _, rfl, w1.hb, w1.hB, by omega, by omega, small8000 (by omega), fun r2 bx2 r20 r21 hB2 => ?_⟩
      have w2 := w1.take n7 hB2
      have hT2 : SqL K _ p3 (ts.map V.str) := sql_of (cutS_le _ _ (w2.hS _ _ hT3))
      generalize upd Ha b (.lst bx2) = Hb at w2 hT2 ⊢
      clear hw w1 hTc hT1 hB1 hB2
      walk_at "ev"
      obtain ⟨ap1, ap2, ap3⟩ := apart (ts.map V.str).length r1 r2 r10 r11 r20 r21
      refine ⟨fun σ Hd => ∃ (o t : Nat) (x10' : Option V) (bxd : List V), σ = [some (.ref b), some (.int (s : Int)), some (.int (m : Int)), some (.int h), some (.ref p3), some (.ref p6), some (.ref p7), some (.str zs[i]), some (.int (o : Int)), some (.int (t : Int)), x10'] ∧
        o < ts.length ∧ t < ts.length ∧ o ≠ t ∧ WSt K b p7 p9 H3 ((zs.take k).map V.str) fs (qs.map (QD.d true)) Hd bxd (N + 41 + 6 * i + 1 + 1 + 1), ?_, ?_⟩
      · walk_at "ev"
        obtain ⟨o, rfl⟩ : ∃ o : Nat, r1 = (o : Int) := ⟨r1.toNat, by omega⟩
        obtain ⟨t, ht⟩ : ∃ t : Nat, ((o : Int) + 1 + r2) % ((ts.map V.str).length : Int) = (t : Int) := ⟨(((o : Int) + 1 + r2) % ((ts.map V.str).length : Int)).toNat, by omega⟩
        rw [ht] at ap1 ap2 ap3
        refine ite2 (fun e => ?_) (fun e => ?_)
        · walk_at "ev"
          refine ⟨b, _, bx2, _, rfl, w2.hb, w2.hB, by omega, by omega, small8000 (by omega), fun r3 bx3' r30 r31 hB3 => ?_⟩
          have w3 := w2.take n7 hB3
          walk_at "ev"
          refine ite2 (fun e2 => ?_) (fun e2 => ?_)
          · walk_at "ev"
            exact ⟨t, o, _, bx3', by rw [← ht]; rfl, by omega, by omega, by omega, w3⟩
          · exact ⟨o, t, _, bx3', by rw [← ht]; rfl, by omega, by omega, by omega, w3⟩
        · refine iteF ?_
          exact ⟨o, t, _, bx2, by rw [← ht]; rfl, by omega, by omega, by omega, ⟨w2.hb, w2.hB.mono (by omega), w2.hf, w2.hd, w2.hS, w2.h9⟩⟩
      · rintro σ Hd ⟨o, t, x10', bxd, rfl, ho, ht, hot, w3⟩
        walk_at "ev"
        refine ⟨b, h, bxd, _, rfl, w3.hb, w3.hB, by omega, by omega, small8000 (by omega), fun r5 bx5' r50 r51 hB5 => ?_⟩
        have w5 := w3.take n7 hB5
        have hT5 : SqL K _ p3 (ts.map V.str) := sql_of (cutS_le _ _ (w5.hS _ _ hT3))
        have hF5 : SqL K _ p7 fs := sql_of w5.hf
        generalize upd Hd b (.lst bx5') = He at w5 hT5 hF5 ⊢
        walk_at "ev"
        have a1 : atI (ts.map V.str) (o : Int) = some (.str ts[o]) := at_of rfl (by rw [List.getElem?_map, List.getElem?_eq_getElem ho]; rfl)
        have a2 : atI (ts.map V.str) (t : Int) = some (.str ts[t]) := at_of rfl (by rw [List.getElem?_map, List.getElem?_eq_getElem ht]; rfl)
        refine ⟨_, _, _, _, rfl, rfl, hT5, a1, ?_⟩
        walk_at "ev"
        refine ⟨_, _, _, _, rfl, rfl, hT5, a2, ?_⟩
        walk_at "ev"
        refine ⟨b, 1 + r5, bx5', _, rfl, w5.hb, w5.hB, by omega, by omega, small8000 (by omega), fun r6 bx6' r60 r61 hB6 => ?_⟩
        have w6 := w5.take n7 hB6
        generalize upd He b (.lst bx6') = Hf at w6 ⊢
        walk_at "ev"
        intro pt hpt
        have w7 := w6.same (.upd (o := .tup [V.str zs[i], V.str ts[o], V.str ts[t], V.int (1 + r5), V.int (1 + r6)]) hpt)
        have hpt2 : cutS [p7, b] (upd Hf pt (.tup [V.str zs[i], V.str ts[o], V.str ts[t], V.int (1 + r5), V.int (1 + r6)])) pt = some (.tup [V.str zs[i], V.str ts[o], V.str ts[t], V.int (1 + r5), V.int (1 + r6)]) :=
          cutS_new (Trk.cons (Trk.cons Trk.nil w6.hb) w6.hf) hpt
        have fl : fs.length = qs.length := by rw [dpa_len w7.hd, List.length_map]
        have w8 := w7.push n7 (v := .ref pt) (d := QD.d true ⟨zs[i], ts[o], ts[t], 1 + r5, 1 + r6⟩) (.tup (sqt_of hpt2) (.cons (.str _) (.cons (.str _) (.cons (.str _) (.cons (.int _) (.cons (.int _) .nil))))))
        refine ⟨p7, fs, .ref pt, rfl, rfl, w7.hf, sz_lt (by omega), ?_⟩
        refine ⟨_, _, _, _, fs ++ [.ref pt], qs ++ [⟨zs[i], ts[o], ts[t], 1 + r5, 1 + r6⟩], bx6', rfl, ?_, ?_, ?_, ?_⟩
        · rw [List.map_append]
          exact w8.mono (by omega)
        · rw [List.map_append, hqn, List.take_add_one, List.getElem?_eq_getElem hzi]
          rfl
        · rw [List.length_append, hql]
          rfl
        · intro x hx
          rcases List.mem_append.mp hx with hx | hx
          · exact hqq x hx
          · rw [List.mem_singleton.mp hx]
            refine ⟨List.getElem_mem ho, List.getElem_mem ht, fun e => hot (nd_ix htn.1 (List.getElem?_eq_getElem ho) (by rw [List.getElem?_eq_getElem ht]; exact congrArg some e.symm)), by show 1 ≤ 1 + r6; omega, by show 1 + r6 ≤ 1 + r5; omega, by show 1 + r5 ≤ h; omega⟩
    · obtain ⟨x7, x8, x9, x10, fs, qs, bxc, rfl, hw, hqn, hql, hqq⟩ := hh
      rw [List.length_map, List.length_take, Nat.min_eq_left kl] at hw hqn hql
      have hTc : SqL K Hc p3 (ts.map V.str) := sql_of (cutS_le _ _ (hw.hS _ _ hT3))
      walk_at "ev"
      refine ⟨by omega, fun us p10 hu1 hu2 hp10 => ?_⟩
      have w10 := hw.same (.upd (o := .lst (us.map V.str)) hp10)
      refine ⟨p10, _, rfl, sql_of upd_same, fun p11 ob hp11 hoc hod => ?_⟩
      have w11 := w10.same (.upd (o := .frz ob (.tup (us.map V.str))) hp11)
      have n11 : p11 ≠ b := fun z => by
        rw [z, w10.hb] at hp11
        cases hp11
      have g11 : cutS [b] _ p11 = some (.frz ob (.tup (us.map V.str))) := cutS_at (upd_same (H := upd Hc p10 (.lst (us.map V.str))) (a := p11) (o := .frz ob (.tup (us.map V.str)))) (not1 n11)
      generalize upd (upd Hc p10 (.lst (us.map V.str))) p11 (.frz ob (.tup (us.map V.str))) = H11 at w11 g11 ⊢
      walk_at "ev"
      refine ⟨p7, fs, rfl, .inl ⟨sql_of w11.hf, fun p12 hp12 => ?_⟩⟩
      have w12 := w11.same (.upd (o := .tup fs) hp12)
      have n12 : p12 ≠ b := fun z => by
        rw [z, w11.hb] at hp12
        cases hp12
      have g12 : cutS [b] _ p12 = some (.tup fs) := cutS_at (upd_same (H := H11) (a := p12) (o := .tup fs)) (not1 n12)
      have g11' := cutS_mono (S := [b]) (.upd (o := .tup fs) hp12) _ _ g11
      generalize upd H11 p12 (.tup fs) = H12 at w12 g12 g11' ⊢
      walk_at "ev"
      intro p13 hp13
      have w13 := w12.same (.upd (o := .tup [.ref p11, .ref p12]) hp13)
      have n13 : p13 ≠ b := fun z => by
        rw [z, w12.hb] at hp13
        cases hp13
      have e13 : Same (cutS [b] H12) (cutS [b] (upd H12 p13 (.tup [.ref p11, .ref p12]))) := cutS_mono (.upd hp13)
      have htl : ts.length = us.length := hu1.length_eq.symm
      have hus : us.Nodup ∧ ∀ x, x ∈ us ↔ x ∈ ts := ⟨hu1.nodup_iff.mpr htn.1, fun x => hu1.mem_iff⟩
      refine q _ (.ref p13) us qs bxc ⟨hus.1, hu2, by omega, by omega, fun x hx => htn.2 x ((hus.2 x).mp hx), ⟨zs, hzn.1, hz2, hzn.2, k, hqn⟩, by omega, by omega, fun x hx => ?_⟩ ?_ ⟨p13, p11, p12, ob, rfl, cutS_at upd_same (not1 n13), e13 _ _ g11', hoc, hod⟩ w13.hb (w13.hB.mono (by omega)) ?_
      · obtain ⟨q1, q2, q3⟩ := hqq x hx
        exact ⟨(hus.2 _).mpr q1, (hus.2 _).mpr q2, q3⟩
      · exact .tup (sqt_of (cutS_at upd_same (not1 n13))) (.cons (.tup (.inl (.inr ⟨ob, e13 _ _ g11'⟩)) dpa_strs) (.cons (.tup (sqt_of (e13 _ _ g12)) (cutS_tail.dpa w13.hd)) .nil))
      · exact hS3'.trans (w13.hS.trans cutS_tail)
end
end Jl

set_option Elab.async false
set_option linter.all false
set_option maxRecDepth 100000
set_option maxHeartbeats 4000000
set_option pp.maxSteps 900
namespace Jl
open PySem PySem.Spec PyProof.Rows L2
open Evl (sz_of sz_lt)
local macro_rules | `(tactic| walk_at "at") => `(tactic| first | exact box0 | exact box1 | exact box2)
local macro_rules | `(tactic| walk_at "sq") => `(tactic| first | (show SqL _ _ _ _; assumption) | (show SqT _ _ _ _; assumption) | (show _ = some _; assumption))
local macro_rules | `(tactic| walk_at "side") => `(tactic| first
  | (show (0 : Int) < _; decide)
  | (show (0 : Int) < _; omega)
  | exact ⟨by decide, by decide, by decide⟩
  | exact sz_of (Nat.le_of_ble_eq_true rfl)
  | exact rfl
  | exact Or.inl (by decide)
  | exact Or.inr (by decide)
  | exact Or.inr ⟨by omega, by omega⟩
  | exact Or.inl ⟨by omega, by omega⟩
  | exact ⟨by decide, by decide +kernel⟩)
local macro_rules | `(tactic| walk_at "ev1") => `(tactic| first
  | refine ⟨_, rfl, ?_⟩
  | refine ⟨_, _, rfl, rfl, ?_⟩
  | refine ⟨_, _, _, _, rfl, rfl, (by walk_at "sq"), (by walk_at "at"), ?_⟩
  | refine ⟨_, _, rfl, (by walk_at "sq"), ?_⟩
  | refine ⟨_, _, rfl, Or.inl (by walk_at "sq"), ?_⟩
  | refine ⟨_, _, rfl, Or.inr (by walk_at "sq"), ?_⟩
  | refine Or.inl ⟨_, rfl, ?_⟩
  | refine Or.inr ⟨_, rfl, ?_⟩
  | refine ⟨(by walk_at "side"), ?_⟩
  | refine ⟨.inl ⟨rfl, _, (by walk_at "sq")⟩, ?_⟩
  | refine ⟨_, _, rfl, ?_⟩)
local macro_rules | `(tactic| walk_at "nrm") => `(tactic| dsimp only [tNil, tCons, tC, tCB])
local macro_rules | `(tactic| walk_at "ev") => `(tactic| repeat (walk_at "ev1"))

/-! ### dict comprehensions by a walk -/
section
variable {X : Cx}
inductive DcP (wi : TI) (g : TG) (tt : TT) (tk tv : TE) (vs : List Nat) (σ : L2.St) (H : Hp) (Q : VK) : Prop
  | yes (h : tDc wi g tt tk tv vs σ H Q)
  | no (h : False)
def tDcX (wi : TI) (g : TG) (tt : TT) (tk tv : TE) (vs : List Nat) : TE := fun σ H Q => DcP wi g tt tk tv vs σ H Q
theorem pe_dcX {e : Expr} {wi : TI} {g : TG} {tt : TT} {tk tv : TE} {vs : List Nat} (h : PE X e (tDc wi g tt tk tv vs)) : PE X e (tDcX wi g tt tk tv vs) := ⟨fun pins s σ H Q I q => by
  cases q with
  | yes q => exact h.run pins s σ H Q I q
  | no q => exact q.elim⟩
theorem swd_true {kx vx : Expr} {gs : List Comprehension} {scope : Scope} {pos py : Pos} {y : Str} {l : Nat} {env : Env} (h1 : env.scope.kind = .function) (h2 : env.scope.names.lookup y = some .local) (h3 : (py.line == pos.line) = true)
    (h4 : (scope.names.any fun (n, k) => n == y && (k == .local || k == .cell)) = false) : swapsWith (.DictComp kx vx gs scope pos) (some (.Name y py)) l env = pure true := by
  have g1 : env.blockKind = .function := by
    unfold Env.blockKind
    rw [h1]
    rfl
  have g2 : env.kindOf y = some .local := h2
  unfold swapsWith
  simp only [g1, g2, h4, Expr.pos, h3]
  rfl
/-- y = {k: v for ..}: the name is stored within the comprehension's block -/
theorem ps_setDc {i : Nat} {y : Str} {py : Pos} {kx vx tg iter : Expr} {ifs : List Expr} {scope : Scope} {own : List (Str × Nat)} {pos spos : Pos} {wi : TI} {g : TG} {tt : TT} {tk tv : TE} (hc : X.calm = true) (hN : X.N.Nodup) (hy : X.N[i]? = some y) (hyl : X.env.scope.names.lookup y = some .local)
    (hsw : swapsWith (.DictComp kx vx [⟨tg, iter, ifs, 0⟩] scope pos) (some (.Name y py)) spos.line X.env = pure true) (hi : PI X tg iter wi) (ok : BlkOk X.N X.env.scope scope own)
    (hg : ∀ (s : Shared) (H : Hp) (C : Addr) (cl : List (Str × Addr)) (fp : List Addr), PG (X.blk s H scope (compEnvC scope cl C X.env) fp) tg g) (ht : ∀ (s : Shared) (H : Hp) (C : Addr) (cl : List (Str × Addr)) (fp : List Addr), PTs (X.blk s H scope (compEnvC scope cl C X.env) fp) ifs tt)
    (hk : ∀ (s : Shared) (H : Hp) (C : Addr) (cl : List (Str × Addr)) (fp : List Addr), PE (X.blk s H scope (compEnvC scope cl C X.env) fp) kx tk)
    (he : ∀ (s : Shared) (H : Hp) (C : Addr) (cl : List (Str × Addr)) (fp : List Addr), PE (X.blk s H scope (compEnvC scope cl C X.env) fp) vx tv) (hs : ∀ x, foldedSetIterable iter X.env x = pure x := by intro _; rfl) :
    PS X (.Assign [.Name y py] (.DictComp kx vx [⟨tg, iter, ifs, 0⟩] scope pos) spos) (tAsg (tDc wi g tt tk tv (own.map (·.2))) (gName i)) := ⟨fun pins s σ H D I h => by
  rw [exec_Assign_Name_used _ _ _ _ hsw]
  have h' : tDc wi g tt tk tv (own.map (·.2)) σ H (fun x H1 => gName i x σ H1 D.nx) := h
  have core := dc_core (pos := pos) (pos' := firstIterPos [⟨tg, iter, ifs, 0⟩] pos) (use := some (assign (.Name y py) X.env)) (Qf := fun _ s' => SP X pins D .next s') hc hN I hi ok hg ht hk he hs h' (fun L C s' m H' I' q hn f => by
    obtain ⟨f0, f1, f2, f3, f4, f5⟩ := f
    show wpAny _ _ (assign (.Name y py) X.env (.ref L)) _ _ _
    exact wpAny_assign_Name (store_ok2 (v := V.ref L) I' hN hy (.inl hyl) rfl (fun s2 I2 ⟨a, sb, ha⟩ => ⟨m, hn.sameBut sb (by
      rcases ha with z | z
      · rw [z]
        exact f1
      · exact fun e => f4 y a z e.symm), fun h3 sb3 => ⟨_, H', I2.turned (t' := s2.toks) (fun b o hb e => (sb3.2 b hb).trans e) f0 f1 f3 f4 f5, q⟩⟩) (.inr hyl)))
  exact wpAny_bind (wpAny_standAt (wpAny_bind (wpAny_bind (thn core fun _ s' hq => wpAny_pure (wpAny_pure hq)))))⟩
theorem ps_setDcX {st : Stmt} {i : Nat} {wi : TI} {g : TG} {tt : TT} {tk tv : TE} {vs : List Nat} (h : PS X st (tAsg (tDc wi g tt tk tv vs) (gName i))) : PS X st (tAsg (tDcX wi g tt tk tv vs) (gName i)) := ⟨fun pins s σ H D I q => by
  have q : DcP wi g tt tk tv vs σ H (fun x H1 => gName i x σ H1 D.nx) := q
  cases q with
  | yes q => exact h.run pins s σ H D I q
  | no q => exact q.elim⟩
theorem dc_of {wi : TI} {g : TG} {tt : TT} {tk tv : TE} {vs : List Nat} {σ : L2.St} {H : Hp} {Q : VK} (q : tDc wi g tt tk tv vs σ H Q) : tDcX wi g tt tk tv vs σ H Q := .yes q
end
/-- {x: f x for x in a row of texts} -/
theorem dc_strs {K : PySem.W.Frag} {tl tk tv : TE} {j : Nat} {vs : List Nat} {σ : L2.St} {H H0 : Hp} {Q : VK} {a : Addr} {fb : Bool} {xs : List Str} (f : Str → V) (hn : xs.Nodup)
    (ht : ∀ R' : VK, R' (.ref a) H0 → tl σ H R') (hs : SqF fb K H0 a (xs.map V.str)) (hl : xs.length ≤ 1000) (hw : ∀ x, wipe ((wipe σ vs).set j (some x)) vs = wipe σ vs)
    (hk : ∀ (x : Str) (H1 : Hp) (Q' : VK), Q' (.str x) H1 → tk ((wipe σ vs).set j (some (.str x))) H1 Q') (hv : ∀ (x : Str) (H1 : Hp) (Q' : VK), Q' (f x) H1 → tv ((wipe σ vs).set j (some (.str x))) H1 Q')
    (q : ∀ D, H0 D = none → Q (.ref D) (upd H0 D (.dK (xs.map fun x => (.inr x, f x))))) : tDcX (iSeq K tl) (gName j) tYes tk tv vs σ H Q := by
  refine dc_of ?_
  refine iSeq_at ht hs fun J w D hD => ?_
  refine ⟨fun i m H1 => m = xs.length - i ∧ i ≤ xs.length ∧ H1 = upd H0 D (.dK ((xs.take i).map fun x => (.inr x, f x))), ⟨_, rfl, Nat.zero_le _, rfl⟩, fun i m H1 hW => ?_⟩
  obtain ⟨rfl, hi, rfl⟩ := hW
  have hG : SqF fb K (upd H0 D (.dK ((xs.take i).map fun x => (.inr x, f x)))) a (xs.map V.str) := (Same.upd hD).sqF hs
  have hxl : (xs.map V.str).length = xs.length := List.length_map ..
  by_cases hlt : i < xs.length
  · refine .inr ⟨w.goes i _ (by omega) hG, fun H2 => H2 = upd H0 D (.dK ((xs.take (i + 1)).map fun x => (.inr x, f x))), fun H2 e => ⟨xs.length - (i + 1), by omega, rfl, hlt, e⟩, fun x H2 y => ?_⟩
    obtain ⟨rfl, hx⟩ := w.yields i _ x H2 (by omega) hG y
    rw [List.getElem?_map, List.getElem?_eq_getElem hlt] at hx
    cases hx
    refine ⟨hw _, ?_⟩
    dsimp only [tYes]
    rw [if_pos rfl]
    refine hk _ _ _ (hv _ _ _ ⟨_, .inr xs[i], rfl, upd_same, ?_, ?_⟩)
    · rw [List.length_map, List.length_take]
      exact sz_lt (by omega)
    · rw [upd_upd, List.take_add_one, List.getElem?_eq_getElem hlt, List.map_append, putK_new]
      · rfl
      · have hno : ∀ ys : List Str, xs[i] ∉ ys → valV (ys.map fun x => ((.inr x : Key), f x)) (.inr xs[i]) = none := by
          intro ys
          induction ys with
          | nil => exact fun _ => rfl
          | cons y ys ih =>
            intro hy
            rw [List.map_cons, valV_neg (fun e => hy (by rw [← Sum.inr.inj e]; exact List.mem_cons_self))]
            exact ih fun h => hy (List.mem_cons_of_mem _ h)
        refine hno _ fun hm => ?_
        obtain ⟨k, hk1, hk2⟩ := List.mem_take_iff_getElem.mp hm
        have := nd_ix hn (List.getElem?_eq_getElem hlt) (by rw [List.getElem?_eq_getElem (show k < xs.length by omega)]; exact congrArg some hk2)
        omega
  · have e : i = xs.length := by omega
    subst e
    refine .inl ⟨?_, ?_⟩
    · have := w.stops _ hG
      rw [hxl] at this
      exact this
    · rw [List.take_length]
      exact q D hD
/-- tuple(x) of a list or a tuple -/
def rTupOf (K : PySem.W.Frag) : List V → Hp → VK → Prop := fun xs H Q => ∃ p ys, xs = [.ref p] ∧ ((SqL K H p ys ∧ ∀ l, H l = none → Q (.ref l) (upd H l (.tup ys))) ∨ (SqT K H p ys ∧ Q (.ref p) H))
theorem call_tup_of {X : Cx} : CallR X (.type "tuple") (rTupOf X.K) := call_tuple_of
/-! ### sorted of data -/
def rSortD (K : PySem.W.Frag) : List V → Hp → VK → Prop := fun vs H Q => ∃ (a : Addr) (bs : List (V × PyData)), vs = [.ref a] ∧ SqL K H a (bs.map (·.1)) ∧ (∀ b ∈ bs, Dp K H b.1 b.2) ∧ PySem.W.AllAlike (bs.map (·.2)) ∧ PySem.W.Sortable (bs.map (·.2)) ∧ (∀ b ∈ bs, b.2.depth ≤ 30) ∧
  ∀ p, H p = none → Q (.ref p) (upd H p (.lst ((bs.mergeSort (PySem.W.dataLe false (·.2))).map (·.1))))
section
variable {X : Cx}
theorem each_vals : ∀ {us : List Value} {bs : List (V × PyData)}, Vals (bs.map (·.1)) us → PySem.W.EachIs (fun u b => RelV b.1 u) us bs
  | _, [], .nil => .nil
  | _, _ :: _, .cons r t => .cons r (each_vals t)
theorem vals_each : ∀ {us : List Value} {bs : List (V × PyData)}, PySem.W.EachIs (fun u b => RelV b.1 u) us bs → Vals (bs.map (·.1)) us
  | _, _, .nil => .nil
  | _, _, .cons r t => .cons r (vals_each t)
theorem cr_sortedD (hc : X.calm = true) (hu : X.A.units + 64 < cLine) : CallR X (.builtin "sorted") (rSortD X.K) := by
  intro pins s σ H vs us Q I r h
  obtain ⟨a, bs, rfl, hs, hd, hal, hso, hdp, q⟩ := h
  obtain ⟨its, rv, hl, hz⟩ := I.list hs
  rw [Vals.ref1 r]
  have he := each_vals rv
  have hr : ∀ (us : List Value) (bs : List (V × PyData)), (∀ b ∈ bs, Dp X.K H b.1 b.2) → PySem.W.EachIs (fun u b => RelV b.1 u) us bs → PySem.W.EachIs (fun u b => ∃ as, Reads s.heap u b.2 as) us bs := by
    intro us bs hd he
    induction he with
    | nil => exact .nil
    | @cons u b us bs h1 h2 ih => exact .cons (Dp.reads I b.2 b.1 u (hd b List.mem_cons_self) h1) (ih fun b hb => hd b (List.mem_cons_of_mem _ hb))
  have hlen : bs.length = its.length := by have := rv.length; rw [List.length_map] at this; exact this
  refine PySem.W.sorted_data (enc := (·.2)) hl.isList he (hr _ _ hd he) hal hso (by rw [List.length_map] at hz; exact hz) (fun b hb => by have := hdp b hb; omega) fun out hol ho => ?_
  obtain ⟨ep, he'⟩ := PyProof.Rows.sortedAll_at s.heap its out.toArray
  have hlen2 : ((bs.mergeSort (PySem.W.dataLe false (·.2))).map (·.1)).length ≤ sizeLine := by
    rw [List.length_map, List.length_mergeSort]
    rw [List.length_map] at hz
    exact hz
  exact ⟨.ref _, upd H (s.heap.objs.size + 1) (.lst _), I.laid (t' := s.toks) (fun _ _ => PyProof.Rows.sortedAll_old) (Nat.le_succ _) ⟨hlen2, out, ep, vals_each ho, he'⟩, rfl, q _ (I.hok.fresh (Nat.le_succ _))⟩
end
end Jl

set_option Elab.async false
set_option linter.all false
set_option maxRecDepth 100000
set_option maxHeartbeats 4000000
set_option pp.maxSteps 900
namespace Jl
open PySem PySem.Spec PyProof.Rows L2
open Evl (sz_of sz_lt)
local macro_rules | `(tactic| walk_at "at") => `(tactic| first | exact box0 | exact box1 | exact box2)
local macro_rules | `(tactic| walk_at "sq") => `(tactic| first | (show SqL _ _ _ _; assumption) | (show SqT _ _ _ _; assumption) | (show _ = some _; assumption))
local macro_rules | `(tactic| walk_at "side") => `(tactic| first
  | (show (0 : Int) < _; decide)
  | (show (0 : Int) < _; omega)
  | exact ⟨by decide, by decide, by decide⟩
  | exact sz_of (Nat.le_of_ble_eq_true rfl)
  | exact rfl
  | exact Or.inl (by decide)
  | exact Or.inr (by decide)
  | exact Or.inr ⟨by omega, by omega⟩
  | exact Or.inl ⟨by omega, by omega⟩
  | exact ⟨by decide, by decide +kernel⟩)
local macro_rules | `(tactic| walk_at "ev1") => `(tactic| first
  | refine ⟨_, rfl, ?_⟩
  | refine ⟨_, _, rfl, rfl, ?_⟩
  | refine ⟨_, _, _, _, rfl, rfl, (by walk_at "sq"), (by walk_at "at"), ?_⟩
  | refine ⟨_, _, rfl, (by walk_at "sq"), ?_⟩
  | refine ⟨_, _, rfl, Or.inl (by walk_at "sq"), ?_⟩
  | refine ⟨_, _, rfl, Or.inr (by walk_at "sq"), ?_⟩
  | refine Or.inl ⟨_, rfl, ?_⟩
  | refine Or.inr ⟨_, rfl, ?_⟩
  | refine ⟨(by walk_at "side"), ?_⟩
  | refine ⟨.inl ⟨rfl, _, (by walk_at "sq")⟩, ?_⟩
  | refine ⟨_, _, rfl, ?_⟩)
local macro_rules | `(tactic| walk_at "nrm") => `(tactic| dsimp only [tNil, tCons, tC, tCB])
local macro_rules | `(tactic| walk_at "ev") => `(tactic| repeat (walk_at "ev1"))

theorem vals_app : ∀ {vs : List V} {us : List Value} {zs : List V} {ws : List Value}, Vals vs us → Vals zs ws → Vals (vs ++ zs) (us ++ ws)
  | _, _, _, _, .nil, h => h
  | _, _, _, _, .cons r t, h => .cons r (vals_app t h)
section
variable {X : Cx} {CX : CXT} {k : Nat} {f : Addr} {fd : FuncData} {ps ks : List Str} {sp : Sp} {E : XK} {x : Str} {p pos : Pos} {kws : List Keyword} {tk : TA} {g : List Value → List Value → List Value} {gV : List V → List V → List V}
def tCallK0 (sp : Sp) (gV : List V → List V → List V) (E : XK) (tk : TA) : TE := fun σ H Q => tk σ H fun zs H2 => sp (gV [] zs) H2 Q E
/-- f(k = e, ..), nothing by position -/
theorem pe_callK0 (F : FnOk X.prog X.w X.K X.mg X.base CX k f fd ps sp) (hr : Room k X.A) (hg : Gl X x) (hm : X.mg x = some (.ref f)) (hk : PySem.W.keepIn X.K (.ref f) = true) (hb : KBinds X.K fd ps ks g gV) (hx : Passes CX X E)
    (hkw : PK X kws tk) (hall : (backToKw pos (keywordEach kws X.env)).all (·.1.isSome) = true := by rfl) (hks : (backToKw pos (keywordEach kws X.env)).filterMap (·.1) = ks := by rfl)
    (hdb : (x == ("__debug__" : Str)) = false := by decide) (hpl : ((backTo pos (starEach [] X.env)).any (·.1) || (backToKw pos (keywordEach kws X.env)).any (·.1.isNone)) = false := by rfl) :
    PE X (.Call (.Name x p) [] kws pos) (tCallK0 sp gV E tk) := by
  refine ⟨fun pins s σ H Q I h => ?_⟩
  refine wpAny_Call_Name_kw (ld_glob I hg hm ?_ hdb)
  refine PySem.W.callWith_KW0 (h₀ := X.base) I.ok.mod.kin hk hall (thn (hkw.run pos pins s σ H _ I h) fun ws s2 ⟨zs, H2, I2, rz, q2⟩ => ⟨I2.kIn, ?_⟩) hpl
  rw [hks]
  exact run_fnk (us := []) (vs := []) F hr hb hx I2 .nil rz q2
end
/-! ### data of nets: shape, depth -/
theorem canAll : ∀ {ds : List PyData}, (∀ d ∈ ds, d.canLay0 = true) → PyData.canLayAll0 ds = true
  | [], _ => by simp [PyData.canLayAll0]
  | d :: ds, h => by
    rw [PyData.canLayAll0, h d List.mem_cons_self, canAll fun e he => h e (List.mem_cons_of_mem _ he)]
    rfl
theorem depAll {n : Nat} : ∀ {ds : List PyData}, (∀ d ∈ ds, d.depth ≤ n) → PyData.depthAll ds ≤ n
  | [], _ => by simp [PyData.depthAll]
  | d :: ds, h => by
    rw [PyData.depthAll]
    exact Nat.max_le.mpr ⟨h d List.mem_cons_self, depAll fun e he => h e (List.mem_cons_of_mem _ he)⟩
theorem poolW_ok : ∀ x ∈ poolW, PyData.strOk x = true := by decide +kernel
theorem poolQ_ok : ∀ x ∈ poolQ, PyData.strOk x = true := by decide +kernel
theorem GoodNet.nm_ok {s m : Nat} {h : Int} {ws : List Str} {qs : List QD} (g : GoodNet s m h ws qs) : ∀ q ∈ qs, PyData.strOk q.nm = true := fun q hq => by
  obtain ⟨l, _, _, hl, k, e⟩ := g.qn
  have : q.nm ∈ l.take k := by
    rw [← e]
    exact List.mem_map.mpr ⟨q, hq, rfl⟩
  exact poolQ_ok _ (hl _ (List.mem_of_mem_take this))
theorem can_seq {f : Bool} {ds : List PyData} (h : ∀ d ∈ ds, d.canLay0 = true) : (seqD f ds).canLay0 = true := by
  cases f with
  | true =>
    show (PyData.tuple ds).canLay0 = true
    rw [PyData.canLay0]
    exact canAll h
  | false =>
    show (PyData.list ds).canLay0 = true
    rw [PyData.canLay0]
    exact canAll h
theorem dep_seq {f : Bool} {n : Nat} {ds : List PyData} (h : ∀ d ∈ ds, d.depth ≤ n) : (seqD f ds).depth ≤ n + 1 := by
  cases f with
  | true =>
    show (PyData.tuple ds).depth ≤ n + 1
    rw [PyData.depth]
    have := depAll h
    omega
  | false =>
    show (PyData.list ds).depth ≤ n + 1
    rw [PyData.depth]
    have := depAll h
    omega
theorem mem2 {α : Type} {a b x : α} (h : x ∈ [a, b]) : x = a ∨ x = b := by simpa using h
theorem mem5 {α : Type} {a b c d e x : α} (h : x ∈ [a, b, c, d, e]) : x = a ∨ x = b ∨ x = c ∨ x = d ∨ x = e := by simpa using h
theorem net_shaped {f : Bool} {s m : Nat} {h : Int} {ws : List Str} {qs : List QD} (g : GoodNet s m h ws qs) : SeqAt.shaped (netD f ws qs) = true := by
  have c1 : ∀ x ∈ ws, (PyData.str x).canLay0 = true := fun x hx => by
    rw [PyData.canLay0]
    exact poolW_ok x (g.wp x hx)
  have h1 : (netD f ws qs).canLay0 = true := can_seq fun d hd => by
    rcases mem2 hd with rfl | rfl
    · refine can_seq fun d hd => ?_
      obtain ⟨x, hx, rfl⟩ := List.mem_map.mp hd
      exact c1 x hx
    · refine can_seq fun d hd => ?_
      obtain ⟨q, hq, rfl⟩ := List.mem_map.mp hd
      refine can_seq fun d hd => ?_
      have hw := g.qq q hq
      rcases mem5 hd with rfl | rfl | rfl | rfl | rfl
      · rw [PyData.canLay0]
        exact g.nm_ok q hq
      · exact c1 _ hw.1
      · exact c1 _ hw.2.1
      · simp [PyData.canLay0]
      · simp [PyData.canLay0]
  have h2 : (netD f ws qs).depth ≤ 3 := dep_seq (n := 2) fun d hd => by
    rcases mem2 hd with rfl | rfl
    · refine dep_seq (n := 1) fun d hd => ?_
      obtain ⟨x, hx, rfl⟩ := List.mem_map.mp hd
      simp [PyData.depth]
    · refine dep_seq (n := 1) fun d hd => ?_
      obtain ⟨q, hq, rfl⟩ := List.mem_map.mp hd
      refine dep_seq (n := 0) fun d hd => ?_
      rcases mem5 hd with rfl | rfl | rfl | rfl | rfl <;> simp [PyData.depth]
  unfold SeqAt.shaped
  rw [h1, decide_eq_true (show (netD f ws qs).depth ≤ 64 by omega)]
  rfl
theorem okD_str {n : Nat} {x : Str} : okD (n + 1) (.str x) := trivial
theorem okD_int {n : Nat} {i : Int} : okD (n + 1) (.int i) := trivial
theorem net_okD {f : Bool} {ws : List Str} {qs : List QD} (h1 : ws.length ≤ 60) (h2 : qs.length ≤ 60) : okD 4 (netD f ws qs) :=
  okD_seq.mpr ⟨by show 2 ≤ 4000000; decide, fun d hd => by
    rcases mem2 hd with rfl | rfl
    · refine okD_seq.mpr ⟨by rw [List.length_map]; omega, fun d hd => ?_⟩
      obtain ⟨x, hx, rfl⟩ := List.mem_map.mp hd
      exact okD_str
    · refine okD_seq.mpr ⟨by rw [List.length_map]; omega, fun d hd => ?_⟩
      obtain ⟨q, hq, rfl⟩ := List.mem_map.mp hd
      refine okD_seq.mpr ⟨by show 5 ≤ 4000000; decide, fun d hd => ?_⟩
      rcases mem5 hd with rfl | rfl | rfl | rfl | rfl
      · exact okD_str
      · exact okD_str
      · exact okD_str
      · exact okD_int
      · exact okD_int⟩
theorem net_lists {f : Bool} {ws : List Str} {qs : List QD} : listsD (netD f ws qs) = netD false ws qs := by
  unfold netD
  rw [listsD_seq]
  show PyData.list [listsD _, listsD _] = PyData.list [_, _]
  rw [listsD_seq, listsD_seq, List.map_map, List.map_map]
  have e1 : ws.map (listsD ∘ PyData.str) = ws.map PyData.str := List.map_congr_left fun _ _ => rfl
  have e2 : qs.map (listsD ∘ QD.d f) = qs.map (QD.d false) := List.map_congr_left fun q _ => by
    show listsD (seqD f _) = _
    rw [listsD_seq]
    rfl
  rw [e1, e2]
  rfl
/-- a new tuple of data -/
theorem dp_tup {K : PySem.W.Frag} {S : List Addr} {H : Hp} {p : Addr} {xs : List V} {ds : List PyData} (t : Trk S H) (hp : H p = none) (h : DpAll K (cutS S H) xs ds) : Dp K (cutS S (upd H p (.tup xs))) (.ref p) (.tuple ds) :=
  .tup (sqt_of (cutS_new t hp)) ((cutS_mono (.upd hp)).dpa h)
theorem dp_lst {K : PySem.W.Frag} {S : List Addr} {H : Hp} {p : Addr} {xs : List V} {ds : List PyData} (t : Trk S H) (hp : H p = none) (h : DpAll K (cutS S H) xs ds) : Dp K (cutS S (upd H p (.lst xs))) (.ref p) (.list ds) :=
  .lst (sql_of (cutS_new t hp)) ((cutS_mono (.upd hp)).dpa h)
theorem TupW.mono {H H' : Hp} {v : V} {xs : List V} (h : TupW H v xs) (e : Same H H') : TupW H' v xs := by
  obtain ⟨a0, a1, a2, ob, rfl, h0, h1, h2, h3⟩ := h
  exact ⟨a0, a1, a2, ob, rfl, e _ _ h0, e _ _ h1, h2, h3⟩
theorem mem3 {α : Type} {a b c x : α} (h : x ∈ [a, b, c]) : x = a ∨ x = b ∨ x = c := by simpa using h
theorem dpn_tup {K : PySem.W.Frag} {H : Hp} {p : Addr} {xs : List V} {ds : List PyData} (hp : H p = none) (h : DpAll K H xs ds) : Dp K (upd H p (.tup xs)) (.ref p) (.tuple ds) := .tup (sqt_of upd_same) ((Same.upd hp).dpa h)
theorem dpn_lst {K : PySem.W.Frag} {H : Hp} {p : Addr} {xs : List V} {ds : List PyData} (hp : H p = none) (h : DpAll K H xs ds) : Dp K (upd H p (.lst xs)) (.ref p) (.list ds) := .lst (sql_of upd_same) ((Same.upd hp).dpa h)
theorem dpn_row {K : PySem.W.Frag} {H : Hp} {p : Addr} {a b c : Str} {r g : Int} (hp : H p = none) : Dp K (upd H p (.tup [.str a, .str b, .str c, .int r, .int g])) (.ref p) (QD.d true ⟨a, b, c, r, g⟩) :=
  dpn_tup hp (.cons (.str _) (.cons (.str _) (.cons (.str _) (.cons (.int _) (.cons (.int _) .nil)))))
section
variable {K : PySem.W.Frag}
/-- a net as it is read: a list or a tuple, its rows -/
structure NetAt (K : PySem.W.Frag) (H : Hp) (fb : Bool) (a0 a1 a2 : Addr) (ws : List Str) (qs : List QD) (xq : List V) : Prop where
  h0 : SqF fb K H a0 [.ref a1, .ref a2]
  h1 : SqF fb K H a1 (ws.map V.str)
  h2 : SqF fb K H a2 xq
  hq : ∀ (i : Nat) (v : V), xq[i]? = some v → ∃ (q : QD) (a : Addr), qs[i]? = some q ∧ v = .ref a ∧ SqF fb K H a [.str q.nm, .str q.st, .str q.en, .int q.room, .int q.gap]
  ll : xq.length = qs.length
theorem NetAt.same {H H' : Hp} {fb : Bool} {a0 a1 a2 : Addr} {ws : List Str} {qs : List QD} {xq : List V} (n : NetAt K H fb a0 a1 a2 ws qs xq) (e : Same H H') : NetAt K H' fb a0 a1 a2 ws qs xq :=
  ⟨e.sqF n.h0, e.sqF n.h1, e.sqF n.h2, fun i v h => by
    obtain ⟨q, a, g1, g2, g3⟩ := n.hq i v h
    exact ⟨q, a, g1, g2, e.sqF g3⟩, n.ll⟩
theorem netAt {H : Hp} {fb : Bool} {v : V} {ws : List Str} {qs : List QD} (h : Dp K H v (netD fb ws qs)) : ∃ a0 a1 a2 xq, v = .ref a0 ∧ NetAt K H fb a0 a1 a2 ws qs xq := by
  obtain ⟨a0, x0, rfl, h0, hx⟩ := Dp.seq_of h
  cases hx with
  | cons d1 hx =>
    cases hx with
    | cons d2 hx =>
      cases hx
      obtain ⟨a1, x1, rfl, h1, hx1⟩ := Dp.seq_of d1
      obtain ⟨a2, x2, rfl, h2, hx2⟩ := Dp.seq_of d2
      rw [dpa_strs_of hx1] at h1
      refine ⟨a0, a1, a2, x2, rfl, h0, h1, h2, fun i v hv => ?_, by rw [dpa_len hx2, List.length_map]⟩
      obtain ⟨d, hd, hvd⟩ := dpa_get hx2 hv
      rw [List.getElem?_map] at hd
      cases e : qs[i]? with
      | none =>
        rw [e] at hd
        cases hd
      | some q =>
        rw [e] at hd
        cases hd
        obtain ⟨a, x, rfl, g1, g2⟩ := Dp.seq_of hvd
        cases g2 with
        | cons c1 g2 =>
          cases g2 with
          | cons c2 g2 =>
            cases g2 with
            | cons c3 g2 =>
              cases g2 with
              | cons c4 g2 =>
                cases g2 with
                | cons c5 g2 =>
                  cases g2
                  cases c1
                  cases c2
                  cases c3
                  cases c4
                  cases c5
                  exact ⟨q, a, rfl, rfl, g1⟩
end
end Jl

set_option Elab.async false
set_option linter.all false
set_option maxRecDepth 100000
set_option maxHeartbeats 1000000
namespace Jl
open PySem PySem.Spec PyProof.Rows L2
open Evl (sz_of sz_lt)
/-! ### rows that are grown, queue by queue -/
abbrev Mk := Nat × Bool
structure Gs where
  row : List Mk
  met : List Str
def tch (qs : List QD) (w : Str) (i : Nat) : Option Mk := match qs[i]? with
  | none => none
  | some q => if q.st = w then some (i, true) else if q.en = w then some (i, false) else none
def touchN (qs : List QD) (w : Str) (k : Nat) : List Mk := (List.range k).filterMap (tch qs w)
def far (qs : List QD) (m : Mk) : Str := match qs[m.1]? with
  | none => default
  | some q => if m.2 = true then q.en else q.st
def gtS (a b : Str) : Bool := decide (b.cps.toList < a.cps.toList)
def hdG (a : Gs) : Str := a.met.headD default
def lsG (a : Gs) : Str := a.met.getLastD default
abbrev Ps := List (List Mk) × List Gs
def one (qs : List QD) (a : Gs) (p : Ps) (m : Mk) : Ps :=
  if far qs m = hdG a then (if a.row ≠ [] ∧ m.1 ∉ a.row.map (·.1) then (p.1 ++ [a.row ++ [m]], p.2) else p)
  else if gtS (far qs m) (hdG a) = true ∧ far qs m ∉ a.met then (p.1, p.2 ++ [⟨a.row ++ [m], a.met ++ [far qs m]⟩]) else p
def stp (qs : List QD) (f : List (List Mk)) (o : List Gs) (a : Gs) : Ps := (touchN qs (lsG a) qs.length).foldl (one qs a) (f, o)
inductive Rn (qs : List QD) : Ps → List (List Mk) → Prop
  | done (f : List (List Mk)) : Rn qs (f, []) f
  | next (f : List (List Mk)) (o : List Gs) (a : Gs) (g : List (List Mk)) (h : Rn qs (stp qs f o a) g) : Rn qs (f, o ++ [a]) g
theorem Rn.inv0 {qs : List QD} {p : Ps} {g : List (List Mk)} (h : Rn qs p g) (e : p.2 = []) : g = p.1 := by
  cases h with
  | done f => rfl
  | next f o a g h =>
    have e : o ++ [a] = [] := e
    simp at e
theorem Rn.inv1 {qs : List QD} {p : Ps} {g : List (List Mk)} (h : Rn qs p g) {f : List (List Mk)} {o : List Gs} {a : Gs} (e : p = (f, o ++ [a])) : Rn qs (stp qs f o a) g := by
  cases h with
  | done f' =>
    have e2 : ([] : List Gs) = o ++ [a] := congrArg (·.2) e
    simp at e2
  | next f' o' a' g h =>
    have e1 : f' = f := congrArg (·.1) e
    have e2 : o' ++ [a'] = o ++ [a] := congrArg (·.2) e
    obtain ⟨e3, e4⟩ := List.append_inj' e2 rfl
    cases e4
    subst e1 e3
    exact h
theorem Rn.det {qs : List QD} {p : Ps} {g : List (List Mk)} (h : Rn qs p g) : ∀ {g' : List (List Mk)}, Rn qs p g' → g = g' := by
  induction h with
  | done f => exact fun h' => (h'.inv0 rfl).symm
  | next f o a g _ ih => exact fun h' => ih (h'.inv1 rfl)
/-- how a step lies -/
def link (qs : List QD) (m : Mk) (x y : Str) : Prop := ∃ q, qs[m.1]? = some q ∧ ((m.2 = true ∧ q.st = x ∧ q.en = y) ∨ (m.2 = false ∧ q.en = x ∧ q.st = y))
structure NetG (ws : List Str) (qs : List QD) : Prop where
  q1 : ∀ q ∈ qs, q.st ∈ ws ∧ q.en ∈ ws ∧ q.st ≠ q.en
  nn : (qs.map QD.nm).Nodup
theorem touch_link {qs : List QD} {w : Str} {k : Nat} {m : Mk} (h : m ∈ touchN qs w k) : link qs m w (far qs m) := by
  obtain ⟨i, _, hi⟩ := List.mem_filterMap.mp h
  unfold tch at hi
  cases hq : qs[i]? with
  | none =>
    rw [hq] at hi
    cases hi
  | some q =>
    rw [hq] at hi
    dsimp only at hi
    by_cases h1 : q.st = w
    · rw [if_pos h1] at hi
      cases hi
      refine ⟨q, hq, .inl ⟨rfl, h1, ?_⟩⟩
      unfold far
      rw [hq]
      rfl
    · rw [if_neg h1] at hi
      by_cases h2 : q.en = w
      · rw [if_pos h2] at hi
        cases hi
        refine ⟨q, hq, .inr ⟨rfl, h2, ?_⟩⟩
        unfold far
        rw [hq]
        rfl
      · rw [if_neg h2] at hi
        cases hi
theorem touch_len {qs : List QD} {w : Str} {k : Nat} : (touchN qs w k).length ≤ k := Nat.le_trans (List.length_filterMap_le _ _) (by rw [List.length_range]; exact Nat.le_refl _)
structure Inv (ws : List Str) (qs : List QD) (a : Gs) : Prop where
  ll : a.met.length = a.row.length + 1
  nd : a.met.Nodup
  sub : ∀ x ∈ a.met, x ∈ ws
  lk : ∀ (k : Nat) (m : Mk) (x y : Str), a.row[k]? = some m → a.met[k]? = some x → a.met[k + 1]? = some y → link qs m x y
theorem link_lt {qs : List QD} {m : Mk} {x y : Str} (h : link qs m x y) : m.1 < qs.length := by
  obtain ⟨q, hq, _⟩ := h
  exact (List.getElem?_eq_some_iff.mp hq).1
theorem far_mem {ws : List Str} {qs : List QD} {m : Mk} {x y : Str} (g : NetG ws qs) (h : link qs m x y) : y ∈ ws ∧ x ≠ y := by
  obtain ⟨q, hq, h⟩ := h
  obtain ⟨g1, g2, g3⟩ := g.q1 q (List.mem_of_getElem? hq)
  rcases h with ⟨_, h1, h2⟩ | ⟨_, h1, h2⟩
  · exact ⟨by rw [← h2]; exact g2, by rw [← h1, ← h2]; exact g3⟩
  · exact ⟨by rw [← h2]; exact g1, by rw [← h1, ← h2]; exact g3.symm⟩
theorem met_hd {a : Gs} (h : a.met.length = a.row.length + 1) : a.met[0]? = some (hdG a) := by
  unfold hdG
  cases hm : a.met with
  | nil =>
    rw [hm] at h
    cases h
  | cons x l => rfl
theorem met_ls {a : Gs} (h : a.met.length = a.row.length + 1) : a.met[a.row.length]? = some (lsG a) := by
  unfold lsG
  have hne : a.met ≠ [] := fun z => by
    rw [z] at h
    cases h
  rw [List.getLastD_eq_getLast?, List.getLast?_eq_getElem?]
  have : a.met.length - 1 = a.row.length := by omega
  rw [this]
  have h2 : a.row.length < a.met.length := by omega
  rw [List.getElem?_eq_getElem h2]
  rfl
theorem nodup_ix {l : List Str} (h : l.Nodup) {i j : Nat} {x : Str} (h1 : l[i]? = some x) (h2 : l[j]? = some x) : i = j := nd_ix h h1 h2
theorem row_ne {ws : List Str} {qs : List QD} {a : Gs} {m : Mk} {k : Nat} (g : NetG ws qs) (I : Inv ws qs a) (hm : m ∈ touchN qs (lsG a) k) (e : far qs m = hdG a) : a.row ≠ [] := fun z => by
  have hl := touch_link hm
  have h0 := met_hd I.ll
  have h1 := met_ls I.ll
  rw [z] at h1
  have : hdG a = lsG a := Option.some.inj (h0.symm.trans h1)
  rw [e, this] at hl
  exact (far_mem g hl).2 rfl
/-- back over a queue of the row: only the first one can be -/
theorem row_first {ws : List Str} {qs : List QD} {a : Gs} {m m0 : Mk} {k : Nat} (g : NetG ws qs) (I : Inv ws qs a) (hm : m ∈ touchN qs (lsG a) k) (e : far qs m = hdG a) (h0 : a.row[0]? = some m0) : m.1 ∉ a.row.map (·.1) ↔ m.1 ≠ m0.1 := by
  constructor
  · intro h z
    exact h (List.mem_map.mpr ⟨m0, List.mem_of_getElem? h0, z.symm⟩)
  · intro h z
    obtain ⟨mk, hk, ek⟩ := List.mem_map.mp z
    obtain ⟨j, hj, rfl⟩ := List.getElem_of_mem hk
    have hj1 : j + 1 < a.met.length := by have := I.ll; omega
    have hl := touch_link hm
    rw [e] at hl
    have hlk := I.lk j a.row[j] a.met[j] a.met[j + 1] (List.getElem?_eq_getElem hj) (List.getElem?_eq_getElem (by omega)) (List.getElem?_eq_getElem hj1)
    have m0' := met_hd I.ll
    have m1' := met_ls I.ll
    obtain ⟨q, hq, hq2⟩ := hl
    obtain ⟨q', hq', hq2'⟩ := hlk
    have ek : a.row[j].1 = m.1 := ek
    rw [ek, hq] at hq'
    cases hq'
    have both : (a.met[j] = lsG a ∧ a.met[j + 1] = hdG a) ∨ (a.met[j] = hdG a ∧ a.met[j + 1] = lsG a) := by
      rcases hq2 with ⟨_, h1, h2⟩ | ⟨_, h1, h2⟩ <;> rcases hq2' with ⟨_, h3, h4⟩ | ⟨_, h3, h4⟩
      · exact .inl ⟨h3.symm.trans h1, h4.symm.trans h2⟩
      · exact .inr ⟨h3.symm.trans h2, h4.symm.trans h1⟩
      · exact .inr ⟨h3.symm.trans h2, h4.symm.trans h1⟩
      · exact .inl ⟨h3.symm.trans h1, h4.symm.trans h2⟩
    rcases both with ⟨_, h2⟩ | ⟨h1, _⟩
    · have := nodup_ix I.nd (i := j + 1) (j := 0) (by rw [List.getElem?_eq_getElem hj1, h2]) m0'
      omega
    · have hj0 := nodup_ix I.nd (i := j) (j := 0) (by rw [List.getElem?_eq_getElem (by omega), h1]) m0'
      subst hj0
      rw [List.getElem?_eq_getElem hj] at h0
      cases h0
      exact h ek.symm
theorem inv_push {ws : List Str} {qs : List QD} {a : Gs} {m : Mk} {k : Nat} (g : NetG ws qs) (I : Inv ws qs a) (hm : m ∈ touchN qs (lsG a) k) (hn : far qs m ∉ a.met) : Inv ws qs ⟨a.row ++ [m], a.met ++ [far qs m]⟩ := by
  have hl := touch_link hm
  refine ⟨?_, ?_, ?_, ?_⟩
  · have := I.ll
    simp only [List.length_append, List.length_cons, List.length_nil]
    omega
  · refine List.nodup_append.mpr ⟨I.nd, by simp, fun x hx y hy => ?_⟩
    rw [List.mem_singleton.mp hy]
    exact fun z => hn (by rw [← z]; exact hx)
  · intro x hx
    rcases List.mem_append.mp hx with hx | hx
    · exact I.sub x hx
    · rw [List.mem_singleton.mp hx]
      exact (far_mem g hl).1
  · intro j m' x y h1 h2 h3
    have ll := I.ll
    dsimp only at h1 h2 h3
    by_cases hj : j < a.row.length
    · rw [List.getElem?_append_left hj] at h1
      rw [List.getElem?_append_left (by omega)] at h2 h3
      exact I.lk j m' x y h1 h2 h3
    · have hj1 := (List.getElem?_eq_some_iff.mp h1).1
      rw [List.length_append, List.length_singleton] at hj1
      have e : j = a.row.length := by omega
      subst e
      rw [List.getElem?_append_right (Nat.le_refl _), Nat.sub_self] at h1
      cases h1
      rw [List.getElem?_append_left (by omega), met_ls ll] at h2
      cases h2
      rw [List.getElem?_append_right (by omega)] at h3
      have e2 : a.row.length + 1 - a.met.length = 0 := by omega
      rw [e2] at h3
      cases h3
      exact hl
theorem inv_len {ws : List Str} {qs : List QD} {a : Gs} (I : Inv ws qs a) : a.met.length ≤ ws.length := List.Nodup.length_le_of_subset I.nd (fun x hx => I.sub x hx)
/-! ### what all that is open can come to -/
/-- one more than the most queues at an end of a queue -/
def dgr (qs : List QD) : Nat := qs.foldl (fun m q => max m (max (touchN qs q.st qs.length).length (touchN qs q.en qs.length).length)) 0 + 1
theorem fold_max {α : Type} {f : α → Nat} : ∀ {l : List α} {m : Nat}, m ≤ l.foldl (fun m q => max m (f q)) m ∧ ∀ q ∈ l, f q ≤ l.foldl (fun m q => max m (f q)) m
  | [], m => ⟨Nat.le_refl _, fun _ h => absurd h List.not_mem_nil⟩
  | x :: l, m => by
    obtain ⟨h1, h2⟩ := fold_max (f := f) (l := l) (m := max m (f x))
    rw [List.foldl_cons]
    refine ⟨by omega, fun q hq => ?_⟩
    rcases List.mem_cons.mp hq with rfl | hq
    · omega
    · exact h2 q hq
theorem fold_le {α : Type} {f : α → Nat} {k : Nat} : ∀ {l : List α} {m : Nat}, m ≤ k → (∀ q ∈ l, f q ≤ k) → l.foldl (fun m q => max m (f q)) m ≤ k
  | [], _, h, _ => h
  | x :: l, m, h, g => by
    rw [List.foldl_cons]
    exact fold_le (Nat.max_le.mpr ⟨h, g x List.mem_cons_self⟩) fun q hq => g q (List.mem_cons_of_mem _ hq)
theorem touch_dgr {qs : List QD} {w : Str} : (touchN qs w qs.length).length + 1 ≤ dgr qs := by
  unfold dgr
  obtain ⟨_, h⟩ := fold_max (f := fun q : QD => max (touchN qs q.st qs.length).length (touchN qs q.en qs.length).length) (l := qs) (m := 0)
  cases ht : touchN qs w qs.length with
  | nil => simp
  | cons m ms =>
    have hm : m ∈ touchN qs w qs.length := by rw [ht]; exact List.mem_cons_self
    obtain ⟨q, hq, hl⟩ := touch_link hm
    have hq2 := h q (List.mem_of_getElem? hq)
    try dsimp only at hq2
    have : (touchN qs w qs.length).length ≤ max (touchN qs q.st qs.length).length (touchN qs q.en qs.length).length := by
      rcases hl with ⟨_, e, _⟩ | ⟨_, e, _⟩ <;> rw [e] <;> omega
    rw [ht] at this
    omega
theorem dgr_le {qs : List QD} : dgr qs ≤ qs.length + 1 := by
  unfold dgr
  exact Nat.succ_le_succ (fold_le (Nat.zero_le _) fun q _ => Nat.max_le.mpr ⟨touch_len, touch_len⟩)
theorem dgr_pos {qs : List QD} : 1 ≤ dgr qs := Nat.succ_le_succ (Nat.zero_le _)
def wtG (c n : Nat) (a : Gs) : Nat := c ^ (n + 1 - a.met.length)
def Phi (c n : Nat) (p : Ps) : Nat := p.1.length + (p.2.map (wtG c n)).sum
structure InvP (ws : List Str) (qs : List QD) (p : Ps) : Prop where
  op : ∀ a ∈ p.2, Inv ws qs a
  fd : ∀ r ∈ p.1, r ≠ [] ∧ r.length ≤ ws.length ∧ ∀ m ∈ r, m.1 < qs.length
theorem row_lt {ws : List Str} {qs : List QD} {a : Gs} (I : Inv ws qs a) : ∀ m ∈ a.row, m.1 < qs.length := fun m hm => by
  obtain ⟨j, hj, rfl⟩ := List.getElem_of_mem hm
  have := I.ll
  exact link_lt (I.lk j a.row[j] _ _ (List.getElem?_eq_getElem hj) (List.getElem?_eq_getElem (by omega)) (List.getElem?_eq_getElem (by omega)))
theorem one_ok {ws : List Str} {qs : List QD} {a : Gs} {m : Mk} {k : Nat} {p : Ps} (g : NetG ws qs) (I : Inv ws qs a) (hm : m ∈ touchN qs (lsG a) k) (hp : InvP ws qs p) : InvP ws qs (one qs a p m) ∧ Phi (dgr qs) ws.length (one qs a p m) ≤ Phi (dgr qs) ws.length p + dgr qs ^ (ws.length - a.met.length) := by
  have pos : 1 ≤ dgr qs ^ (ws.length - a.met.length) := Nat.one_le_pow _ _ dgr_pos
  unfold one
  by_cases h1 : far qs m = hdG a
  · rw [if_pos h1]
    by_cases h2 : a.row ≠ [] ∧ m.1 ∉ a.row.map (·.1)
    · rw [if_pos h2]
      refine ⟨⟨hp.op, fun r hr => ?_⟩, ?_⟩
      · rcases List.mem_append.mp hr with hr | hr
        · exact hp.fd r hr
        · rw [List.mem_singleton.mp hr]
          have := inv_len I
          have := I.ll
          refine ⟨by simp, by rw [List.length_append, List.length_singleton]; omega, fun x hx => ?_⟩
          rcases List.mem_append.mp hx with hx | hx
          · exact row_lt I x hx
          · rw [List.mem_singleton.mp hx]
            exact link_lt (touch_link hm)
      · unfold Phi
        simp only [List.length_append, List.length_singleton]
        omega
    · rw [if_neg h2]
      exact ⟨hp, Nat.le_add_right _ _⟩
  · rw [if_neg h1]
    by_cases h2 : gtS (far qs m) (hdG a) = true ∧ far qs m ∉ a.met
    · rw [if_pos h2]
      have I2 := inv_push g I hm h2.2
      refine ⟨⟨fun b hb => ?_, hp.fd⟩, ?_⟩
      · rcases List.mem_append.mp hb with hb | hb
        · exact hp.op b hb
        · rw [List.mem_singleton.mp hb]
          exact I2
      · unfold Phi
        have hl2 := inv_len I2
        rw [List.length_append, List.length_singleton] at hl2
        have e : wtG (dgr qs) ws.length ⟨a.row ++ [m], a.met ++ [far qs m]⟩ = dgr qs ^ (ws.length - a.met.length) := by
          unfold wtG
          rw [List.length_append, List.length_singleton]
          congr 1
          omega
        simp only [List.map_append, List.sum_append, List.map_cons, List.map_nil, List.sum_cons, List.sum_nil, e]
        omega
    · rw [if_neg h2]
      exact ⟨hp, Nat.le_add_right _ _⟩
theorem fold_ok {ws : List Str} {qs : List QD} {a : Gs} {k : Nat} (g : NetG ws qs) (I : Inv ws qs a) : ∀ (ms : List Mk) (p : Ps), (∀ m ∈ ms, m ∈ touchN qs (lsG a) k) → InvP ws qs p → InvP ws qs (ms.foldl (one qs a) p) ∧ Phi (dgr qs) ws.length (ms.foldl (one qs a) p) ≤ Phi (dgr qs) ws.length p + ms.length * dgr qs ^ (ws.length - a.met.length)
  | [], p, _, hp => ⟨hp, Nat.le_add_right _ _⟩
  | m :: ms, p, hm, hp => by
    obtain ⟨h1, h2⟩ := one_ok g I (hm m List.mem_cons_self) hp
    obtain ⟨h3, h4⟩ := fold_ok g I ms (one qs a p m) (fun x hx => hm x (List.mem_cons_of_mem _ hx)) h1
    refine ⟨h3, ?_⟩
    rw [List.foldl_cons, List.length_cons, Nat.add_mul, Nat.one_mul]
    omega
theorem stp_ok {ws : List Str} {qs : List QD} {f : List (List Mk)} {o : List Gs} {a : Gs} (g : NetG ws qs) (hp : InvP ws qs (f, o ++ [a])) : InvP ws qs (stp qs f o a) ∧ Phi (dgr qs) ws.length (stp qs f o a) < Phi (dgr qs) ws.length (f, o ++ [a]) := by
  have I := hp.op a (List.mem_append_right _ List.mem_cons_self)
  have hp2 : InvP ws qs (f, o) := ⟨fun b hb => hp.op b (List.mem_append_left _ hb), hp.fd⟩
  obtain ⟨h1, h2⟩ := fold_ok (k := qs.length) g I (touchN qs (lsG a) qs.length) (f, o) (fun m hm => hm) hp2
  refine ⟨h1, ?_⟩
  have hl := inv_len I
  have e : wtG (dgr qs) ws.length a = dgr qs * dgr qs ^ (ws.length - a.met.length) := by
    unfold wtG
    have : ws.length + 1 - a.met.length = (ws.length - a.met.length) + 1 := by omega
    rw [this, Nat.pow_succ, Nat.mul_comm]
  have e2 : Phi (dgr qs) ws.length (f, o ++ [a]) = Phi (dgr qs) ws.length (f, o) + dgr qs * dgr qs ^ (ws.length - a.met.length) := by
    unfold Phi
    simp only [List.map_append, List.sum_append, List.map_cons, List.map_nil, List.sum_cons, List.sum_nil, e]
    omega
  have pos : 1 ≤ dgr qs ^ (ws.length - a.met.length) := Nat.one_le_pow _ _ dgr_pos
  have l9 : (touchN qs (lsG a) qs.length).length * dgr qs ^ (ws.length - a.met.length) + dgr qs ^ (ws.length - a.met.length) ≤ dgr qs * dgr qs ^ (ws.length - a.met.length) := by
    rw [← Nat.succ_mul]
    exact Nat.mul_le_mul_right _ touch_dgr
  rw [e2]
  have h2 : Phi (dgr qs) ws.length (stp qs f o a) ≤ Phi (dgr qs) ws.length (f, o) + (touchN qs (lsG a) qs.length).length * dgr qs ^ (ws.length - a.met.length) := h2
  omega
theorem take_phi {ws : List Str} {qs : List QD} {f : List (List Mk)} {o : List Gs} {a : Gs} (k : Nat) (g : NetG ws qs) (hp : InvP ws qs (f, o ++ [a])) : Phi (dgr qs) ws.length (((touchN qs (lsG a) qs.length).take k).foldl (one qs a) (f, o)) ≤ Phi (dgr qs) ws.length (f, o ++ [a]) := by
  have I := hp.op a (List.mem_append_right _ List.mem_cons_self)
  have hp2 : InvP ws qs (f, o) := ⟨fun b hb => hp.op b (List.mem_append_left _ hb), hp.fd⟩
  obtain ⟨h1, h2⟩ := fold_ok (k := qs.length) g I ((touchN qs (lsG a) qs.length).take k) (f, o) (fun m hm => List.mem_of_mem_take hm) hp2
  have hl := inv_len I
  have e : wtG (dgr qs) ws.length a = dgr qs * dgr qs ^ (ws.length - a.met.length) := by
    unfold wtG
    have : ws.length + 1 - a.met.length = (ws.length - a.met.length) + 1 := by omega
    rw [this, Nat.pow_succ, Nat.mul_comm]
  have e2 : Phi (dgr qs) ws.length (f, o ++ [a]) = Phi (dgr qs) ws.length (f, o) + dgr qs * dgr qs ^ (ws.length - a.met.length) := by
    unfold Phi
    simp only [List.map_append, List.sum_append, List.map_cons, List.map_nil, List.sum_cons, List.sum_nil, e]
    omega
  have l9 : ((touchN qs (lsG a) qs.length).take k).length * dgr qs ^ (ws.length - a.met.length) ≤ dgr qs * dgr qs ^ (ws.length - a.met.length) := Nat.mul_le_mul_right _ (by
    have := touch_dgr (qs := qs) (w := lsG a)
    rw [List.length_take]
    omega)
  rw [e2]
  omega
theorem len_phi {c : Nat} (hc : 1 ≤ c) (n : Nat) (p : Ps) : p.1.length ≤ Phi c n p ∧ p.2.length ≤ Phi c n p := by
  have h : ∀ l : List Gs, l.length ≤ (l.map (wtG c n)).sum := fun l => by
    induction l with
    | nil => exact Nat.zero_le _
    | cons a l ih =>
      rw [List.length_cons, List.map_cons, List.sum_cons]
      have : 1 ≤ wtG c n a := Nat.one_le_pow _ _ hc
      omega
  have := h p.2
  unfold Phi
  omega
def startP (ws : List Str) : Ps := ([], ws.map fun w => ⟨[], [w]⟩)
theorem start_ok {ws : List Str} {qs : List QD} : InvP ws qs (startP ws) := by
  refine ⟨fun a ha => ?_, fun r hr => absurd hr List.not_mem_nil⟩
  obtain ⟨w, hw, rfl⟩ := List.mem_map.mp ha
  refine ⟨rfl, by simp, fun x hx => ?_, fun k m x y h => ?_⟩
  · rw [List.mem_singleton.mp hx]
    exact hw
  · cases h
/-- few enough workers and queues at a worker -/
def Small (ws : List Str) (qs : List QD) : Prop := ws.length * dgr qs ^ ws.length ≤ 3200000
theorem start_phi {ws : List Str} {qs : List QD} (h : Small ws qs) : Phi (dgr qs) ws.length (startP ws) ≤ 3200000 := by
  have e : Phi (dgr qs) ws.length (startP ws) = ws.length * dgr qs ^ ws.length := by
    unfold Phi startP
    rw [List.length_nil, Nat.zero_add, List.map_map]
    have : ((wtG (dgr qs) ws.length) ∘ fun w : Str => (⟨[], [w]⟩ : Gs)) = fun _ => dgr qs ^ ws.length := by
      funext w
      show dgr qs ^ (ws.length + 1 - 1) = _
      rw [Nat.add_sub_cancel]
    rw [this]
    generalize dgr qs ^ ws.length = c
    clear h this
    induction ws with
    | nil => simp
    | cons w ws ih =>
      rw [List.map_cons, List.sum_cons, List.length_cons, Nat.add_mul, Nat.one_mul, ih]
      omega
  rw [e]
  exact h
theorem small_68 {ws : List Str} {qs : List QD} (h6 : ws.length ≤ 6) (h8 : qs.length ≤ 8) : Small ws qs := by
  have h1 : dgr qs ≤ 9 := Nat.le_trans dgr_le (by omega)
  have h2 : dgr qs ^ ws.length ≤ 9 ^ ws.length := Nat.pow_le_pow_left h1 _
  have h3 : 9 ^ ws.length ≤ 9 ^ 6 := Nat.pow_le_pow_right (by decide) h6
  unfold Small
  calc ws.length * dgr qs ^ ws.length ≤ 6 * 9 ^ 6 := Nat.mul_le_mul h6 (Nat.le_trans h2 h3)
    _ ≤ 3200000 := by decide
theorem Rn.total {ws : List Str} {qs : List QD} (g : NetG ws qs) : ∀ (N : Nat) (p : Ps), Phi (dgr qs) ws.length p < N → InvP ws qs p → ∃ r, Rn qs p r
  | 0, _, h, _ => absurd h (Nat.not_lt_zero _)
  | N + 1, (f, o), h, hp => by
    rcases List.eq_nil_or_concat o with e | ⟨o', a, e⟩
    · rw [e]
      exact ⟨f, .done f⟩
    · rw [List.concat_eq_append] at e
      rw [e] at h hp ⊢
      obtain ⟨h1, h2⟩ := stp_ok g hp
      obtain ⟨r, hr⟩ := Rn.total g N (stp qs f o' a) (by omega) h1
      exact ⟨r, .next f o' a r hr⟩
theorem Rn.rows {ws : List Str} {qs : List QD} (g : NetG ws qs) {p : Ps} {r : List (List Mk)} (h : Rn qs p r) : InvP ws qs p → InvP ws qs (r, []) ∧ r.length ≤ Phi (dgr qs) ws.length p := by
  induction h with
  | done f => exact fun hp => ⟨hp, by unfold Phi; simp⟩
  | next f o a r _ ih =>
    intro hp
    obtain ⟨h1, h2⟩ := stp_ok g hp
    obtain ⟨h3, h4⟩ := ih h1
    exact ⟨h3, by omega⟩
end Jl

set_option Elab.async false
set_option linter.all false
set_option maxRecDepth 100000
set_option maxHeartbeats 1000000
namespace Jl
open PySem PySem.Spec PyProof.Rows L2
open Evl (sz_of sz_lt)
section
variable {X : Cx}
/-! ### a, b = a list or a tuple -/
theorem pg_or {tg : Expr} {w1 w2 : TG} (h1 : PG X tg w1) (h2 : PG X tg w2) : PG X tg (fun v σ H Q => w1 v σ H Q ∨ w2 v σ H Q) := ⟨fun pins s σ H v u Q I r h => by
  rcases h with h | h
  · exact h1.run pins s σ H v u Q I r h
  · exact h2.run pins s σ H v u Q I r h⟩
def gSeq (K : PySem.W.Frag) (n : Nat) (t : TGs) : TG := fun v σ H Q => gTup K n t v σ H Q ∨ gLst K n t v σ H Q
theorem gSeq_at {K : PySem.W.Frag} {n : Nat} {t : TGs} {σ : L2.St} {H : Hp} {Q : L2.St → Hp → Prop} {a : Addr} {f : Bool} {xs : List V} (h : SqF f K H a xs) (hl : xs.length = n) (q : t xs σ H Q) : gSeq K n t (.ref a) σ H Q := by
  cases f with
  | true => exact .inl ⟨a, xs, rfl, h, hl, q⟩
  | false => exact .inr ⟨a, xs, rfl, h, hl, q⟩
theorem pg_seq {es : List Expr} {k n : Nat} {t : TGs} {pos : Pos} (h1 : PG X (.Tuple es k pos) (gTup X.K n t)) (h2 : PG X (.Tuple es k pos) (gLst X.K n t)) : PG X (.Tuple es k pos) (gSeq X.K n t) := pg_or h1 h2
/-! ### min(xs, default=None) of whole numbers -/
def rMinN (K : PySem.W.Frag) : List V → List V → Hp → VK → Prop := fun vs zs H Q => ∃ (a : Addr) (ns : List Int), vs = [V.ref a] ∧ zs = [V.non] ∧ SqL K H a (ns.map V.int) ∧ (ns = [] → Q .non H) ∧ ∀ n ms, ns = n :: ms → Q (.int (ms.foldl min n)) H
theorem reads_ints {h : Heap} : ∀ {ns : List Int} {us : List Value}, Vals (ns.map V.int) us → ∃ as, ReadsAll h us (ns.map PyData.int) as
  | [], _, .nil => ⟨[], .nil⟩
  | n :: ns, _, .cons r t => by
    obtain ⟨k, rfl⟩ := r
    obtain ⟨as, ha⟩ := reads_ints (ns := ns) t
    exact ⟨_, .cons (.int n k) ha⟩
theorem ck_minN (hc : X.calm = true) (hu : X.A.units + 64 < cLine) : CallRK X (.builtin "min") [Str.ofString "default"] (rMinN X.K) := by
  intro pins s σ H vs zs us ws Q I r rz h
  obtain ⟨a, ns, rfl, rfl, hs, q0, q⟩ := h
  obtain rfl := Vals.ref1 r
  obtain ⟨w1, rfl, e1⟩ := vals1 rz
  obtain rfl : w1 = Value.none := e1
  obtain ⟨its, rv, hl, hz⟩ := I.list hs
  obtain ⟨as, hr⟩ := reads_ints (h := s.heap) rv
  have hd0 : ∀ l : List Int, PyData.depthAll (l.map PyData.int) = 0 := fun l => by
    induction l with
    | nil => simp [PyData.depthAll]
    | cons x l ih => simp [PyData.depthAll, PyData.depth, ih]
  show wpAny _ _ (call (.builtin "min") [.ref a] [(Str.ofString "default", Value.none)]) _ _ _
  refine PySem.W.min_list_default (vs := its.toArray) (I.ok.hd hc) hl.isList (by simpa using hr) ⟨fun x hx y hy => ?_, fun x hx => ?_⟩ (by rw [hd0]; omega) (fun e h' tk hk => ?_) (fun y ys i v h' tk bs e hv hrd hk => ?_)
  · obtain ⟨i, _, rfl⟩ := List.mem_map.mp hx
    obtain ⟨j, _, rfl⟩ := List.mem_map.mp hy
    simp [PySem.W.alike]
  · obtain ⟨i, _, rfl⟩ := List.mem_map.mp hx
    simp
  · have e0 : ns = [] := List.map_eq_nil_iff.mp e
    exact ⟨.non, H, I.kept (t' := tk) hk, rfl, q0 e0⟩
  · cases ns with
    | nil => cases e
    | cons n ms =>
      cases e
      rw [PySem.W.minD_ints] at hrd
      cases hrd with
      | int i t => exact ⟨.int _, H, I.kept (t' := tk) hk, ⟨t, rfl⟩, q n ms rfl⟩
end
end Jl

set_option Elab.async false
set_option linter.all false
set_option maxRecDepth 100000
set_option maxHeartbeats 1000000
set_option pp.maxSteps 300
namespace Jl
open PySem PySem.Spec PyProof.Rows L2
open Evl (sz_of sz_lt)
local macro_rules | `(tactic| walk_at "at") => `(tactic| first | exact box0 | exact box1 | exact box2)
local macro_rules | `(tactic| walk_at "sq") => `(tactic| first | (show SqL _ _ _ _; assumption) | (show SqT _ _ _ _; assumption) | (show _ = some _; assumption))
local macro_rules | `(tactic| walk_at "side") => `(tactic| first
  | (show (0 : Int) < _; decide)
  | (show (0 : Int) < _; omega)
  | exact ⟨by decide, by decide, by decide⟩
  | exact sz_of (Nat.le_of_ble_eq_true rfl)
  | exact rfl
  | exact Or.inl (by decide)
  | exact Or.inr (by decide)
  | exact Or.inr ⟨by omega, by omega⟩
  | exact Or.inl ⟨by omega, by omega⟩
  | exact ⟨by decide, by decide +kernel⟩)
local macro_rules | `(tactic| walk_at "ev1") => `(tactic| first
  | refine ⟨_, rfl, ?_⟩
  | refine ⟨_, _, rfl, rfl, ?_⟩
  | refine ⟨_, _, _, _, rfl, rfl, (by walk_at "sq"), (by walk_at "at"), ?_⟩
  | refine ⟨_, _, rfl, (by walk_at "sq"), ?_⟩
  | refine ⟨_, _, rfl, Or.inl (by walk_at "sq"), ?_⟩
  | refine ⟨_, _, rfl, Or.inr (by walk_at "sq"), ?_⟩
  | refine Or.inl ⟨_, rfl, ?_⟩
  | refine Or.inr ⟨_, rfl, ?_⟩
  | refine ⟨(by walk_at "side"), ?_⟩
  | refine ⟨.inl ⟨rfl, _, (by walk_at "sq")⟩, ?_⟩
  | refine ⟨_, _, rfl, ?_⟩)
local macro_rules | `(tactic| walk_at "nrm") => `(tactic| dsimp only [tNil, tCons, tC, tCB])
local macro_rules | `(tactic| walk_at "ev") => `(tactic| repeat (walk_at "ev1"))

abbrev sc_step_over_N : List Str := ["queue", "place", "name", "start", "end", "room", "notice"]
abbrev s_step_over : Stmt := topS 8
theorem sc_step_over : FnScope ["queue", "place", "name", "start", "end", "room", "notice"] ["queue", "place"] (defScope s_step_over) := ⟨rfl, rfl, rfl, by decide +kernel, rfl, by decide +kernel, by decide +kernel⟩
/-! ### steps as data -/
def alS : Str := Str.ofString "along"
def agS : Str := Str.ofString "against"
def mvd (nm : Str) (al : Bool) (to : Str) (pr : Int) : PyData := .tuple [.tuple [.str nm, .str (if al = true then alS else agS)], .str to, .int pr]
section
variable {P : Program} {w : World} {K : PySem.W.Frag} {mg : Str → Option Value} {base : Heap}
def spStep (K : PySem.W.Frag) : Sp := fun vs H Q _ => ∃ (a : Addr) (fb : Bool) (nm st en : Str) (room gap : Int) (w : Str) (S : List Addr), vs = [.ref a, .str w] ∧ SqF fb K H a [.str nm, .str st, .str en, .int room, .int gap] ∧ Trk S H ∧ st ≠ en ∧ (w = st ∨ w = en) ∧
  ∀ H' v, Same H H' → Dp K (cutS S H') v (if w = st then mvd nm true en room else mvd nm false st (1 - gap)) → Q v H'
theorem ok_step_over {f : Addr} {fd : FuncData} {k : Nat} (F : Fun K "step_over" "step_over" s_step_over f fd) : FnOk P w K mg base CX0 (k + 1) f fd ["queue", "place"] (spStep K) := by
  refine F.ok sc_step_over (fun vs H Q E h => ?_) (fun cdv A outer s0 H vs Q E hr h => ?_)
  · obtain ⟨a, fb, nm, st, en, room, gap, w, S, rfl, _⟩ := h
    rfl
  · obtain ⟨a, fb, nm, st, en, room, gap, w, S, rfl, hs, hT, hne, hw, q⟩ := h
    refine ⟨_, (pss_cons (ps_asg (pv 0) (pg_seq (pg_tup rfl (pgs_cons (pg_name (i := 2) sc_step_over.nd rfl (Or.inl rfl)) (pgs_cons (pg_name (i := 3) sc_step_over.nd rfl (Or.inl rfl)) (pgs_cons (pg_name (i := 4) sc_step_over.nd rfl (Or.inl rfl)) (pgs_cons (pg_name (i := 5) sc_step_over.nd rfl (Or.inl rfl)) (pgs_cons (pg_name (i := 6) sc_step_over.nd rfl (Or.inl rfl)) pgs_nil)))))) (pg_lst rfl (pgs_cons (pg_name (i := 2) sc_step_over.nd rfl (Or.inl rfl)) (pgs_cons (pg_name (i := 3) sc_step_over.nd rfl (Or.inl rfl)) (pgs_cons (pg_name (i := 4) sc_step_over.nd rfl (Or.inl rfl)) (pgs_cons (pg_name (i := 5) sc_step_over.nd rfl (Or.inl rfl)) (pgs_cons (pg_name (i := 6) sc_step_over.nd rfl (Or.inl rfl)) pgs_nil)))))))) 
    (pss_cons (ps_if (pt_cmpR op_eq (pv 1) (pv 3) (nomark _)) (pss_one (ps_ret (pe_tup (pa_cons (pe_tup (pa_cons (pv 2) (pa_cons pe_str pa_nil))) (pa_cons (pv 4) (pa_cons (pv 5) pa_nil)))))) pss_nil) 
    (pss_cons (ps_if (pt_cmpR op_eq (pv 1) (pv 4) (nomark _)) (pss_one (ps_ret (pe_tup (pa_cons (pe_tup (pa_cons (pv 2) (pa_cons pe_str pa_nil))) (pa_cons (pv 3) (pa_cons (pe_op op_sub pe_int (pv 6)) pa_nil)))))) pss_nil) 
    (pss_one (ps_ret pe_non))))), ?_⟩
    refine ⟨_, rfl, ?_⟩
    refine gSeq_at hs rfl ?_
    refine ⟨_, _, rfl, ?_⟩
    refine ⟨_, _, rfl, ?_⟩
    refine ⟨_, _, rfl, ?_⟩
    refine ⟨_, _, rfl, ?_⟩
    refine ⟨_, _, rfl, rfl, ?_⟩
    walk_at "ev"
    have ed : ∀ x y : Str, decide (V.str x = V.str y) = decide (x = y) := fun x y => decide_eq_decide.mpr ⟨V.str.inj, congrArg _⟩
    rw [ed]
    have tup : ∀ (H0 : Hp) (al : Bool) (to : Str) (pr : Int) (p1 p2 : Addr), Trk S H0 → H0 p1 = none → (upd H0 p1 (.tup [.str nm, .str (if al = true then alS else agS)])) p2 = none →
        Dp K (cutS S (upd (upd H0 p1 (.tup [.str nm, .str (if al = true then alS else agS)])) p2 (.tup [.ref p1, .str to, .int pr]))) (.ref p2) (mvd nm al to pr) := fun H0 al to pr p1 p2 t h1 h2 =>
      dp_tup (t.mono (.upd h1)) h2 (.cons (dp_tup t h1 (.cons (.str _) (.cons (.str _) .nil))) (.cons (.str _) (.cons (.int _) .nil)))
    by_cases e1 : w = st
    · rw [decide_eq_true e1]
      rw [if_pos e1] at q
      refine iteT ?_
      walk_at "ev"
      intro p1 h1
      walk_at "ev"
      intro p2 h2
      exact q _ _ ((Same.upd h1).trans (.upd h2)) (tup H true en room p1 p2 hT h1 h2)
    · rw [decide_eq_false e1]
      rw [if_neg e1] at q
      refine iteF ?_
      have e2 : w = en := hw.resolve_left e1
      walk_at "ev"
      rw [ed, decide_eq_true e2]
      refine iteT ?_
      walk_at "ev"
      intro p1 h1
      walk_at "ev"
      intro p2 h2
      exact q _ _ ((Same.upd h1).trans (.upd h2)) (tup H false st (1 - gap) p1 p2 hT h1 h2)
end
end Jl

set_option Elab.async false
set_option linter.all false
set_option maxRecDepth 100000
set_option maxHeartbeats 1000000
set_option pp.maxSteps 300
namespace Jl
open PySem PySem.Spec PyProof.Rows L2
open Evl (sz_of sz_lt)
local macro_rules | `(tactic| walk_at "at") => `(tactic| first | exact box0 | exact box1 | exact box2)
local macro_rules | `(tactic| walk_at "sq") => `(tactic| first | (show SqL _ _ _ _; assumption) | (show SqT _ _ _ _; assumption) | (show _ = some _; assumption))
local macro_rules | `(tactic| walk_at "side") => `(tactic| first
  | (show (0 : Int) < _; decide)
  | (show (0 : Int) < _; omega)
  | exact ⟨by decide, by decide, by decide⟩
  | exact sz_of (Nat.le_of_ble_eq_true rfl)
  | exact rfl
  | exact Or.inl (by decide)
  | exact Or.inr (by decide)
  | exact Or.inr ⟨by omega, by omega⟩
  | exact Or.inl ⟨by omega, by omega⟩
  | exact ⟨by decide, by decide +kernel⟩)
local macro_rules | `(tactic| walk_at "ev1") => `(tactic| first
  | refine ⟨_, rfl, ?_⟩
  | refine ⟨_, _, rfl, rfl, ?_⟩
  | refine ⟨_, _, _, _, rfl, rfl, (by walk_at "sq"), (by walk_at "at"), ?_⟩
  | refine ⟨_, _, rfl, (by walk_at "sq"), ?_⟩
  | refine ⟨_, _, rfl, Or.inl (by walk_at "sq"), ?_⟩
  | refine ⟨_, _, rfl, Or.inr (by walk_at "sq"), ?_⟩
  | refine Or.inl ⟨_, rfl, ?_⟩
  | refine Or.inr ⟨_, rfl, ?_⟩
  | refine ⟨(by walk_at "side"), ?_⟩
  | refine ⟨.inl ⟨rfl, _, (by walk_at "sq")⟩, ?_⟩
  | refine ⟨_, _, rfl, ?_⟩)
local macro_rules | `(tactic| walk_at "nrm") => `(tactic| dsimp only [tNil, tCons, tC, tCB])
local macro_rules | `(tactic| walk_at "ev") => `(tactic| repeat (walk_at "ev1"))

/-! ### a dict of new lists -/
def kvl (ks : List Str) (ls : List Addr) : List (Key × V) := (ks.zip ls).map fun p => ((.inr p.1 : Key), V.ref p.2)
theorem valV_kvl : ∀ {ks : List Str} {ls : List Addr} {i : Nat} {k : Str} {l : Addr}, ks.Nodup → ks[i]? = some k → ls[i]? = some l → valV (kvl ks ls) (.inr k) = some (.ref l)
  | [], _, i, _, _, _, h, _ => by simp at h
  | _ :: _, [], i, _, _, _, _, h => by simp at h
  | x :: ks, y :: ls, 0, k, l, _, h1, h2 => by
    simp at h1 h2
    subst h1 h2
    exact valV_pos rfl
  | x :: ks, y :: ls, i + 1, k, l, hn, h1, h2 => by
    have h1' : ks[i]? = some k := by simpa using h1
    have h2' : ls[i]? = some l := by simpa using h2
    have hn' := List.nodup_cons.mp hn
    have ne : x ≠ k := fun e => hn'.1 (by rw [e]; exact List.mem_of_getElem? h1')
    show valV ((.inr x, .ref y) :: kvl ks ls) (.inr k) = _
    rw [valV_neg (fun e => ne (Sum.inr.inj e))]
    exact valV_kvl hn'.2 h1' h2'
theorem valV_kvl_no : ∀ {ks : List Str} {ls : List Addr} {k : Str}, k ∉ ks → valV (kvl ks ls) (.inr k) = none
  | [], _, _, _ => rfl
  | _ :: _, [], _, _ => rfl
  | x :: ks, y :: ls, k, h => by
    show valV ((.inr x, .ref y) :: kvl ks ls) (.inr k) = _
    rw [valV_neg (fun e => h (by rw [← Sum.inr.inj e]; exact List.mem_cons_self))]
    exact valV_kvl_no fun z => h (List.mem_cons_of_mem _ z)
theorem dget_kvl {H : Hp} {M : Addr} {ks : List Str} {ls : List Addr} {i : Nat} {k : Str} {l : Addr} (hn : ks.Nodup) (h1 : ks[i]? = some k) (h2 : ls[i]? = some l) (hM : H M = some (.dK (kvl ks ls))) : DGet H M (V.str k) (some (.ref l)) := by
  have := DGet.k (k := .inr k) hM
  rw [valV_kvl hn h1 h2] at this
  exact this
theorem kvl_push {ks : List Str} {ls : List Addr} {k : Str} {l : Addr} (h : ks.length = ls.length) : kvl (ks ++ [k]) (ls ++ [l]) = kvl ks ls ++ [(.inr k, .ref l)] := by
  unfold kvl
  rw [List.zip_append h, List.map_append]
  rfl
theorem dc_new {K : PySem.W.Frag} {tl tk tv : TE} {j : Nat} {vs : List Nat} {σ : L2.St} {H H0 : Hp} {Q : VK} {a : Addr} {fb : Bool} {xs : List V} {ks : List Str} (hn : ks.Nodup) (hlen : xs.length = ks.length)
    (ht : ∀ R' : VK, R' (.ref a) H0 → tl σ H R') (hs : SqF fb K H0 a xs) (hl : xs.length ≤ 1000) (hw : ∀ x, wipe ((wipe σ vs).set j (some x)) vs = wipe σ vs)
    (hk : ∀ (i : Nat) (x : V) (z : Str) (H1 : Hp) (Q' : VK), xs[i]? = some x → ks[i]? = some z → Same H0 H1 → Q' (.str z) H1 → tk ((wipe σ vs).set j (some x)) H1 Q') (hv : ∀ (x : V) (H1 : Hp) (Q' : VK), (∀ l, H1 l = none → Q' (.ref l) (upd H1 l (.lst []))) → tv ((wipe σ vs).set j (some x)) H1 Q')
    (q : ∀ (D : Addr) (ls : List Addr) (H1 : Hp), Same H0 H1 → H0 D = none → ls.length = ks.length → ls.Nodup → D ∉ ls → (∀ l ∈ ls, H0 l = none ∧ H1 l = some (.lst [])) → H1 D = some (.dK (kvl ks ls)) → Q (.ref D) H1) : tDcX (iSeq K tl) (gName j) tYes tk tv vs σ H Q := by
  refine dc_of ?_
  refine iSeq_at ht hs fun J w D hD => ?_
  refine ⟨fun i m H1 => m = xs.length - i ∧ i ≤ xs.length ∧ ∃ ls : List Addr, ls.length = i ∧ Same H0 H1 ∧ ls.Nodup ∧ D ∉ ls ∧ (∀ l ∈ ls, H0 l = none ∧ H1 l = some (.lst [])) ∧ H1 D = some (.dK (kvl (ks.take i) ls)), ⟨_, rfl, Nat.zero_le _, [], rfl, .upd hD, List.nodup_nil, List.not_mem_nil, fun l h => absurd h List.not_mem_nil, upd_same⟩, fun i m H1 hW => ?_⟩
  obtain ⟨rfl, hi, ls, w1, w2, w3, w4, w5, w6⟩ := hW
  have hG : SqF fb K H1 a xs := w2.sqF hs
  by_cases hlt : i < xs.length
  · refine .inr ⟨w.goes i _ (by omega) hG, fun H2 => i + 1 ≤ xs.length ∧ ∃ ls : List Addr, ls.length = i + 1 ∧ Same H0 H2 ∧ ls.Nodup ∧ D ∉ ls ∧ (∀ l ∈ ls, H0 l = none ∧ H2 l = some (.lst [])) ∧ H2 D = some (.dK (kvl (ks.take (i + 1)) ls)), fun H2 e => ⟨xs.length - (i + 1), by omega, rfl, e.1, e.2⟩, fun x H2 y => ?_⟩
    obtain ⟨rfl, hx⟩ := w.yields i _ x H2 (by omega) hG y
    have hlt2 : i < ks.length := by omega
    refine ⟨hw _, ?_⟩
    dsimp only [tYes]
    rw [if_pos rfl]
    refine hk i x ks[i] _ _ hx (List.getElem?_eq_getElem hlt2) w2 (hv _ _ _ fun l hl0 => ?_)
    have nD : D ≠ l := ne_of_none w6 hl0
    have ek : ks.take (i + 1) = ks.take i ++ [ks[i]] := by rw [List.take_add_one, List.getElem?_eq_getElem hlt2]; rfl
    refine ⟨_, .inr ks[i], rfl, by rw [upd_ne nD]; exact w6, ?_, ?_⟩
    · unfold kvl
      rw [List.length_map, List.length_zip, List.length_take]
      exact sz_lt (by omega)
    · have hno : valV (kvl (ks.take i) ls) (.inr ks[i]) = none := valV_kvl_no fun hm => by
        obtain ⟨k, hk1, hk2⟩ := List.mem_take_iff_getElem.mp hm
        have := nd_ix hn (List.getElem?_eq_getElem hlt2) (by rw [List.getElem?_eq_getElem (show k < ks.length by omega)]; exact congrArg some hk2)
        omega
      have hl0' : H0 l = none := w2.free hl0
      have hnl : l ∉ ls := fun z => by
        have := (w5 l z).2
        rw [hl0] at this
        cases this
      refine ⟨by omega, ls ++ [l], by rw [List.length_append, w1]; rfl, ?_, ?_, ?_, fun z hz => ?_, ?_⟩
      · exact (w2.trans (.upd hl0)).mut hD
      · refine List.nodup_append.mpr ⟨w3, by simp, fun x hx y hy => ?_⟩
        rw [List.mem_singleton.mp hy]
        exact fun e => hnl (by rw [← e]; exact hx)
      · intro z
        rcases List.mem_append.mp z with z | z
        · exact w4 z
        · exact nD (List.mem_singleton.mp z)
      · rcases List.mem_append.mp hz with hz | hz
        · have hzD : z ≠ D := fun e => w4 (by rw [← e]; exact hz)
          have hzl : z ≠ l := fun e => hnl (by rw [← e]; exact hz)
          refine ⟨(w5 z hz).1, ?_⟩
          rw [upd_ne hzD, upd_ne hzl]
          exact (w5 z hz).2
        · rw [List.mem_singleton.mp hz]
          refine ⟨hl0', ?_⟩
          rw [upd_ne nD.symm, upd_same]
      · rw [upd_same, putK_new _ hno, ek, kvl_push (by rw [List.length_take, w1]; omega)]
  · have e : i = xs.length := by omega
    subst e
    refine .inl ⟨w.stops _ hG, ?_⟩
    rw [hlen, List.take_length] at w6
    exact q D ls H1 w2 hD (by rw [w1, hlen]) w3 w4 w5 w6
/-! ### the lists of a dict, as they grow -/
structure MvS (K : PySem.W.Frag) (H0 : Hp) (M : Addr) (ws : List Str) (ls : List Addr) (ms : Str → List PyData) (H : Hp) : Prop where
  s0 : Same H0 H
  hM : H M = some (.dK (kvl ws ls))
  hl : ∀ (i : Nat) (w : Str) (l : Addr), ws[i]? = some w → ls[i]? = some l → ∃ vs, H l = some (.lst vs) ∧ DpAll K (cutS ls H) vs (ms w)
theorem MvS.same {K : PySem.W.Frag} {H0 : Hp} {M : Addr} {ws : List Str} {ls : List Addr} {ms : Str → List PyData} {H H' : Hp} (m : MvS K H0 M ws ls ms H) (e : Same H H') : MvS K H0 M ws ls ms H' :=
  ⟨m.s0.trans e, e _ _ m.hM, fun i w l h1 h2 => by
    obtain ⟨vs, g1, g2⟩ := m.hl i w l h1 h2
    exact ⟨vs, e _ _ g1, (cutS_mono e).dpa g2⟩⟩
theorem MvS.push {K : PySem.W.Frag} {H0 : Hp} {M : Addr} {ws : List Str} {ls : List Addr} {ms : Str → List PyData} {H : Hp} {i : Nat} {w : Str} {l : Addr} {vs : List V} {v : V} {d : PyData} (m : MvS K H0 M ws ls ms H) (hn : ws.Nodup) (hnl : ls.Nodup) (hM : M ∉ ls) (hf : ∀ l ∈ ls, H0 l = none)
    (hi : ws[i]? = some w) (hl : ls[i]? = some l) (hv : H l = some (.lst vs)) (hva : DpAll K (cutS ls H) vs (ms w)) (hd : Dp K (cutS ls H) v d) : MvS K H0 M ws ls (fun x => if x = w then ms x ++ [d] else ms x) (upd H l (.lst (vs ++ [v]))) := by
  have hml := List.mem_of_getElem? hl
  have eC : cutS ls (upd H l (.lst (vs ++ [v]))) = cutS ls H := cutS_upd hml
  refine ⟨m.s0.mut (hf l hml), ?_, fun i' w' l' h1 h2 => ?_⟩
  · rw [upd_ne (fun e => hM (by rw [e]; exact hml))]
    exact m.hM
  · rw [eC]
    by_cases e : i' = i
    · subst e
      rw [hi] at h1
      rw [hl] at h2
      cases h1
      cases h2
      refine ⟨_, upd_same, ?_⟩
      try dsimp only
      rw [if_pos rfl]
      exact dpa_app hva (dpa_one hd)
    · have nl : l' ≠ l := fun z => e (nd_ix hnl h2 (by rw [z]; exact hl))
      have nw : w' ≠ w := fun z => e (nd_ix hn h1 (by rw [z]; exact hi))
      obtain ⟨us, g1, g2⟩ := m.hl i' w' l' h1 h2
      refine ⟨us, by rw [upd_ne nl]; exact g1, ?_⟩
      try dsimp only
      rw [if_neg nw]
      exact g2
/-- a comprehension over data, its element told by a function of data -/
theorem lc_dataD {K : PySem.W.Frag} {tl te : TE} {j : Nat} {vs : List Nat} {σ : L2.St} {H H0 : Hp} {Q : VK} {a : Addr} {fb : Bool} {xs : List V} {ds : List PyData} {S : List Addr} (g : PyData → PyData)
    (ht : ∀ R' : VK, R' (.ref a) H0 → tl σ H R') (hs : SqF fb K H0 a xs) (ha : DpAll K (cutS S H0) xs ds) (hT : Trk S H0) (hl : ds.length ≤ 4000000)
    (hw : ∀ x, wipe ((wipe σ vs).set j (some x)) vs = wipe σ vs)
    (he : ∀ (x : V) (d : PyData) (H1 : Hp) (T : List Addr), d ∈ ds → Trk T H1 → Dp K (cutS T H1) x d → ∀ Q' : VK, (∀ H2 y, Same H1 H2 → Dp K (cutS T H2) y (g d) → Q' y H2) → te ((wipe σ vs).set j (some x)) H1 Q')
    (q : ∀ D ys H', Same H0 H' → H0 D = none → H' D = some (.lst ys) → DpAll K (cutS (D :: S) H') ys (ds.map g) → Q (.ref D) H') : tLcX (iSeq K tl) (gName j) tYes te vs σ H Q := by
  have ll := dpa_len ha
  refine lc_of ?_
  refine iSeq_at ht hs fun J w D hD => ?_
  refine lc_it w (fun i H1 => ∃ ys, Same H0 H1 ∧ H1 D = some (.lst ys) ∧ DpAll K (cutS (D :: S) H1) ys ((ds.take i).map g)) ⟨[], .upd hD, upd_same, .nil⟩ (fun i H1 _ p => ?_) (fun i x H1 H1' hi p y => ?_) (fun H1 p => ?_)
  · obtain ⟨ys, e1, _⟩ := p
    exact e1.sqF hs
  · obtain ⟨ys, e1, e2, e3⟩ := p
    obtain ⟨rfl, hx⟩ := y
    obtain ⟨d, hd, hxd⟩ := dpa_get ha hx
    refine ⟨hw x, ?_⟩
    dsimp only [tYes]
    rw [if_pos rfl]
    have s3 : Same (cutS S H0) (cutS (D :: S) H1') := cutS_into e1 hD
    have hxd1 : Dp K (cutS (D :: S) H1') x d := s3.dp hxd
    refine he x d H1' (D :: S) (List.mem_of_getElem? hd) ((hT.mono e1).cons e2) hxd1 _ fun H2 y s2 hy => ?_
    refine ⟨ys, s2 _ _ e2, ?_, ys ++ [y], ?_, upd_same, ?_⟩
    · have := dpa_len e3
      rw [this, List.length_map, List.length_take]
      exact szL (by omega)
    · exact (e1.trans s2).mut hD
    · rw [cutS_upd List.mem_cons_self, List.take_add_one, hd, List.map_append]
      exact dpa_app ((cutS_mono s2).dpa e3) (dpa_one hy)
  · obtain ⟨ys, e1, e2, e3⟩ := p
    refine q D ys H1 e1 hD e2 ?_
    have e4 : (ds.take xs.length).map g = ds.map g := by rw [List.take_of_length_le (by omega)]
    rw [e4] at e3
    exact e3
/-! ### two lists that grow -/
structure W2 (K : PySem.W.Frag) (Hs : Hp) (F O : Addr) (H : Hp) (fv ov : List V) (fd od : List PyData) : Prop where
  hF : H F = some (.lst fv)
  hO : H O = some (.lst ov)
  dF : DpAll K (cutS [F, O] H) fv fd
  dO : DpAll K (cutS [F, O] H) ov od
  hS : Same Hs (cutS [F, O] H)
theorem W2.same {K : PySem.W.Frag} {Hs : Hp} {F O : Addr} {H H' : Hp} {fv ov : List V} {fd od : List PyData} (w : W2 K Hs F O H fv ov fd od) (e : Same H H') : W2 K Hs F O H' fv ov fd od := ⟨e _ _ w.hF, e _ _ w.hO, (cutS_mono e).dpa w.dF, (cutS_mono e).dpa w.dO, w.hS.trans (cutS_mono e)⟩
theorem W2.trk {K : PySem.W.Frag} {Hs : Hp} {F O : Addr} {H : Hp} {fv ov : List V} {fd od : List PyData} (w : W2 K Hs F O H fv ov fd od) : Trk [F, O] H := Trk.cons (Trk.cons Trk.nil w.hO) w.hF
theorem W2.pushF {K : PySem.W.Frag} {Hs : Hp} {F O : Addr} {H : Hp} {fv ov : List V} {fd od : List PyData} {v : V} {d : PyData} (w : W2 K Hs F O H fv ov fd od) (ne : F ≠ O) (h : Dp K (cutS [F, O] H) v d) : W2 K Hs F O (upd H F (.lst (fv ++ [v]))) (fv ++ [v]) ov (fd ++ [d]) od := by
  have e : cutS [F, O] (upd H F (.lst (fv ++ [v]))) = cutS [F, O] H := cutS_upd List.mem_cons_self
  exact ⟨upd_same, by rw [upd_ne ne.symm]; exact w.hO, by rw [e]; exact dpa_app w.dF (dpa_one h), by rw [e]; exact w.dO, by rw [e]; exact w.hS⟩
theorem W2.setO {K : PySem.W.Frag} {Hs : Hp} {F O : Addr} {H : Hp} {fv ov ov' : List V} {fd od od' : List PyData} (w : W2 K Hs F O H fv ov fd od) (ne : F ≠ O) (h : DpAll K (cutS [F, O] H) ov' od') : W2 K Hs F O (upd H O (.lst ov')) fv ov' fd od' := by
  have e : cutS [F, O] (upd H O (.lst ov')) = cutS [F, O] H := cutS_upd (List.mem_cons_of_mem _ List.mem_cons_self)
  exact ⟨by rw [upd_ne ne]; exact w.hF, upd_same, by rw [e]; exact w.dF, by rw [e]; exact h, by rw [e]; exact w.hS⟩
theorem cut_upd2 {F O : Addr} {H : Hp} {o : HO} : cutS [F, O] (upd H F o) = cutS [F, O] H ∧ cutS [F, O] (upd H O o) = cutS [F, O] H := ⟨cutS_upd List.mem_cons_self, cutS_upd (List.mem_cons_of_mem _ List.mem_cons_self)⟩
/-! ### data written out, beside a cut -/
def IsC (K : PySem.W.Frag) (S : List Addr) (H0 : Hp) (te : TE) (d : PyData) (σ : L2.St) : Prop := ∀ (H : Hp) (Q : VK), Same H0 H → Trk S H → (∀ H' v, Same H H' → Dp K (cutS S H') v d → Q v H') → te σ H Q
def AreC (K : PySem.W.Frag) (S : List Addr) (H0 : Hp) (t : TA) (ds : List PyData) (σ : L2.St) : Prop := ∀ (H : Hp) (Q : List V → Hp → Prop), Same H0 H → Trk S H → (∀ H' vs, Same H H' → DpAll K (cutS S H') vs ds → Q vs H') → t σ H Q
def RdL (K : PySem.W.Frag) (S : List Addr) (H0 : Hp) (te : TE) (ds : List PyData) (σ : L2.St) : Prop := ∀ (H : Hp) (Q : VK), Same H0 H → Trk S H → (∀ H' p vs, Same H H' → H' p = some (.lst vs) → DpAll K (cutS S H') vs ds → Q (.ref p) H') → te σ H Q
def NwL (K : PySem.W.Frag) (S : List Addr) (H0 : Hp) (te : TE) (ds : List PyData) (σ : L2.St) : Prop := ∀ (H : Hp) (Q : VK), Same H0 H → Trk S H → (∀ H' p vs, Same H H' → H p = none → H' p = some (.lst vs) → DpAll K (cutS (p :: S) H') vs ds → Q (.ref p) H') → te σ H Q
section
variable {K : PySem.W.Frag} {S : List Addr} {H0 : Hp} {σ : L2.St}
theorem ic_int {i : Int} : IsC K S H0 (tC (.int i)) (.int i) σ := fun H Q _ _ q => q H _ (fun _ _ e => e) (.int i)
theorem ic_str {x : Str} : IsC K S H0 (tC (.str x)) (.str x) σ := fun H Q _ _ q => q H _ (fun _ _ e => e) (.str x)
theorem ic_bl {b : Bool} : IsC K S H0 (tC (.bl b)) (.bool b) σ := fun H Q _ _ q => q H _ (fun _ _ e => e) (.bl b)
theorem ic_non : IsC K S H0 (tC .non) .none σ := fun H Q _ _ q => q H _ (fun _ _ e => e) .non
theorem ic_neg {i : Int} : IsC K S H0 (tUn (rU fun i => .int (-i)) (tC (.int i))) (.int (-i)) σ := fun H Q _ _ q => ⟨i, rfl, q H _ (fun _ _ e => e) (.int (-i))⟩
theorem ic_pow {i j : Int} (h : CPow i j) : IsC K S H0 (tOp (rI CPow fun i j => .int (i ^ j.toNat)) (tC (.int i)) (tC (.int j))) (.int (i ^ j.toNat)) σ := fun H Q _ _ q => ⟨i, j, rfl, rfl, h, q H _ (fun _ _ e => e) (.int _)⟩
theorem ac_nil : AreC K S H0 tNil [] σ := fun H Q _ _ q => q H _ (fun _ _ e => e) .nil
theorem ac_cons {te : TE} {t : TA} {d : PyData} {ds : List PyData} (h1 : IsC K S H0 te d σ) (h2 : AreC K S H0 t ds σ) : AreC K S H0 (tCons te t) (d :: ds) σ := fun H Q e tr q =>
  h1 H _ e tr fun H1 v s1 d1 => h2 H1 _ (e.trans s1) (tr.mono s1) fun H2 vs s2 d2 => q H2 (v :: vs) (s1.trans s2) (.cons ((cutS_mono s2).dp d1) d2)
theorem ic_tup {t : TA} {ds : List PyData} (h : AreC K S H0 t ds σ) (hl : ds.length ≤ 1000) : IsC K S H0 (tTup t) (.tuple ds) σ := fun H Q e tr q =>
  h H _ e tr fun H1 vs s1 d1 => ⟨Nat.le_of_lt (sz_lt (by rw [dpa_len d1]; omega)), fun p hp => q _ _ (s1.trans (.upd hp)) (dp_tup (tr.mono s1) hp d1)⟩
theorem ic_lst {t : TA} {ds : List PyData} (h : AreC K S H0 t ds σ) (hl : ds.length ≤ 1000) : IsC K S H0 (tLst t) (.list ds) σ := fun H Q e tr q =>
  h H _ e tr fun H1 vs s1 d1 => ⟨Nat.le_of_lt (sz_lt (by rw [dpa_len d1]; omega)), fun p hp => q _ _ (s1.trans (.upd hp)) (dp_lst (tr.mono s1) hp d1)⟩
theorem nw_lst {t : TA} {ds : List PyData} (h : AreC K S H0 t ds σ) (hl : ds.length ≤ 1000) : NwL K S H0 (tLst t) ds σ := fun H Q e tr q =>
  h H _ e tr fun H1 vs s1 d1 => ⟨Nat.le_of_lt (sz_lt (by rw [dpa_len d1]; omega)), fun p hp => q _ p vs (s1.trans (.upd hp)) (s1.free hp) upd_same ((cutS_into (.upd hp) hp).dpa d1)⟩
theorem rd_nw {te : TE} {ds : List PyData} (h : NwL K S H0 te ds σ) : RdL K S H0 te ds σ := fun H Q e tr q => h H Q e tr fun H' p vs s1 _ h1 d1 => q H' p vs s1 h1 (cutS_tail.dpa d1)
theorem rd_var {i : Nat} {p : Addr} {vs : List V} {ds : List PyData} (hi : σ[i]? = some (some (.ref p))) (hp : H0 p = some (.lst vs)) (hd : DpAll K (cutS S H0) vs ds) : RdL K S H0 (tVar i) ds σ := fun H Q e _ q =>
  ⟨_, hi, q H p vs (fun _ _ e => e) (e _ _ hp) ((cutS_mono e).dpa hd)⟩
theorem nw_cat {ta tb : TE} {ds es : List PyData} (h1 : RdL K S H0 ta ds σ) (h2 : RdL K S H0 tb es σ) (hl : ds.length + es.length ≤ 1000) : NwL K S H0 (tOp rCat ta tb) (ds ++ es) σ := fun H Q e tr q =>
  h1 H _ e tr fun H1 p1 v1 s1 g1 d1 => h2 H1 _ (e.trans s1) (tr.mono s1) fun H2 p2 v2 s2 g2 d2 => ⟨p1, p2, v1, v2, rfl, rfl, s2 _ _ g1, g2, Nat.le_of_lt (sz_lt (by rw [dpa_len d1, dpa_len d2]; omega)), fun p hp =>
    q _ p _ ((s1.trans s2).trans (.upd hp)) ((s1.trans s2).free hp) upd_same ((cutS_into (.upd hp) hp).dpa (dpa_app ((cutS_mono s2).dpa d1) d2))⟩
theorem ic_var {i : Nat} {v : V} {d : PyData} (hi : σ[i]? = some (some v)) (hd : Dp K (cutS S H0) v d) : IsC K S H0 (tVar i) d σ := fun H Q e _ q => ⟨v, hi, q H v (fun _ _ e => e) ((cutS_mono e).dp hd)⟩
theorem ic_add {ta tb : TE} {i j : Int} (h1 : IsC K S H0 ta (.int i) σ) (h2 : IsC K S H0 tb (.int j) σ) : IsC K S H0 (tOp (rI0 fun i j => .int (i + j)) ta tb) (.int (i + j)) σ := fun H Q e tr k =>
  h1 H _ e tr fun H1 v s1 d1 => h2 H1 _ (e.trans s1) (tr.mono s1) fun H2 u s2 d2 => by
    cases d1
    cases d2
    exact ⟨_, _, rfl, rfl, k H2 _ (s1.trans s2) (.int _)⟩
/-- tuples, one behind another -/
theorem ic_catT {ta tb : TE} {ds es : List PyData} (h1 : IsC K S H0 ta (.tuple ds) σ) (h2 : IsC K S H0 tb (.tuple es) σ) (hl : ds.length + es.length ≤ 1000) : IsC K S H0 (tOp (rCatA K) ta tb) (.tuple (ds ++ es)) σ := fun H Q e tr k =>
  h1 H _ e tr fun H1 v s1 d1 => h2 H1 _ (e.trans s1) (tr.mono s1) fun H2 u s2 d2 => by
    obtain ⟨c, xs, rfl, hc, hx⟩ := Dp.seq_of (f := true) ((cutS_mono s2).dp d1)
    obtain ⟨d, ys, rfl, hd, hy⟩ := Dp.seq_of (f := true) d2
    have lx := dpa_len hx
    have ly := dpa_len hy
    have s12 := s1.trans s2
    refine ⟨c, d, xs, ys, rfl, rfl, cutS_le.sqT hc, cutS_le.sqT hd, Nat.le_of_lt (sz_lt (by omega)), fun e0 => k H2 _ s12 ?_, fun _ e0 => k H2 _ s12 ?_, fun _ _ p hp => k _ _ (s12.trans (.upd hp)) ?_⟩
    · have : ds = [] := by rw [e0] at lx; exact List.eq_nil_of_length_eq_zero lx.symm
      rw [this]
      exact Dp.seq (f := true) hd hy
    · have : es = [] := by rw [e0] at ly; exact List.eq_nil_of_length_eq_zero ly.symm
      rw [this, List.append_nil]
      exact Dp.seq (f := true) hc hx
    · exact dp_tup (tr.mono s12) hp (dpa_app hx hy)
end
theorem dpa_snoc {K : PySem.W.Frag} {H : Hp} : ∀ {vs : List V} {v : V} {ds : List PyData} {d : PyData}, DpAll K H (vs ++ [v]) (ds ++ [d]) → DpAll K H vs ds ∧ Dp K H v d
  | [], v, [], d, h => by
    cases h with
    | cons h1 h2 => exact ⟨.nil, h1⟩
  | [], v, e :: ds, d, h => by
    cases h with
    | cons h1 h2 =>
      have := dpa_len h2
      simp at this
  | u :: vs, v, [], d, h => by
    cases h with
    | cons h1 h2 =>
      have := dpa_len h2
      simp at this
  | u :: vs, v, e :: ds, d, h => by
    cases h with
    | cons h1 h2 =>
      obtain ⟨g1, g2⟩ := dpa_snoc h2
      exact ⟨.cons h1 g1, g2⟩
theorem atI_end {xs : List V} (h : 1 ≤ xs.length) {v : V} (hv : xs[xs.length - 1]? = some v) : atI xs (-1) = some v := by
  have hne : xs ≠ [] := fun z => by rw [z] at h; exact absurd h (by decide)
  have := atI_last xs.dropLast (xs.getLast hne)
  rw [List.dropLast_concat_getLast] at this
  rw [this, ← hv, List.getLast_eq_getElem, List.getElem?_eq_getElem (by omega)]
theorem in_strs {x : Str} {ks : List Str} : inV (.str x) (ks.map V.str) = decide (x ∈ ks) := by
  unfold inV
  rw [List.any_map, Bool.eq_iff_iff, List.any_eq_true, decide_eq_true_eq]
  refine ⟨fun ⟨r, hr, e⟩ => ?_, fun h => ⟨x, h, ?_⟩⟩
  · have e : (r == x) = true := e
    rw [← eq_of_beq e]
    exact hr
  · show (x == x) = true
    exact beq_self_eq_true _
/-! ### grown rows as data -/
def nmQ (qs : List QD) (m : Mk) : Str := match qs[m.1]? with
  | none => default
  | some q => q.nm
def prQ (qs : List QD) (m : Mk) : Int := match qs[m.1]? with
  | none => 0
  | some q => if m.2 = true then q.room else 1 - q.gap
def stD (qs : List QD) (m : Mk) : PyData := .tuple [.str (nmQ qs m), .str (if m.2 = true then alS else agS)]
def stepsD (qs : List QD) (r : List Mk) : PyData := .tuple (r.map (stD qs))
def costQ (qs : List QD) (r : List Mk) : Int := (r.map (prQ qs)).sum
def gsD (qs : List QD) (a : Gs) : PyData := .tuple [stepsD qs a.row, .tuple (a.met.map PyData.str), .int (costQ qs a.row)]
def fndD (qs : List QD) (r : List Mk) : PyData := .tuple [stepsD qs r, .int (costQ qs r)]
def mvD (qs : List QD) (m : Mk) : PyData := .tuple [stD qs m, .str (far qs m), .int (prQ qs m)]
theorem costQ_push {qs : List QD} {r : List Mk} {m : Mk} : costQ qs (r ++ [m]) = costQ qs r + prQ qs m := by
  unfold costQ
  rw [List.map_append, List.sum_append]
  simp
theorem stepsD_push {qs : List QD} {r : List Mk} {m : Mk} : stepsD qs (r ++ [m]) = .tuple (r.map (stD qs) ++ [stD qs m]) := by
  unfold stepsD
  rw [List.map_append]
  rfl
theorem mvd_at {qs : List QD} {i : Nat} {q : QD} (h : qs[i]? = some q) : mvd q.nm true q.en q.room = mvD qs (i, true) ∧ mvd q.nm false q.st (1 - q.gap) = mvD qs (i, false) := by
  unfold mvD stD nmQ far prQ
  rw [h]
  exact ⟨rfl, rfl⟩
theorem touch_next {qs : List QD} {w : Str} {k : Nat} {q : QD} (h : qs[k]? = some q) : touchN qs w (k + 1) = touchN qs w k ++ (if q.st = w then [(k, true)] else if q.en = w then [(k, false)] else []) := by
  unfold touchN
  rw [List.range_succ, List.filterMap_append]
  congr 1
  have : tch qs w k = if q.st = w then some (k, true) else if q.en = w then some (k, false) else none := by
    unfold tch
    rw [h]
  rw [List.filterMap_cons, this]
  by_cases h1 : q.st = w
  · rw [if_pos h1, if_pos h1]
    rfl
  · rw [if_neg h1, if_neg h1]
    by_cases h2 : q.en = w
    · rw [if_pos h2, if_pos h2]
      rfl
    · rw [if_neg h2, if_neg h2]
      rfl
theorem nm_inj {ws : List Str} {qs : List QD} {m m0 : Mk} (g : NetG ws qs) (h1 : m.1 < qs.length) (h2 : m0.1 < qs.length) : nmQ qs m = nmQ qs m0 ↔ m.1 = m0.1 := by
  unfold nmQ
  rw [List.getElem?_eq_getElem h1, List.getElem?_eq_getElem h2]
  constructor
  · intro e
    have e : qs[m.1].nm = qs[m0.1].nm := e
    exact nd_ix g.nn (by rw [List.getElem?_map, List.getElem?_eq_getElem h1]; rfl) (by rw [List.getElem?_map, List.getElem?_eq_getElem h2]; exact congrArg some e.symm)
  · intro e
    simp only [e]
end Jl

set_option Elab.async false
set_option linter.all false
set_option maxRecDepth 100000
set_option maxHeartbeats 1000000
set_option pp.maxSteps 300
namespace Jl
open PySem PySem.Spec PyProof.Rows L2
open Evl (sz_of sz_lt)
local macro_rules | `(tactic| walk_at "at") => `(tactic| first | exact box0 | exact box1 | exact box2)
local macro_rules | `(tactic| walk_at "sq") => `(tactic| first | (show SqL _ _ _ _; assumption) | (show SqT _ _ _ _; assumption) | (show _ = some _; assumption))
local macro_rules | `(tactic| walk_at "side") => `(tactic| first
  | (show (0 : Int) < _; decide)
  | (show (0 : Int) < _; omega)
  | exact ⟨by decide, by decide, by decide⟩
  | exact sz_of (Nat.le_of_ble_eq_true rfl)
  | exact rfl
  | exact Or.inl (by decide)
  | exact Or.inr (by decide)
  | exact Or.inr ⟨by omega, by omega⟩
  | exact Or.inl ⟨by omega, by omega⟩
  | exact ⟨by decide, by decide +kernel⟩)
local macro_rules | `(tactic| walk_at "ev1") => `(tactic| first
  | refine ⟨_, rfl, ?_⟩
  | refine ⟨_, _, rfl, rfl, ?_⟩
  | refine ⟨_, _, _, _, rfl, rfl, (by walk_at "sq"), (by walk_at "at"), ?_⟩
  | refine ⟨_, _, rfl, (by walk_at "sq"), ?_⟩
  | refine ⟨_, _, rfl, Or.inl (by walk_at "sq"), ?_⟩
  | refine ⟨_, _, rfl, Or.inr (by walk_at "sq"), ?_⟩
  | refine Or.inl ⟨_, rfl, ?_⟩
  | refine Or.inr ⟨_, rfl, ?_⟩
  | refine ⟨(by walk_at "side"), ?_⟩
  | refine ⟨.inl ⟨rfl, _, (by walk_at "sq")⟩, ?_⟩
  | refine ⟨_, _, rfl, ?_⟩)
local macro_rules | `(tactic| walk_at "nrm") => `(tactic| dsimp only [tNil, tCons, tC, tCB])
local macro_rules | `(tactic| walk_at "ev") => `(tactic| repeat (walk_at "ev1"))

/-- a comprehension over pairs -/
theorem lc_pair {K : PySem.W.Frag} {wi : TI} {te : TE} {j1 j2 : Nat} {vs : List Nat} {σ : L2.St} {H : Hp} {Q : VK} {S : Addr → List Addr} {α : Type} (Pa : Addr → List V → Hp → Prop) (zs : List α) (f g h : α → PyData)
    (hgo : ∀ R : It → Hp → Prop, (∀ a xs H0, Pa a xs H0 → ∀ J, Walk J xs.length (fun H => SqF false K H a xs) (YAt xs) → R J H0) → wi σ H R)
    (hs : ∀ a xs H0, Pa a xs H0 → SqF false K H0 a xs ∧ DpAll K (cutS (S a) H0) xs (zs.map fun z => .tuple [f z, g z]) ∧ Trk (S a) H0) (hl : zs.length ≤ 4000000)
    (hw : ∀ x y, wipe (((wipe σ vs).set j1 (some x)).set j2 (some y)) vs = wipe σ vs)
    (he : ∀ (x y : V) (z : α) (H1 : Hp) (T : List Addr), z ∈ zs → Trk T H1 → Dp K (cutS T H1) x (f z) → Dp K (cutS T H1) y (g z) → ∀ Q' : VK, (∀ H2 u, Same H1 H2 → Dp K (cutS T H2) u (h z) → Q' u H2) → te (((wipe σ vs).set j1 (some x)).set j2 (some y)) H1 Q')
    (q : ∀ a xs H0, Pa a xs H0 → ∀ D ys H', Same H0 H' → H0 D = none → H' D = some (.lst ys) → DpAll K (cutS (D :: S a) H') ys (zs.map h) → Q (.ref D) H') : tLcX wi (gTup K 2 (gCons (gName j1) (gCons (gName j2) gNil))) tYes te vs σ H Q := by
  refine lc_of (hgo _ fun a xs H0 hP J w => ?_)
  obtain ⟨hs, ha, hT⟩ := hs a xs H0 hP
  replace q := q a xs H0 hP
  generalize S a = S at ha hT q
  have ll := dpa_len ha
  rw [List.length_map] at ll
  refine fun D hD => ?_
  refine lc_it w (fun i H1 => ∃ ys, Same H0 H1 ∧ H1 D = some (.lst ys) ∧ DpAll K (cutS (D :: S) H1) ys ((zs.take i).map h)) ⟨[], .upd hD, upd_same, .nil⟩ (fun i H1 _ p => ?_) (fun i x H1 H1' hi p y => ?_) (fun H1 p => ?_)
  · obtain ⟨ys, e1, _⟩ := p
    exact e1.sqF hs
  · obtain ⟨ys, e1, e2, e3⟩ := p
    obtain ⟨rfl, hx⟩ := y
    obtain ⟨d, hd, hxd⟩ := dpa_get ha hx
    rw [List.getElem?_map] at hd
    cases hz : zs[i]? with
    | none =>
      rw [hz] at hd
      cases hd
    | some z =>
      rw [hz] at hd
      cases hd
      have s3 : Same (cutS S H0) (cutS (D :: S) H1') := cutS_into e1 hD
      have hxd1 := s3.dp hxd
      obtain ⟨t, xt, rfl, hts, hta⟩ := Dp.seq_of (f := true) hxd1
      cases hta with
      | cons k1 hta =>
        cases hta with
        | cons k2 hta =>
          cases hta
          refine ⟨t, _, rfl, cutS_le.sqT hts, rfl, _, _, rfl, _, _, rfl, rfl, hw _ _, ?_⟩
          dsimp only [tYes]
          rw [if_pos rfl]
          refine he _ _ z H1' (D :: S) (List.mem_of_getElem? hz) ((hT.mono e1).cons e2) k1 k2 _ fun H2 u s2 hy => ?_
          refine ⟨ys, s2 _ _ e2, ?_, ys ++ [u], ?_, upd_same, ?_⟩
          · have := dpa_len e3
            rw [this, List.length_map, List.length_take]
            exact szL (by omega)
          · exact (e1.trans s2).mut hD
          · rw [cutS_upd List.mem_cons_self, List.take_add_one, hz, List.map_append]
            exact dpa_app ((cutS_mono s2).dpa e3) (dpa_one hy)
  · obtain ⟨ys, e1, e2, e3⟩ := p
    refine q D ys H1 e1 hD e2 ?_
    have e4 : (zs.take xs.length).map h = zs.map h := by rw [List.take_of_length_le (by omega)]
    rw [e4] at e3
    exact e3
def sortD (ds : List PyData) : List PyData := ds.mergeSort (PySem.W.dataLe false fun d => d)
def ringsD (qs : List QD) (g : List (List Mk)) : List PyData := sortD (g.map (stepsD qs))
theorem sort_data {bs : List (V × PyData)} : ((bs.mergeSort (PySem.W.dataLe false (·.2))).map (·.2)) = sortD (bs.map (·.2)) := by
  unfold sortD
  exact List.map_mergeSort (r := PySem.W.dataLe false (·.2)) (s := PySem.W.dataLe false fun d => d) (f := fun b : V × PyData => b.2) (l := bs) (fun a _ b _ => by
    rw [PySem.W.dataLe_eq, PySem.W.dataLe_eq])
theorem dpa_of_all {K : PySem.W.Frag} {H : Hp} : ∀ {bs : List (V × PyData)}, (∀ b ∈ bs, Dp K H b.1 b.2) → DpAll K H (bs.map (·.1)) (bs.map (·.2))
  | [], _ => .nil
  | b :: bs, h => .cons (h b List.mem_cons_self) (dpa_of_all fun x hx => h x (List.mem_cons_of_mem _ hx))
theorem all_of_dpa {K : PySem.W.Frag} {H : Hp} : ∀ {vs : List V} {ds : List PyData}, DpAll K H vs ds → ∀ b ∈ vs.zip ds, Dp K H b.1 b.2
  | _, _, .nil, b, hb => absurd hb List.not_mem_nil
  | _, _, .cons h1 h2, b, hb => by
    rcases List.mem_cons.mp hb with e | hb
    · rw [e]
      exact h1
    · exact all_of_dpa h2 b hb
theorem zip_fst {vs : List V} {ds : List PyData} (h : vs.length = ds.length) : (vs.zip ds).map (·.1) = vs := List.map_fst_zip (Nat.le_of_eq h)
theorem zip_snd {vs : List V} {ds : List PyData} (h : vs.length = ds.length) : (vs.zip ds).map (·.2) = ds := List.map_snd_zip (Nat.le_of_eq h.symm)
theorem alike_st {qs : List QD} : ∀ r r' : List Mk, PySem.W.alikeAll (r.map (stD qs)) (r'.map (stD qs)) = true
  | [], _ => by simp [PySem.W.alikeAll]
  | _ :: _, [] => by simp [PySem.W.alikeAll]
  | m :: r, m' :: r' => by
    rw [List.map_cons, List.map_cons]
    simp only [PySem.W.alikeAll, Bool.and_eq_true]
    exact ⟨by simp [stD, PySem.W.alike, PySem.W.alikeAll], alike_st r r'⟩
theorem steps_alike {qs : List QD} {g : List (List Mk)} : PySem.W.AllAlike (g.map (stepsD qs)) := fun d hd d' hd' => by
  obtain ⟨r, _, rfl⟩ := List.mem_map.mp hd
  obtain ⟨r', _, rfl⟩ := List.mem_map.mp hd'
  simp only [stepsD, PySem.W.alike]
  exact alike_st r r'
theorem steps_sortable {qs : List QD} {g : List (List Mk)} (h : ∀ r ∈ g, r ≠ []) : PySem.W.Sortable (g.map (stepsD qs)) := .inl fun d hd => by
  obtain ⟨r, hr, rfl⟩ := List.mem_map.mp hd
  cases r with
  | nil => exact absurd rfl (h _ hr)
  | cons m r => exact ⟨_, _, rfl⟩
theorem steps_depth {qs : List QD} {r : List Mk} : (stepsD qs r).depth ≤ 2 := dep_seq (f := true) (n := 1) fun d hd => by
  obtain ⟨m, _, rfl⟩ := List.mem_map.mp hd
  exact dep_seq (f := true) (n := 0) fun d hd => by
    rcases mem2 hd with rfl | rfl <;> simp [PyData.depth]
theorem dpa_ints_of {K : PySem.W.Frag} {H : Hp} : ∀ {is : List Int} {vs : List V}, DpAll K H vs (is.map PyData.int) → vs = is.map V.int
  | [], _, h => by
    cases h
    rfl
  | i :: is, _, h => by
    cases h with
    | cons h1 h2 =>
      cases h1
      rw [dpa_ints_of h2]
      rfl
def minV : List Int → V
  | [] => .non
  | n :: ms => .int (ms.foldl min n)
/-- what the law's rings are asked of -/
structure NetR (ws : List Str) (qs : List QD) (g : List (List Mk)) : Prop where
  nd : ws.Nodup
  ng : NetG ws qs
  w6 : ws.length ≤ 40
  sm : Small ws qs
  q6 : qs.length ≤ 60
  rn : Rn qs (startP ws) g
theorem NetR.rows {ws : List Str} {qs : List QD} {g : List (List Mk)} (n : NetR ws qs g) : (∀ r ∈ g, r ≠ [] ∧ r.length ≤ 40 ∧ ∀ m ∈ r, m.1 < qs.length) ∧ g.length ≤ 3200000 := by
  obtain ⟨h1, h2⟩ := n.rn.rows n.ng start_ok
  have := start_phi n.sm
  exact ⟨fun r hr => ⟨(h1.fd r hr).1, Nat.le_trans (h1.fd r hr).2.1 n.w6, (h1.fd r hr).2.2⟩, by omega⟩
end Jl

set_option Elab.async false
set_option linter.all false
set_option maxRecDepth 100000
set_option maxHeartbeats 1000000
namespace Jl
open PySem PySem.Spec PyProof.Rows L2
open Evl (sz_of sz_lt)
/-! ### enumerate(a tuple) -/
theorem enumT_meets (a : Addr) (cells : Array Value) : Meets (Builtin.«enumerate.__new__» ⟨[.type "enumerate", .ref a], []⟩) (fun _ R st => st.heap.IsTuple a cells ∧
    R (.ok (.ret (.ref (st.heap.push { cls := .type "tuple_iterator", data := .fields #[.ref a, .int 0 0] }).objs.size))) { st with heap := (st.heap.push { cls := .type "tuple_iterator", data := .fields #[.ref a, .int 0 0] }).push { cls := .type "enumerate", data := .fields #[.none, .bool false, .ref st.heap.objs.size, rawInt 0, .none, .none] } }) :=
  .of_wp fun prog w Ar R st hyp => by
    obtain ⟨hh, g0, d0, t0, o0⟩ := st
    obtain ⟨ht, hyp⟩ := hyp
    have hsub := sub_enumerate
    have q1 : ∀ {A' : Around} {E' : Value → Shared → Prop} {Q' : Value → Shared → Prop}, Q' (.ref hh.objs.size) ⟨hh.push { cls := .type "tuple_iterator", data := .fields #[.ref a, .int 0 0] }, g0, d0, t0, o0⟩ → wpAny (model prog w) A' (pyIter (.ref a)) Q' E' ⟨hh, g0, d0, t0, o0⟩ :=
      fun q => wpAny_pyIter_tuple ht q
    obtain ⟨ob, hob, hcl, n0, hda⟩ := id ht
    have hlp : ∀ {A' : Around} {E' : Value → Shared → Prop} {Q' : Value → Shared → Prop}, Q' (.ref hh.objs.size) ⟨hh.push { cls := .type "tuple_iterator", data := .fields #[.ref a, .int 0 0] }, g0, d0, t0, o0⟩ → wpAny (model prog w) A' (pyIter (.ref a)) Q' E' ⟨hh, g0, d0, t0, o0⟩ := q1
    wp_walk using q1, wpAny_loadPart' hob
    refine wpAny_stack_any fun _ => wpAny_pure ?_
    split
    · rename_i c _ _ _ _ _
      by_cases hc : (c == Value.type "enumerate") = true
      · simp only [hc]
        wp_walk using q1, wpAny_loadPart' hob
        exact ⟨_, rfl, hyp⟩
      · simp only [hc]
        wp_walk using q1, wpAny_loadPart' hob
        exact ⟨_, rfl, hyp⟩
    · wp_walk using q1, wpAny_loadPart' hob
      exact ⟨_, rfl, hyp⟩

section
variable {prog : Program} {w : World} {Ar : Around} {E' : Value → Shared → Prop} {st : Shared}
/-- its two new cells -/
theorem enumT_made {a : Addr} {cells : Array Value} {Q' : Value → Shared → Prop} (ht : st.heap.IsTuple a cells)
    (q : ∀ hh, IsEnum hh (st.heap.objs.size + 1) st.heap.objs.size 0 .none → hh.IsTupleIter st.heap.objs.size a 0 → hh.objs.size = st.heap.objs.size + 2 → (∀ b o, st.heap.get? b = some o → hh.get? b = some o) → Q' (.ref (st.heap.objs.size + 1)) { st with heap := hh }) :
    wpAny (model prog w) Ar (call (.type "enumerate") [.ref a]) Q' E' st := by
  refine callType_new F.called_enumerate (by decide) (F.typeCall_enumerate_1 (.ref a)) (F.newCall_enumerate_1 (.ref a)) (fun ob => F.args_object_init_2 ob (.ref a)) F.entry_enumerate_new (enumT_meets a cells) ⟨ht, ?_⟩
  have hz : (st.heap.push { cls := .type "tuple_iterator", data := .fields #[.ref a, .int 0 0] }).objs.size = st.heap.objs.size + 1 := Heap.size_push ..
  have g1 := Heap.get?_push_size (st.heap.push { cls := .type "tuple_iterator", data := .fields #[.ref a, .int 0 0] }) (o := { cls := .type "enumerate", data := .fields #[.none, .bool false, .ref st.heap.objs.size, rawInt 0, .none, .none] }) rfl
  rw [hz] at g1
  show _ ∧ _
  rw [hz]
  exact ⟨⟨_, g1, rfl⟩, q _ g1 ⟨_, Heap.get?_push_of_some _ (Heap.get?_push_size _ rfl), rfl, rfl⟩ (by rw [Heap.size_push, hz]) fun b o e => Heap.get?_push_of_some _ (Heap.get?_push_of_some _ e)⟩
end
/-- the tuple at a, each item in a new pair -/
def IteT (K : PySem.W.Frag) (a : Addr) : It :=
  ⟨fun i H => ∃ (xs : List V) (x : V), SqT K H a xs ∧ xs[i]? = some x, fun i H v H' => ∃ T x, v = .ref T ∧ H T = none ∧ H' = upd H T (.tup [.int (i : Nat), x]) ∧ ∀ xs, SqT K H a xs → xs[i]? = some x, fun i H => ∃ xs : List V, SqT K H a xs ∧ xs.length = i⟩
theorem enum_ne_tup {h : Heap} {e it a : Addr} {k : Int} {old : Value} {cells : Array Value} (he : IsEnum h e it k old) (ht : h.IsTuple a cells) : e ≠ a := fun z => by
  obtain ⟨o, ho, hc, _⟩ := ht
  have he2 : h.get? e = some _ := he
  rw [z, ho] at he2
  cases he2
  simp at hc
theorem iter_ne_tup {h : Heap} {it a b : Addr} {i : Nat} {cells : Array Value} (hi : h.IsTupleIter it b i) (ht : h.IsTuple a cells) : a ≠ it := fun z => by
  obtain ⟨o, ho, hc, _⟩ := ht
  obtain ⟨o', ho', hc', _⟩ := hi
  rw [z, ho'] at ho
  cases ho
  rw [hc'] at hc
  simp at hc
theorem turn_enumT {P : Program} {w : World} {K : PySem.W.Frag} {elts : List Expr} {kk : Nat} {tpos : Pos} (a e it : Addr) :
    Turn P w K (.Tuple elts kk tpos) (IteT K a) [e, it] e (fun i h => (∃ old, IsEnum h e it ((i : Nat) : Int) old) ∧ h.IsTupleIter it a i ∧ e ≠ it) where
  mem := List.mem_cons_self
  obj := fun i h st b hb => by
    obtain ⟨⟨old, he⟩, hit, _⟩ := st
    rcases mem2 hb with z | z
    · subst z
      exact ⟨_, he, fun _ hv => by cases hv⟩
    · obtain ⟨o, ho, hc, hd⟩ := hit
      exact ⟨o, by rw [z]; exact ho, fun v q => by rw [hd] at q; cases q⟩
  keep := fun i h h' st kp => ⟨st.1.elim fun old he => ⟨old, kp e List.mem_cons_self _ he⟩, st.2.1.at fun o q => kp it (List.mem_cons_of_mem _ List.mem_cons_self) o q, st.2.2⟩
  item := by
    intro X hP hw hK hc i pins s σ H E I hf st hg
    cases hP
    cases hw
    cases hK
    obtain ⟨⟨old, he⟩, hit, hne⟩ := st
    obtain ⟨xs, x, hq, hx⟩ := hg
    obtain ⟨its, rv, pt, _⟩ := I.tuple hq
    obtain ⟨u, hu, ru⟩ := rv.get hx
    have pt' : s.heap.IsTuple a its.toArray := pt
    have hel : e < s.heap.objs.size := Heap.lt_size he
    have hil : it < s.heap.objs.size := hit.elim fun o q => Heap.lt_size q.1
    have hea := enum_ne_tup he pt'
    have hai := iter_ne_tup hit pt'
    have hD := Draws.tuple (prog := X.prog) (w := X.w) (A := X.A.in1) (I.ok.hd hc) it a hai its.toArray
    have hsz : its.toArray.size = its.length := List.size_toArray
    have hlt : i < its.toArray.size := by
      rw [hsz]
      exact (List.getElem?_eq_some_iff.mp hu).1
    refine wpAny_pyNext_enum_itemD hD he ⟨hit, pt'⟩ hlt hne (fun z => by rcases mem2 z with z | z; exact hne z; exact hea z) fun y h1 tk hy ho hst hT hz2 hk => ?_
    have eu : y = u := by
      have hy2 : its[i]? = some y := by simpa using hy
      rw [hu] at hy2
      exact (Option.some.inj hy2).symm
    subst eu
    refine ⟨_, rfl, wpAny_letOwnedTupleGo_enum (s := { s with heap := h1, toks := tk + 1 }) ho fun h2 he2 sb => ?_⟩
    have hT2 : h2.get? s.heap.objs.size = some { cls := .type "tuple", data := .seq #[.int i tk, y] } := (sb.2 _ (Nat.ne_of_gt hel)).trans hT
    have hnew : ObjOk X.prog X.w (upd H s.heap.objs.size (.tup [.int (i : Nat), x])) h2 s.heap.objs.size (.tup [.int (i : Nat), x]) := ⟨by show 2 ≤ sizeLine; decide, [.int i tk, y], .cons ⟨_, rfl⟩ (.cons ru .nil), ⟨_, hT2, rfl, _, rfl⟩⟩
    have I2 : L2.Inv X pins σ (upd H s.heap.objs.size (.tup [.int (i : Nat), x])) { s with heap := h2, toks := tk + 1 } :=
      I.turnedNew (ch := [e, it]) (fun b ob hb q => (sb.2 b (fun z => hb (by rw [z]; exact List.mem_cons_self))).trans (hk b ob (fun z => hb (by rw [z]; exact List.mem_cons_self)) (fun z => hb (by rw [z]; exact List.mem_cons_of_mem _ List.mem_cons_self)) q)) hf (Nat.le_refl _) hnew
    refine ⟨.ref s.heap.objs.size, _, I2, rfl, ⟨_, x, rfl, I.hok.fresh (Nat.le_refl _), rfl, fun ys hy => by rw [I.tuple_inj hy hq]; exact hx⟩, ⟨⟨y, ?_⟩, hst.1.at fun o q => (sb.2 it (Ne.symm hne)).trans q, hne⟩, fun b hb => ?_⟩
    · rw [show ((i + 1 : Nat) : Int) = (i : Int) + 1 by omega]
      exact he2
    · have hbs : b < s.heap.objs.size := by
        rcases mem2 hb with z | z <;> rw [z]
        · exact hel
        · exact hil
      rw [upd_ne (Nat.ne_of_lt hbs)]
      exact (hf b hb).1
  done := by
    intro X hP hw hK hc i pins s σ H E I hf st hg
    cases hP
    cases hw
    cases hK
    obtain ⟨⟨old, he⟩, hit, hne⟩ := st
    obtain ⟨xs, hq, hx⟩ := hg
    obtain ⟨its, rv, pt, _⟩ := I.tuple hq
    have pt' : s.heap.IsTuple a its.toArray := pt
    obtain ⟨f0, f1, f2, f3, f4, f5⟩ := hf it (List.mem_cons_of_mem _ List.mem_cons_self)
    have hD := Draws.tuple (prog := X.prog) (w := X.w) (A := X.A.in1) (I.ok.hd hc) it a (iter_ne_tup hit pt') its.toArray
    have hn : its.toArray.size = i := by
      rw [List.size_toArray, ← rv.length, hx]
    rw [← hn] at hit
    exact wpAny_pyNext_enum_endD hD he ⟨hit, pt'⟩ fun hh eb => ⟨rfl, I.turned (t' := s.toks) (fun b o hb q => eb b o hb q) f0 f1 f3 f4 f5⟩
  self := fun A i s Q E st h => st.1.elim fun _ he => wpAny_pyIter_enum he h
theorem walk_enumT {K : PySem.W.Frag} {a : Addr} {xs : List V} : Walk (IteT K a) xs.length (fun H => SqT K H a xs) (YPair (fun i => some (.int (i : Nat))) (fun i => xs[i]?)) := by
  refine ⟨fun i _ hi q => ⟨xs, xs[i], q, List.getElem?_eq_getElem hi⟩, fun _ q => ⟨xs, q, rfl⟩, fun i H v H' _ q y => ?_⟩
  obtain ⟨T, x, h1, h2, h3, h4⟩ := y
  exact ⟨T, .int (i : Nat), x, h1, h2, h3, rfl, h4 xs q⟩
def iEnumT (K : PySem.W.Frag) (ta : TA) : TI := fun σ H R => ta σ H fun vs H1 => ∃ a xs, vs = [.ref a] ∧ SqT K H1 a xs ∧ R (IteT K a) H1
theorem pi_enumT {X : Cx} {e : Expr} {ta : TA} {p pos tpos : Pos} {elts : List Expr} {kk : Nat} (hg : Gl X "enumerate") (hm : X.mg "enumerate" = none) (ha : PA X [e] ta) (hs : starEach [e] X.env = [(false, eval e X.env)] := by rfl) :
    PI X (.Tuple elts kk tpos) (.Call (.Name "enumerate" p) [e] [] pos) (iEnumT X.K ta) := ⟨fun pins s σ H R I h => by
  refine Call_ (ld_blt I hg hm boot_enumerate (PyProof.Rows.callWith_type1 (thn (ha.run pos pins s σ H _ I h) fun us s1 g => ?_) hs rfl))
  obtain ⟨vs, H1, I1, r1, a, xs, ev, hq, q⟩ := g
  subst ev
  cases r1 with
  | cons r rr =>
    cases rr
    cases r
    obtain ⟨its, rv, pt, _⟩ := I1.tuple hq
    refine enumT_made (show s1.heap.IsTuple a its.toArray from pt) fun hh he hit hsz hk => wpAny_pyIter_enum he ?_
    have I2 : L2.Inv X pins σ H1 { s1 with heap := hh } := I1.kept (t' := s1.toks) hk
    exact ⟨s1.heap.objs.size + 1, [s1.heap.objs.size + 1, s1.heap.objs.size], _, _, H1, rfl, I2, turn_enumT a (s1.heap.objs.size + 1) s1.heap.objs.size, ⟨⟨.none, he⟩, hit, Nat.succ_ne_self _⟩, fun b hb => by
      have hle : s1.heap.objs.size ≤ b := by
        rcases mem2 hb with z | z <;> rw [z]
        · exact Nat.le_add_right _ _
        · exact Nat.le_refl _
      exact I1.fpOk hle (I1.hok.fresh hle), q⟩⟩

def iEnumA (K : PySem.W.Frag) (ta : TA) : TI := fun σ H R => iEnum K ta σ H R ∨ iEnumT K ta σ H R
theorem pi_enumA {X : Cx} {e : Expr} {ta : TA} {p pos tpos : Pos} {elts : List Expr} {kk : Nat} (hg : Gl X "enumerate") (hm : X.mg "enumerate" = none) (ha : PA X [e] ta) (hs : starEach [e] X.env = [(false, eval e X.env)] := by rfl) :
    PI X (.Tuple elts kk tpos) (.Call (.Name "enumerate" p) [e] [] pos) (iEnumA X.K ta) := pi_or (pi_enum hg hm ha hs) (pi_enumT hg hm ha hs)
theorem iEnumA_at {K : PySem.W.Frag} {ta : TA} {σ : L2.St} {H H1 : Hp} {R : It → Hp → Prop} {a : Addr} {f : Bool} {xs : List V} (ht : ∀ R' : List V → Hp → Prop, R' [.ref a] H1 → ta σ H R') (hs : SqF f K H1 a xs)
    (q : ∀ J, Walk J xs.length (fun H => SqF f K H a xs) (YPair (fun i => some (.int (i : Nat))) (fun i => xs[i]?)) → R J H1) : iEnumA K ta σ H R := by
  cases f with
  | false => exact .inl (ht _ ⟨a, xs, rfl, hs, q _ walk_enum⟩)
  | true => exact .inr (ht _ ⟨a, xs, rfl, hs, q _ walk_enumT⟩)
end Jl

set_option Elab.async false
set_option linter.all false
set_option maxRecDepth 100000
set_option maxHeartbeats 1000000
namespace Jl
open PySem PySem.Spec PyProof.Rows L2
open Evl (sz_of sz_lt)
/-! ### lists, one behind another, however they stand -/
def rCatL (K : PySem.W.Frag) : R2 := fun x y H Q => ∃ (l b : Addr) (xs zs : List V), x = .ref l ∧ y = .ref b ∧ SqL K H l xs ∧ SqL K H b zs ∧ xs.length + zs.length ≤ sizeLine ∧ ∀ p, H p = none → Q (.ref p) (upd H p (.lst (xs ++ zs)))
theorem op_catL {X : Cx} : OpR X (binaryOp .Add) (rCatL X.K) := by
  intro pins s σ H x y v u Q I rx ry hyp
  obtain ⟨l, b, xs, zs, ex, ey, h1, h2, hz, q⟩ := hyp
  subst ex ey
  cases rx
  cases ry
  obtain ⟨i1, r1, p1, _⟩ := I.list h1
  obtain ⟨i2, r2, p2, _⟩ := I.list h2
  obtain ⟨⟨c1, d1, t1, s1⟩, g1, k1, n1, e1⟩ := p1.isList
  obtain ⟨⟨c2, d2, t2, s2⟩, g2, k2, n2, e2⟩ := p2.isList
  have k1 : c1 = .type "list" := k1
  have e1 : t1 = .seq i1.toArray n1 := e1
  have k2 : c2 = .type "list" := k2
  have e2 : t2 = .seq i2.toArray n2 := e2
  subst k1 e1 k2 e2
  have l1 := r1.length
  have l2 := r2.length
  refine concat_meets ⟨_, g1, rfl⟩ ⟨_, g2, rfl⟩ noFill_list_add seq_list_add PySem.F.slot_list_add PySem.F.entry_list_add (PySem.F.args_list_add_2 (.ref l) (.ref b)) (list_addW l b i1.toArray i2.toArray n1 n2 d1 d2 s1 s2 (by rw [List.size_toArray, List.size_toArray]; omega)) ⟨g1, g2, ?_⟩
  have ea : i1.toArray ++ i2.toArray = (i1 ++ i2).toArray := by simp only [List.append_toArray]
  rw [ea]
  have I2 := I.lnew (t' := s.toks) (r1.append r2) (by rw [List.length_append]; omega)
  exact ⟨.ref _, _, I2, rfl, q _ I.fresh⟩
theorem ic_catL {K : PySem.W.Frag} {S : List Addr} {H0 : Hp} {σ : L2.St} {ta tb : TE} {ds es : List PyData} (h1 : IsC K S H0 ta (.list ds) σ) (h2 : IsC K S H0 tb (.list es) σ) (hl : ds.length + es.length ≤ 1000) : IsC K S H0 (tOp (rCatL K) ta tb) (.list (ds ++ es)) σ := fun H Q e tr k =>
  h1 H _ e tr fun H1 v s1 d1 => h2 H1 _ (e.trans s1) (tr.mono s1) fun H2 u s2 d2 => by
    obtain ⟨c, xs, rfl, hc, hx⟩ := Dp.seq_of (f := false) ((cutS_mono s2).dp d1)
    obtain ⟨d, ys, rfl, hd, hy⟩ := Dp.seq_of (f := false) d2
    have lx := dpa_len hx
    have ly := dpa_len hy
    have s12 := s1.trans s2
    exact ⟨c, d, xs, ys, rfl, rfl, cutS_le.sqL hc, cutS_le.sqL hd, Nat.le_of_lt (sz_lt (by omega)), fun p hp => k _ _ (s12.trans (.upd hp)) (dp_lst (tr.mono s12) hp (dpa_app hx hy))⟩
end Jl

set_option Elab.async false
set_option linter.all false
set_option maxRecDepth 100000
set_option maxHeartbeats 1000000
set_option pp.maxSteps 300
namespace Jl
open PySem PySem.Spec PyProof.Rows L2
open Evl (sz_of sz_lt)
local macro_rules | `(tactic| walk_at "at") => `(tactic| first | exact box0 | exact box1 | exact box2)
local macro_rules | `(tactic| walk_at "sq") => `(tactic| first | (show SqL _ _ _ _; assumption) | (show SqT _ _ _ _; assumption) | (show _ = some _; assumption))
local macro_rules | `(tactic| walk_at "side") => `(tactic| first
  | (show (0 : Int) < _; decide)
  | (show (0 : Int) < _; omega)
  | exact ⟨by decide, by decide, by decide⟩
  | exact sz_of (Nat.le_of_ble_eq_true rfl)
  | exact rfl
  | exact Or.inl (by decide)
  | exact Or.inr (by decide)
  | exact Or.inr ⟨by omega, by omega⟩
  | exact Or.inl ⟨by omega, by omega⟩
  | exact ⟨by decide, by decide +kernel⟩)
local macro_rules | `(tactic| walk_at "ev1") => `(tactic| first
  | refine ⟨_, rfl, ?_⟩
  | refine ⟨_, _, rfl, rfl, ?_⟩
  | refine ⟨_, _, _, _, rfl, rfl, (by walk_at "sq"), (by walk_at "at"), ?_⟩
  | refine ⟨_, _, rfl, (by walk_at "sq"), ?_⟩
  | refine ⟨_, _, rfl, Or.inl (by walk_at "sq"), ?_⟩
  | refine ⟨_, _, rfl, Or.inr (by walk_at "sq"), ?_⟩
  | refine Or.inl ⟨_, rfl, ?_⟩
  | refine Or.inr ⟨_, rfl, ?_⟩
  | refine ⟨(by walk_at "side"), ?_⟩
  | refine ⟨.inl ⟨rfl, _, (by walk_at "sq")⟩, ?_⟩
  | refine ⟨_, _, rfl, ?_⟩)
local macro_rules | `(tactic| walk_at "nrm") => `(tactic| dsimp only [tNil, tCons, tC, tCB])
local macro_rules | `(tactic| walk_at "ev") => `(tactic| repeat (walk_at "ev1"))

abbrev sc_w_rings_N : List Str := ["_law_web_here", "_law_found", "_law_rest", "_law_here", "_law_row", "_law_met", "_law_at_so", "_law_bit", "_law_there", "_law_mark", "_law_tag", "_law_own"]
abbrev s_w_rings : Stmt := topS 18
theorem sc_w_rings : FnScope ["_law_web_here", "_law_found", "_law_rest", "_law_here", "_law_row", "_law_met", "_law_at_so", "_law_bit", "_law_there", "_law_mark", "_law_tag", "_law_own"] ["_law_web_here"] (defScope s_w_rings) := ⟨rfl, rfl, rfl, by decide +kernel, rfl, by decide +kernel, by decide +kernel⟩
/-! ### the law's own rows -/
def sgI (b : Bool) : Int := if b = true then 1 else -1
def mkL (m : Mk) : PyData := .tuple [.int (m.1 : Int), .int (sgI m.2)]
def rowL (r : List Mk) : PyData := .list (r.map mkL)
def gsL (a : Gs) : PyData := .tuple [.str (lsG a), rowL a.row, .list (a.met.map PyData.str)]
theorem rowL_push {r : List Mk} {m : Mk} : rowL (r ++ [m]) = .list (r.map mkL ++ [mkL m]) := by
  unfold rowL
  rw [List.map_append]
  rfl
/-- the step of one queue, if it touches -/
def oneL (qs : List QD) (a : Gs) (p : Ps) (i : Nat) : Ps := match tch qs (lsG a) i with
  | none => p
  | some m => one qs a p m
theorem foldl_touch {qs : List QD} {a : Gs} : ∀ (l : List Nat) (p : Ps), l.foldl (oneL qs a) p = (l.filterMap (tch qs (lsG a))).foldl (one qs a) p
  | [], p => rfl
  | i :: l, p => by
    rw [List.foldl_cons, foldl_touch l]
    unfold oneL
    cases h : tch qs (lsG a) i with
    | none => rw [List.filterMap_cons_none h]
    | some m =>
      rw [List.filterMap_cons_some h]
      rfl
theorem stp_L {qs : List QD} {f : List (List Mk)} {o : List Gs} {a : Gs} : stp qs f o a = (List.range qs.length).foldl (oneL qs a) (f, o) := (foldl_touch _ _).symm
theorem range_touch {qs : List QD} {w : Str} (k : Nat) (h : k ≤ qs.length) : (List.range k).filterMap (tch qs w) = (touchN qs w qs.length).take ((List.range k).filterMap (tch qs w)).length := by
  have e : touchN qs w qs.length = (List.range k).filterMap (tch qs w) ++ ((List.range qs.length).drop k).filterMap (tch qs w) := by
    unfold touchN
    rw [← List.filterMap_append]
    congr 1
    have := (List.take_append_drop k (List.range qs.length)).symm
    rw [List.take_range, Nat.min_eq_left h] at this
    exact this
  rw [e, List.take_left]
theorem take_phiL {ws : List Str} {qs : List QD} {f : List (List Mk)} {o : List Gs} {a : Gs} (k : Nat) (g : NetG ws qs) (hp : InvP ws qs (f, o ++ [a])) : k ≤ qs.length → Phi (dgr qs) ws.length ((List.range k).foldl (oneL qs a) (f, o)) ≤ Phi (dgr qs) ws.length (f, o ++ [a]) := fun hk => by
  rw [foldl_touch, range_touch k hk]
  exact take_phi _ g hp
theorem lsG_push {r : List Mk} {m : Mk} {ms : List Str} {x : Str} : lsG ⟨r ++ [m], ms ++ [x]⟩ = x := by
  unfold lsG
  rw [List.getLastD_eq_getLast?]
  simp
/-- texts that can be laid -/
theorem mkL_ok {m : Mk} : (mkL m).canLay0 = true ∧ (mkL m).depth ≤ 1 := by
  unfold mkL
  simp [PyData.canLay0, PyData.canLayAll0, PyData.depth, PyData.depthAll]
theorem rowL_ok {r : List Mk} : (rowL r).canLay0 = true ∧ (rowL r).depth ≤ 2 := by
  refine ⟨can_seq (f := false) fun d hd => ?_, dep_seq (f := false) fun d hd => ?_⟩
  · obtain ⟨m, _, rfl⟩ := List.mem_map.mp hd
    exact mkL_ok.1
  · obtain ⟨m, _, rfl⟩ := List.mem_map.mp hd
    exact mkL_ok.2
theorem gsL_ok {ws : List Str} {qs : List QD} {a : Gs} (I : Inv ws qs a) (hw : ∀ x ∈ ws, PyData.strOk x = true) : (gsL a).canLay0 = true ∧ (gsL a).depth ≤ 3 := by
  have hl := I.sub _ (List.mem_of_getElem? (met_ls I.ll))
  refine ⟨can_seq (f := true) fun d hd => ?_, dep_seq (f := true) fun d hd => ?_⟩
  · rcases mem3 hd with rfl | rfl | rfl
    · rw [PyData.canLay0]
      exact hw _ hl
    · exact rowL_ok.1
    · refine can_seq (f := false) fun d hd => ?_
      obtain ⟨x, hx, rfl⟩ := List.mem_map.mp hd
      rw [PyData.canLay0]
      exact hw _ (I.sub x hx)
  · rcases mem3 hd with rfl | rfl | rfl
    · simp [PyData.depth]
    · exact rowL_ok.2
    · have := dep_seq (f := false) (n := 0) (ds := a.met.map PyData.str) fun d hd => by
        obtain ⟨x, hx, rfl⟩ := List.mem_map.mp hd
        simp [PyData.depth]
      have : (PyData.list (a.met.map PyData.str)).depth ≤ 1 := this
      omega
theorem shaped_of {d : PyData} (h1 : d.canLay0 = true) (h2 : d.depth ≤ 60) : SeqAt.shaped d = true := by
  unfold SeqAt.shaped
  rw [h1, decide_eq_true (show d.depth ≤ 64 by omega)]
  rfl
theorem eqv_nil3 {ds : List PyData} : PyData.eqv (.list ds) (.list []) = ds.isEmpty := by
  cases ds with
  | nil => simp [PyData.eqv, PyData.eqvAll]
  | cons d ds => simp [PyData.eqv, PyData.eqvAll]
theorem shaped_nil3 : SeqAt.shaped (.list []) = true := by
  unfold SeqAt.shaped
  simp [PyData.canLay0, PyData.canLayAll0, PyData.depth, PyData.depthAll]
def fstD : PyData → PyData
  | .tuple (d :: _) => d
  | _ => .none
theorem in_ints {i : Int} {is : List Int} : inV (.int i) (is.map V.int) = decide (i ∈ is) := by
  unfold inV
  rw [List.any_map, Bool.eq_iff_iff, List.any_eq_true, decide_eq_true_eq]
  refine ⟨fun ⟨r, hr, e⟩ => ?_, fun h => ⟨i, h, ?_⟩⟩
  · have e : (r == i) = true := e
    rw [← eq_of_beq e]
    exact hr
  · show (i == i) = true
    exact beq_self_eq_true _
theorem in_fst {m : Mk} {r : List Mk} : decide ((m.1 : Int) ∈ r.map fun m => (m.1 : Int)) = decide (m.1 ∈ r.map (·.1)) := by
  refine decide_eq_decide.mpr ⟨fun h => ?_, fun h => ?_⟩
  · obtain ⟨x, hx, e⟩ := List.mem_map.mp h
    exact List.mem_map.mpr ⟨x, hx, Int.ofNat.inj e⟩
  · obtain ⟨x, hx, e⟩ := List.mem_map.mp h
    exact List.mem_map.mpr ⟨x, hx, congrArg _ e⟩
section
variable {P : Program} {w : World} {K : PySem.W.Frag} {mg : Str → Option Value} {base : Heap}
def spLR (K : PySem.W.Frag) : Sp := fun vs H Q _ => ∃ (v : V) (ws : List Str) (qs : List QD) (g : List (List Mk)), vs = [v] ∧ Dp K H v (netD true ws qs) ∧ NetR ws qs g ∧ (∀ x ∈ ws, PyData.strOk x = true) ∧
  ∀ H' l ys, Same H H' → H l = none → H' l = some (.lst ys) → DpAll K (cutS [l] H') ys (g.map rowL) → Q (.ref l) H'
theorem ok_w_rings {f : Addr} {fd : FuncData} {k : Nat} (F : Fun K "_law_rings" "_law_rings" s_w_rings f fd) (m_enumerate : mg "enumerate" = none) : FnOk P w K mg base CX0 (k + 1) f fd ["_law_web_here"] (spLR K) := by
  refine F.ok sc_w_rings (fun vs H Q E h => ?_) (fun cdv A outer s0 H vs Q E hr h => ?_)
  · obtain ⟨v, ws, qs, g, rfl, _⟩ := h
    rfl
  · obtain ⟨v, ws, qs, g, rfl, hD, hR0, hok, q⟩ := h
    obtain ⟨hnd, hG, hw6, hsm, hq60, hRn⟩ := hR0
    refine ⟨_, (pss_cons (ps_par (i := 1) (j := 2) (by rfl) sc_w_rings.nd rfl rfl (by decide) rfl rfl (pa_cons (pe_lst pa_nil) (pa_cons (pe_lcX (pe_lc (own := [("_law_tag", 10)]) (g := gName 10) (tt := tYes) (te := tTup (tCons (tVar 10) (tCons (tLst tNil) (tCons (tLst (tCons (tVar 10) tNil)) tNil)))) (by rfl) sc_w_rings.nd (pi_seq (pe_ix ix_lt (pv 0) pe_int (fun _ _ => rfl))) (blkOk_by (own := [("_law_tag", 10)]) (N := sc_w_rings_N) (sc := defScope s_w_rings) (by decide +kernel)) (fun _ _ _ _ _ => pg_name (i := 10) sc_w_rings.nd rfl (Or.inl rfl)) (fun _ _ _ _ _ => pts_nil) (fun _ _ _ _ _ => (pe_tup (pa_cons (pv 10) (pa_cons (pe_lst pa_nil) (pa_cons (pe_lst (pa_cons (pv 10) pa_nil)) pa_nil))))))) pa_nil)) (by rfl)) 
    (pss_cons (ps_whileX (ps_while PassesOwn.never (pt_cmpR (op_neD hr.units) (pv 2) (pe_lst pa_nil) (nomark _)) 
      (pss_cons (ps_asg (pe_bm0 PySem.F.plainAttrs_list PySem.F.slot_list_pop PySem.F.type_list_pop mt_pop (pv 2)) (pg_tup rfl (pgs_cons (pg_name (i := 3) sc_w_rings.nd rfl (Or.inl rfl)) (pgs_cons (pg_name (i := 4) sc_w_rings.nd rfl (Or.inl rfl)) (pgs_cons (pg_name (i := 5) sc_w_rings.nd rfl (Or.inl rfl)) pgs_nil))))) 
      (pss_one (ps_forX (ps_for PassesOwn.never rfl (pi_enumT (by rfl) m_enumerate (pa_cons (pe_ix ix_lt (pv 0) pe_int (fun _ _ => rfl)) pa_nil)) (pg_tup rfl (pgs_cons (pg_name (i := 6) sc_w_rings.nd rfl (Or.inl rfl)) (pgs_cons (pg_name (i := 7) sc_w_rings.nd rfl (Or.inl rfl)) pgs_nil))) (pss_one (ps_if (PW.pt (pw_or (pt_cmpR op_eq (pv 3) (pe_ix ix_lt (pv 7) pe_int (fun _ _ => rfl)) (nomark _)) (pw_or1 (pt_cmpR op_eq (pv 3) (pe_ix ix_lt (pv 7) pe_int (fun _ _ => rfl)) (nomark _))))) 
          (pss_cons (ps_set (i := 8) sc_w_rings.nd rfl (Or.inl rfl) (pe_ifExp (pt_cmpR op_eq (pv 3) (pe_ix ix_lt (pv 7) pe_int (fun _ _ => rfl)) (nomark _)) (pe_ix ix_lt (pv 7) pe_int (fun _ _ => rfl)) (pe_ix ix_lt (pv 7) pe_int (fun _ _ => rfl)))) 
          (pss_cons (ps_set (i := 9) sc_w_rings.nd rfl (Or.inl rfl) (pe_tup (pa_cons (pv 6) (pa_cons (pe_ifExp (pt_cmpR op_eq (pv 3) (pe_ix ix_lt (pv 7) pe_int (fun _ _ => rfl)) (nomark _)) pe_int (pe_un un_neg pe_int)) pa_nil)))) 
          (pss_cons (ps_if (PW.pt (pw_and (pt_cmpR op_eq (pv 8) (pe_ix ix_list (pv 5) pe_int (fun _ _ => rfl)) (nomark _)) (pw_and (pt_cmpR (op_neD hr.units) (pv 4) (pe_lst pa_nil) (nomark _)) (pw_and1 (pt_cmpR op_notIn_seq (pv 6) (pe_lcX (pe_lc (own := [("_law_own", 11)]) (g := gName 11) (tt := tYes) (te := tOp (rIxF K) (tVar 11) (tC (.int 0))) (by rfl) sc_w_rings.nd (pi_seq (pv 4)) (blkOk_by (own := [("_law_own", 11)]) (N := sc_w_rings_N) (sc := defScope s_w_rings) (by decide +kernel)) (fun _ _ _ _ _ => pg_name (i := 11) sc_w_rings.nd rfl (Or.inl rfl)) (fun _ _ _ _ _ => pts_nil) (fun _ _ _ _ _ => (pe_ix ix_lt (pv 11) pe_int (fun _ _ => rfl))))) (by with_unfolding_all rfl)))))) (pss_one (ps_expr (pe_bm PySem.F.plainAttrs_list PySem.F.slot_list_append PySem.F.type_list_append mt_append (pv 1) (pa_cons (pe_op op_catL (pv 4) (pe_lst (pa_cons (pv 9) pa_nil))) pa_nil)))) pss_nil) 
          (pss_one (ps_if (PW.pt (pw_and (pt_cmpR op_gt_str (pv 8) (pe_ix ix_list (pv 5) pe_int (fun _ _ => rfl)) (nomark _)) (pw_and1 (pt_cmpR op_notIn_seq (pv 8) (pv 5) (by with_unfolding_all rfl))))) (pss_one (ps_expr (pe_bm PySem.F.plainAttrs_list PySem.F.slot_list_append PySem.F.type_list_append mt_append (pv 2) (pa_cons (pe_tup (pa_cons (pv 8) (pa_cons (pe_op op_catL (pv 4) (pe_lst (pa_cons (pv 9) pa_nil))) (pa_cons (pe_op op_catL (pv 5) (pe_lst (pa_cons (pv 8) pa_nil))) pa_nil)))) pa_nil)))) pss_nil))))) pss_nil)))))))) 
    (pss_one (ps_ret (pv 1))))), ?_⟩
    obtain ⟨a0, a1, a2, xq, rfl, N0⟩ := netAt hD
    have i0 : atI [V.ref a1, V.ref a2] 0 = some (.ref a1) := atI_nat (j := 0) rfl
    have i1 : atI [V.ref a1, V.ref a2] 1 = some (.ref a2) := atI_nat (j := 1) rfl
    have wl : (ws.map V.str).length = ws.length := List.length_map ..
    walk_at "ev"
    intro Fa hFa
    have sF : Same H (upd H Fa (.lst [])) := .upd hFa
    have hF1 : (upd H Fa (.lst [])) Fa = some (.lst []) := upd_same
    try dsimp only [tNil]
    generalize upd H Fa (.lst []) = H2 at sF hF1 ⊢
    have Ns := N0.same sF
    refine lc_dataD (fb := true) (S := [Fa]) (ds := ws.map PyData.str) (fun d => .tuple [d, .list [], .list [d]]) (fun R' r => ⟨_, rfl, rIxF_at Ns.h0 i0 r⟩) Ns.h1 dpa_strs (Trk.cons Trk.nil hF1) (by rw [List.length_map]; omega) (fun x => rfl) (fun x d H3 T hd t1 hx Q' q' => ?_) (fun Oa ys H3 s3 hO0 h3 h4 => ?_)
    · obtain ⟨z, _, rfl⟩ := List.mem_map.mp hd
      cases hx
      exact (ic_tup (K := K) (S := T) (H0 := H3) (ds := [.str z, .list [], .list [.str z]]) (ac_cons (ic_var rfl (.str z)) (ac_cons (ic_lst ac_nil (by decide)) (ac_cons (ic_lst (ac_cons (ic_var rfl (.str z)) ac_nil) (by show 1 ≤ 1000; decide)) ac_nil))) (by show 3 ≤ 1000; decide)) H3 Q' (fun _ _ e => e) t1 fun H4 u s4 d4 => q' H4 u s4 d4
    · have hOM : Oa ≠ Fa := fun z => by
        rw [z, hF1] at hO0
        cases hO0
      have hO0c : H Oa = none := sF.free hO0
      have e4 : (ws.map PyData.str).map (fun d => PyData.tuple [d, .list [], .list [d]]) = (startP ws).2.map gsL := by
        unfold startP
        rw [List.map_map, List.map_map]
        exact List.map_congr_left fun _ _ => rfl
      rw [e4] at h4
      have hFO : Fa ≠ Oa := hOM.symm
      have hFc := hFa
      have w0 : W2 K H Fa Oa H3 [] ys ((startP ws).1.map rowL) ((startP ws).2.map gsL) :=
        ⟨s3 _ _ hF1, h3, .nil, (cutS_sub (S := [Oa, Fa]) (T := [Fa, Oa]) fun a ha => by
          rcases List.mem_cons.mp ha with e | e
          · rw [e]; exact List.mem_cons_of_mem _ List.mem_cons_self
          · rw [List.mem_singleton.mp e]; exact List.mem_cons_self).dpa h4, fun b o hb => by
          rw [cutS_out (not2 (ne_of_none hb hFc) (ne_of_none hb hO0c))]
          exact s3 _ _ (sF _ _ hb)⟩
      have hst : InvP ws qs (startP ws) := start_ok
      clear h3 h4 e4 s3 hF1 hO0 sF hFa Ns H2
      walk_at "ev"
      refine .yes ⟨fun n σ H4 => ∃ (f : List (List Mk)) (o : List Gs) (fv ov : List V) (y3 y4 y5 y6 y7 y8 y9 y10 y11 : Option V), n = Phi (dgr qs) ws.length (f, o) ∧ σ = [some (.ref a0), some (.ref Fa), some (.ref Oa), y3, y4, y5, y6, y7, y8, y9, y10, y11] ∧ W2 K H Fa Oa H4 fv ov (f.map rowL) (o.map gsL) ∧ InvP ws qs (f, o) ∧ Rn qs (f, o) g ∧ n ≤ 3200000,
        ⟨_, (startP ws).1, (startP ws).2, [], ys, _, _, _, _, _, _, _, _, _, rfl, rfl, w0, hst, hRn, start_phi hsm⟩, fun n σ H4 hW => ?_⟩
      obtain ⟨f, o, fv, ov, y3, y4, y5, y6, y7, y8, y9, y10, y11, rfl, rfl, w1, hI, hR, hn⟩ := hW
      have lo := dpa_len w1.dO
      rw [List.length_map] at lo
      walk_at "ev"
      intro Na hNa
      have sN : Same H4 (upd H4 Na (.lst [])) := .upd hNa
      have hN1 : (upd H4 Na (.lst [])) Na = some (.lst []) := upd_same
      try dsimp only [tNil]
      replace w1 := w1.same sN
      generalize upd H4 Na (.lst []) = H4' at w1 hN1 ⊢
      refine ⟨.list (o.map gsL), .list [], .lst (sql_of w1.hO) (cutS_le.dpa w1.dO), .lst (sql_of hN1) .nil, shaped_of (can_seq (f := false) fun d hd => ?_) (Nat.le_trans (dep_seq (f := false) (n := 3) fun d hd => ?_) (by decide)), shaped_nil3, ?_⟩
      · obtain ⟨a, ha, rfl⟩ := List.mem_map.mp hd
        exact (gsL_ok (hI.op a ha) hok).1
      · obtain ⟨a, ha, rfl⟩ := List.mem_map.mp hd
        exact (gsL_ok (hI.op a ha) hok).2
      · rw [eqv_nil3, List.isEmpty_map]
        clear hN1 sN hNa
        rcases List.eq_nil_or_concat o with e | ⟨o', a, e⟩
        · subst e
          refine ⟨_, rfl, iteF ?_⟩
          walk_at "ev"
          have eg : g = f := hR.inv0 rfl
          subst eg
          refine q H4' Fa fv (w1.hS.trans cutS_le) hFc w1.hF ?_
          exact (cutS_sub fun b hb => by rw [List.mem_singleton.mp hb]; exact List.mem_cons_self).dpa w1.dF
        · rw [List.concat_eq_append] at e
          subst e
          have eE : (o' ++ [a]).isEmpty = false := by simp
          rw [eE]
          refine ⟨_, rfl, iteT ?_⟩
          rw [List.length_append, List.length_singleton] at lo
          refine ⟨fun σ' H' => ∃ m', m' < Phi (dgr qs) ws.length (f, o' ++ [a]) ∧ ∃ (f : List (List Mk)) (o : List Gs) (fv ov : List V) (y3 y4 y5 y6 y7 y8 y9 y10 y11 : Option V), m' = Phi (dgr qs) ws.length (f, o) ∧ σ' = [some (.ref a0), some (.ref Fa), some (.ref Oa), y3, y4, y5, y6, y7, y8, y9, y10, y11] ∧ W2 K H Fa Oa H' fv ov (f.map rowL) (o.map gsL) ∧ InvP ws qs (f, o) ∧ Rn qs (f, o) g ∧ m' ≤ 3200000, fun σ' H' h => h, ?_⟩
          obtain ⟨hI2, hPhi⟩ := stp_ok hG hI
          have hR2 := hR.inv1 rfl
          have Ia := hI.op a (List.mem_append_right _ List.mem_cons_self)
          rcases List.eq_nil_or_concat ov with e | ⟨ov', t, e⟩
          · rw [e] at lo
            simp at lo
          · rw [List.concat_eq_append] at e
            subst e
            have hdO := w1.dO
            rw [List.map_append] at hdO
            obtain ⟨hdO', hdt⟩ := dpa_snoc hdO
            walk_at "ev"
            refine ⟨.inl ⟨rfl, _, sql_of w1.hO⟩, ?_⟩
            refine ⟨Oa, _, t, rfl, rfl, w1.hO, by simp, ?_⟩
            rw [List.dropLast_concat]
            have w2 := w1.setO hFO hdO'
            have hdt2 : Dp K (cutS [Fa, Oa] (upd H4' Oa (.lst ov'))) t (gsL a) := by rw [cut_upd2.2]; exact hdt
            generalize upd H4' Oa (.lst ov') = H5 at w2 hdt2 ⊢
            obtain ⟨ta, xt, rfl, hta, hxt⟩ := Dp.seq_of (f := true) hdt2
            cases hxt with
            | cons k1 hxt =>
              cases hxt with
              | cons k2 hxt =>
                cases hxt with
                | cons k3 hxt =>
                  cases hxt
                  cases k1
                  obtain ⟨mm, xm, rfl, hmm, hxm⟩ := Dp.seq_of (f := false) k3
                  have hmm : SqL K (cutS [Fa, Oa] H5) mm xm := hmm
                  have exm := dpa_strs_of hxm
                  subst exm
                  obtain ⟨rr, xr, rfl, hrr, hxr⟩ := Dp.seq_of (f := false) k2
                  have hrr : SqL K (cutS [Fa, Oa] H5) rr xr := hrr
                  refine ⟨ta, _, rfl, cutS_le.sqT hta, rfl, ?_⟩
                  refine ⟨_, _, rfl, ?_⟩
                  refine ⟨_, _, rfl, ?_⟩
                  refine ⟨_, _, rfl, rfl, ?_⟩
                  try dsimp only [gName, tSeq, tAsg]
                  refine for_of ?_
                  have hls := met_ls Ia.ll
                  have hhd := met_hd Ia.ll
                  have hall := Ia.ll
                  have S5 : Same H H5 := w2.hS.trans cutS_le
                  have N5 := N0.same S5
                  walk_at "ev"
                  try dsimp only [tC, tNil]
                  refine rIxF_at N5.h0 i1 ?_
                  refine ⟨a2, xq, rfl, N5.h2, ?_⟩
                  refine forR_it (walk_enumT (K := K) (a := a2) (xs := xq)) (fun k σ H6 => ∃ (fv ov : List V) (y6 y7 y8 y9 : Option V), σ = [some (.ref a0), some (.ref Fa), some (.ref Oa), some (.str (lsG a)), some (.ref rr), some (.ref mm), y6, y7, y8, y9, y10, y11] ∧
                    W2 K H Fa Oa H6 fv ov (((List.range k).foldl (oneL qs a) (f, o')).1.map rowL) (((List.range k).foldl (oneL qs a) (f, o')).2.map gsL) ∧ Same (cutS [Fa, Oa] H5) (cutS [Fa, Oa] H6))
                    ⟨fv, ov', _, _, _, _, rfl, w2, fun _ _ e => e⟩ (fun k σ H6 _ hh => ?_) (fun k v σ H6 H6' hk hh y => ?_) (fun σ H6 hh => ?_)
                  · obtain ⟨_, _, _, _, _, _, _, w3, _⟩ := hh
                    exact (w3.hS.trans cutS_le).sqT N0.h2
                  · obtain ⟨fv3, ov3, y6, y7, y8, y9, rfl, w3, e3⟩ := hh
                    obtain ⟨T, x1, x2, rfl, hTn, rfl, g1, g2⟩ := y
                    cases g1
                    obtain ⟨qd, aq, hq, rfl, hqs⟩ := N0.hq k x2 g2
                    have sT : Same H6 (upd H6 T (.tup [.int (k : Nat), .ref aq])) := .upd hTn
                    have hT1 : SqT K (upd H6 T (.tup [.int (k : Nat), .ref aq])) T [.int (k : Nat), .ref aq] := sqt_of upd_same
                    replace w3 := w3.same sT
                    replace e3 := e3.trans (cutS_mono sT)
                    generalize upd H6 T (.tup [.int (k : Nat), .ref aq]) = H7 at w3 e3 hT1 ⊢
                    rw [List.range_succ, List.foldl_append, List.foldl_cons, List.foldl_nil]
                    have hpb := take_phiL k hG hI (by rw [N0.ll] at hk; omega)
                    generalize (List.range k).foldl (oneL qs a) (f, o') = p at w3 hpb ⊢
                    have hlen := len_phi (dgr_pos (qs := qs)) ws.length p
                    have lf3 : fv3.length < 4000000 := by rw [dpa_len w3.dF, List.length_map]; omega
                    have lo3 : ov3.length < 4000000 := by rw [dpa_len w3.dO, List.length_map]; omega
                    have hq7 := (w3.hS.trans cutS_le).sqT hqs
                    refine ⟨T, _, rfl, hT1, rfl, ?_⟩
                    refine ⟨_, _, rfl, ?_⟩
                    refine ⟨_, _, rfl, rfl, ?_⟩
                    walk_at "ev"
                    try dsimp only [tC, tNil]
                    refine rIxF_at (f := true) hq7 (atI_nat (j := 1) rfl) ?_
                    walk_at "ev"
                    have hkq : k < qs.length := by rw [N0.ll] at hk; exact hk
                    have ed : ∀ x y : Str, decide (V.str x = V.str y) = decide (x = y) := fun x y => decide_eq_decide.mpr ⟨V.str.inj, congrArg _⟩
                    rw [ed]
                    by_cases h0 : qd.st = lsG a
                    · have hst : decide (lsG a = qd.st) = true := decide_eq_true h0.symm
                      rw [hst]
                      refine iteT (iteT ?_)
                      have etch : tch qs (lsG a) k = some (k, true) := by
                        unfold tch
                        rw [hq]
                        exact if_pos h0
                      have hmk2 : ((k, true) : Mk) ∈ touchN qs (lsG a) qs.length := List.mem_filterMap.mpr ⟨k, List.mem_range.mpr hkq, etch⟩
                      have efar : far qs (k, true) = qd.en := by
                        unfold far
                        rw [hq]
                        rfl
                      have eL : oneL qs a p k = one qs a p (k, true) := by
                        unfold oneL
                        rw [etch]
                      rw [eL]
                      walk_at "ev"
                      try dsimp only [tC, tNil]
                      refine rIxF_at (f := true) hq7 (atI_nat (j := 1) rfl) ?_
                      walk_at "ev"
                      rw [ed, hst]
                      refine iteT ?_
                      walk_at "ev"
                      try dsimp only [tC, tNil]
                      refine rIxF_at (f := true) hq7 (atI_nat (j := 2) rfl) ?_
                      try dsimp only [gName, tSeq, tAsg]
                      walk_at "ev"
                      try dsimp only [tC, tNil]
                      refine rIxF_at (f := true) hq7 (atI_nat (j := 1) rfl) ?_
                      walk_at "ev"
                      rw [ed, hst]
                      refine iteT ?_
                      walk_at "ev"
                      intro ma hma
                      have sM : Same H7 (upd H7 ma (.tup [.int (k : Nat), .int (1)])) := .upd hma
                      have hmk8 : Dp K (cutS [Fa, Oa] (upd H7 ma (.tup [.int (k : Nat), .int (1)]))) (.ref ma) (mkL (k, true)) := dp_tup w3.trk hma (.cons (.int _) (.cons (.int _) .nil))
                      replace w3 := w3.same sM
                      replace e3 := e3.trans (cutS_mono sM)
                      have hmm8 := e3.sqL hmm
                      have hrr8 := e3.dp k2
                      rw [← efar]
                      try dsimp only [gName, tSeq, tAsg]
                      clear hq7 hT1
                      generalize upd H7 ma (.tup [.int (k : Nat), .int (1)]) = H8 at w3 e3 hmk8 hmm8 hrr8 ⊢
                      have hk1 : ((k, true) : Mk).1 = k := rfl
                      generalize ((k, true) : Mk) = mk at hmk8 hmk2 efar hk1 ⊢ etch
                      walk_at "ev"
                      try dsimp only [tC, tNil]
                      refine ⟨mm, _, _, .str (hdG a), rfl, rfl, cutS_le.sqL hmm8, atI_nat (j := 0) (by rw [List.getElem?_map, hhd]; rfl), ?_⟩
                      walk_at "ev"
                      rw [ed]
                      by_cases h1 : far qs mk = hdG a
                      · rw [decide_eq_true h1]
                        refine iteT ?_
                        have hne := row_ne hG Ia hmk2 h1
                        have egt : gtS (far qs mk) (hdG a) = false := by
                          rw [h1]
                          exact decide_eq_false (List.lt_irrefl _)
                        walk_at "ev"
                        intro Nb hNb
                        have sNb : Same H8 (upd H8 Nb (.lst [])) := .upd hNb
                        have hNb1 : (upd H8 Nb (.lst [])) Nb = some (.lst []) := upd_same
                        try dsimp only [tNil]
                        replace w3 := w3.same sNb
                        replace e3 := e3.trans (cutS_mono sNb)
                        replace hmm8 := (cutS_mono sNb).sqL hmm8
                        replace hrr8 := (cutS_mono sNb).dp hrr8
                        replace hmk8 := (cutS_mono sNb).dp hmk8
                        generalize upd H8 Nb (.lst []) = H9 at w3 e3 hmm8 hrr8 hmk8 hNb1 ⊢
                        refine ⟨rowL a.row, .list [], cutS_le.dp hrr8, .lst (sql_of hNb1) .nil, shaped_of rowL_ok.1 (Nat.le_trans rowL_ok.2 (by decide)), shaped_nil3, ?_⟩
                        have eqr : PyData.eqv (rowL a.row) (.list []) = false := by
                          show PyData.eqv (.list _) (.list []) = false
                          rw [eqv_nil3, List.isEmpty_map]
                          cases hr0 : a.row with
                          | nil => exact absurd hr0 hne
                          | cons x l => rfl
                        rw [eqr]
                        refine ⟨_, rfl, iteT ?_⟩
                        obtain ⟨ra, xra, era, hra, hxra⟩ := Dp.seq_of (f := false) (cutS_le.dp hrr8)
                        cases era
                        refine ⟨_, rfl, ?_⟩
                        refine lc_data (fb := false) (S := []) (ds := a.row.map mkL) fstD (fun R' r => ⟨_, rfl, r⟩) hra (by rw [cutS_nil]; exact hxra) Trk.nil (by rw [List.length_map]; have := inv_len Ia; omega) (fun x => rfl) (fun x d Hx T2 hd t1 hx Q' q' => ?_) (fun D ys Hx sx hD0 hx1 hx2 => ?_)
                        · obtain ⟨m0, _, rfl⟩ := List.mem_map.mp hd
                          obtain ⟨tr, xtr, rfl, htr, hxtr⟩ := Dp.seq_of (f := true) hx
                          cases hxtr with
                          | cons j1 hxtr => exact ⟨_, rfl, rIxF_at (cutS_le.sqF htr) (atI_nat (j := 0) rfl) (q' Hx _ (fun _ _ e => e) j1)⟩
                        · have efs : (a.row.map mkL).map fstD = (a.row.map fun m => (m.1 : Int)).map PyData.int := by
                            rw [List.map_map, List.map_map]
                            exact List.map_congr_left fun _ _ => rfl
                          rw [cutS_nil, efs] at hx2
                          have eys := dpa_ints_of hx2
                          subst eys
                          replace w3 := w3.same sx
                          replace e3 := e3.trans (cutS_mono sx)
                          replace hmm8 := (cutS_mono sx).sqL hmm8
                          replace hrr8 := (cutS_mono sx).dp hrr8
                          replace hmk8 := (cutS_mono sx).dp hmk8
                          refine ⟨D, _, rfl, .inl (sql_of hx1), rfl, ?_, ?_⟩
                          · rw [List.all_map, List.all_eq_true]
                            exact fun _ _ => rfl
                          · refine ⟨_, rfl, ?_⟩
                            have e2 : decide ((k : Int) ∈ a.row.map fun m => (m.1 : Int)) = decide (mk.1 ∈ a.row.map (·.1)) := by
                              rw [← hk1]
                              exact in_fst
                            rw [in_ints, e2]
                            by_cases h2 : mk.1 ∈ a.row.map (·.1)
                            · have eone : one qs a p mk = p := by
                                unfold one
                                rw [if_pos h1, if_neg (fun z => z.2 h2)]
                              rw [decide_eq_true h2]
                              refine iteF ?_
                              walk_at "ev"
                              try dsimp only [tC, tNil]
                              refine ⟨mm, _, _, .str (hdG a), rfl, rfl, cutS_le.sqL hmm8, atI_nat (j := 0) (by rw [List.getElem?_map, hhd]; rfl), ?_⟩
                              refine ⟨_, _, rfl, rfl, ?_⟩
                              refine ⟨_, rfl, ?_⟩
                              rw [show decide ((hdG a).cps.toList < (far qs mk).cps.toList) = gtS (far qs mk) (hdG a) from rfl, egt]
                              refine iteF (iteF ?_)
                              exact ⟨fv3, ov3, _, _, _, _, rfl, by rw [eone]; exact w3, e3⟩
                            · have eone : one qs a p mk = (p.1 ++ [a.row ++ [mk]], p.2) := by
                                unfold one
                                rw [if_pos h1, if_pos ⟨hne, h2⟩]
                              rw [decide_eq_false h2]
                              refine iteT ?_
                              walk_at "ev"
                              refine ⟨.inl ⟨rfl, _, sql_of w3.hF⟩, ?_⟩
                              have tr := w3.trk
                              have hic : IsC K [Fa, Oa] Hx (tOp (rCatL K) (tVar 4) (tLst (tCons (tVar 9) tNil))) (rowL (a.row ++ [mk])) [some (.ref a0), some (.ref Fa), some (.ref Oa), some (.str (lsG a)), some (.ref rr), some (.ref mm), some (.int (k : Nat)), some (.ref aq), some (.str (far qs mk)), some (.ref ma), y10, y11] := by
                                rw [rowL_push]
                                exact ic_catL (ic_var rfl hrr8) (ic_lst (ac_cons (ic_var rfl hmk8) ac_nil) (by show 1 ≤ 1000; decide)) (by rw [List.length_map]; show a.row.length + 1 ≤ 1000; have := inv_len Ia; omega)
                              refine hic Hx _ (fun _ _ e => e) tr fun Hy tv sy dy => ?_
                              try dsimp only [tNil]
                              refine ⟨Fa, _, _, rfl, rfl, sy _ _ w3.hF, szL (by omega), ?_⟩
                              have w7 := (w3.same sy).pushF hFO dy
                              have e7 : Same (cutS [Fa, Oa] H5) (cutS [Fa, Oa] (upd Hy Fa (.lst (fv3 ++ [tv])))) := e3.trans ((cutS_mono sy).trans (by rw [cut_upd2.1]; exact fun _ _ e => e))
                              generalize upd Hy Fa (.lst (fv3 ++ [tv])) = Hz at w7 e7 ⊢
                              walk_at "ev"
                              try dsimp only [tC, tNil]
                              refine ⟨mm, _, _, .str (hdG a), rfl, rfl, cutS_le.sqL (e7.sqL hmm), atI_nat (j := 0) (by rw [List.getElem?_map, hhd]; rfl), ?_⟩
                              refine ⟨_, _, rfl, rfl, ?_⟩
                              refine ⟨_, rfl, ?_⟩
                              rw [show decide ((hdG a).cps.toList < (far qs mk).cps.toList) = gtS (far qs mk) (hdG a) from rfl, egt]
                              refine iteF (iteF ?_)
                              exact ⟨_, ov3, _, _, _, _, rfl, by rw [eone, List.map_append]; exact w7, e7⟩
                      · rw [decide_eq_false h1]
                        refine iteF (iteF ?_)
                        walk_at "ev"
                        try dsimp only [tC, tNil]
                        refine ⟨mm, _, _, .str (hdG a), rfl, rfl, cutS_le.sqL hmm8, atI_nat (j := 0) (by rw [List.getElem?_map, hhd]; rfl), ?_⟩
                        refine ⟨_, _, rfl, rfl, ?_⟩
                        refine ⟨_, rfl, ?_⟩
                        rw [show decide ((hdG a).cps.toList < (far qs mk).cps.toList) = gtS (far qs mk) (hdG a) from rfl]
                        cases hgt : gtS (far qs mk) (hdG a) with
                        | false =>
                          have eone : one qs a p mk = p := by
                            unfold one
                            rw [if_neg h1, if_neg (fun z => by rw [hgt] at z; exact Bool.false_ne_true z.1)]
                          refine iteF (iteF ?_)
                          exact ⟨fv3, ov3, _, _, _, _, rfl, by rw [eone]; exact w3, e3⟩
                        | true =>
                          refine iteT ?_
                          walk_at "ev"
                          try dsimp only [tC, tNil]
                          refine ⟨mm, _, rfl, .inl (cutS_le.sqL hmm8), rfl, ?_, ?_⟩
                          · rw [List.all_map, List.all_eq_true]
                            exact fun _ _ => rfl
                          · refine ⟨_, rfl, ?_⟩
                            rw [in_strs]
                            by_cases h3 : far qs mk ∈ a.met
                            · have eone : one qs a p mk = p := by
                                unfold one
                                rw [if_neg h1, if_neg (fun z => z.2 h3)]
                              rw [decide_eq_true h3]
                              refine iteF ?_
                              exact ⟨fv3, ov3, _, _, _, _, rfl, by rw [eone]; exact w3, e3⟩
                            · have eone : one qs a p mk = (p.1, p.2 ++ [⟨a.row ++ [mk], a.met ++ [far qs mk]⟩]) := by
                                unfold one
                                rw [if_neg h1, if_pos ⟨hgt, h3⟩]
                              rw [decide_eq_false h3]
                              refine iteT ?_
                              walk_at "ev"
                              refine ⟨.inl ⟨rfl, _, sql_of w3.hO⟩, ?_⟩
                              have tr := w3.trk
                              have hme : Dp K (cutS [Fa, Oa] H8) (.ref mm) (.list (a.met.map PyData.str)) := .lst hmm8 dpa_strs
                              have hic : IsC K [Fa, Oa] H8 (tTup (tCons (tVar 8) (tCons (tOp (rCatL K) (tVar 4) (tLst (tCons (tVar 9) tNil))) (tCons (tOp (rCatL K) (tVar 5) (tLst (tCons (tVar 8) tNil))) tNil)))) (gsL ⟨a.row ++ [mk], a.met ++ [far qs mk]⟩) [some (.ref a0), some (.ref Fa), some (.ref Oa), some (.str (lsG a)), some (.ref rr), some (.ref mm), some (.int (k : Nat)), some (.ref aq), some (.str (far qs mk)), some (.ref ma), y10, y11] := by
                                unfold gsL
                                rw [lsG_push, List.map_append]
                                rw [show rowL (a.row ++ [mk]) = .list (a.row.map mkL ++ [mkL mk]) from rowL_push]
                                have li := inv_len Ia
                                exact ic_tup (ac_cons (ic_var rfl (.str _)) (ac_cons (ic_catL (ic_var rfl hrr8) (ic_lst (ac_cons (ic_var rfl hmk8) ac_nil) (by show 1 ≤ 1000; decide)) (by rw [List.length_map]; show a.row.length + 1 ≤ 1000; omega))
                                  (ac_cons (ic_catL (ic_var rfl hme) (ic_lst (ac_cons (ic_var rfl (.str _)) ac_nil) (by show 1 ≤ 1000; decide)) (by rw [List.length_map]; show a.met.length + 1 ≤ 1000; omega)) ac_nil))) (by show 3 ≤ 1000; decide)
                              refine hic H8 _ (fun _ _ e => e) tr fun Hy tv sy dy => ?_
                              try dsimp only [tNil]
                              refine ⟨Oa, _, _, rfl, rfl, sy _ _ w3.hO, szL (by omega), ?_⟩
                              have w7 := (w3.same sy).setO hFO (dpa_app (w3.same sy).dO (dpa_one dy))
                              refine ⟨fv3, _, _, _, _, _, rfl, by rw [eone, List.map_append]; exact w7, e3.trans ((cutS_mono sy).trans (by rw [cut_upd2.2]; exact fun _ _ e => e))⟩
                    · have hst : decide (lsG a = qd.st) = false := decide_eq_false fun z => h0 z.symm
                      rw [hst]
                      refine iteF ?_
                      walk_at "ev"
                      try dsimp only [tC, tNil]
                      refine rIxF_at (f := true) hq7 (atI_nat (j := 2) rfl) ?_
                      walk_at "ev"
                      rw [ed]
                      by_cases h0e : qd.en = lsG a
                      · rw [decide_eq_true h0e.symm]
                        refine iteT ?_
                        have etch : tch qs (lsG a) k = some (k, false) := by
                          unfold tch
                          rw [hq]
                          show (if qd.st = lsG a then _ else _) = _
                          rw [if_neg h0, if_pos h0e]
                        have hmk2 : ((k, false) : Mk) ∈ touchN qs (lsG a) qs.length := List.mem_filterMap.mpr ⟨k, List.mem_range.mpr hkq, etch⟩
                        have efar : far qs (k, false) = qd.st := by
                          unfold far
                          rw [hq]
                          rfl
                        have eL : oneL qs a p k = one qs a p (k, false) := by
                          unfold oneL
                          rw [etch]
                        rw [eL]
                        walk_at "ev"
                        try dsimp only [tC, tNil]
                        refine rIxF_at (f := true) hq7 (atI_nat (j := 1) rfl) ?_
                        walk_at "ev"
                        rw [ed, hst]
                        refine iteF ?_
                        walk_at "ev"
                        try dsimp only [tC, tNil]
                        refine rIxF_at (f := true) hq7 (atI_nat (j := 1) rfl) ?_
                        try dsimp only [gName, tSeq, tAsg]
                        walk_at "ev"
                        try dsimp only [tC, tNil]
                        refine rIxF_at (f := true) hq7 (atI_nat (j := 1) rfl) ?_
                        walk_at "ev"
                        rw [ed, hst]
                        refine iteF ?_
                        walk_at "ev"
                        intro ma hma
                        have sM : Same H7 (upd H7 ma (.tup [.int (k : Nat), .int (-1)])) := .upd hma
                        have hmk8 : Dp K (cutS [Fa, Oa] (upd H7 ma (.tup [.int (k : Nat), .int (-1)]))) (.ref ma) (mkL (k, false)) := dp_tup w3.trk hma (.cons (.int _) (.cons (.int _) .nil))
                        replace w3 := w3.same sM
                        replace e3 := e3.trans (cutS_mono sM)
                        have hmm8 := e3.sqL hmm
                        have hrr8 := e3.dp k2
                        rw [← efar]
                        try dsimp only [gName, tSeq, tAsg]
                        clear hq7 hT1
                        generalize upd H7 ma (.tup [.int (k : Nat), .int (-1)]) = H8 at w3 e3 hmk8 hmm8 hrr8 ⊢
                        have hk1 : ((k, false) : Mk).1 = k := rfl
                        generalize ((k, false) : Mk) = mk at hmk8 hmk2 efar hk1 ⊢ etch
                        walk_at "ev"
                        try dsimp only [tC, tNil]
                        refine ⟨mm, _, _, .str (hdG a), rfl, rfl, cutS_le.sqL hmm8, atI_nat (j := 0) (by rw [List.getElem?_map, hhd]; rfl), ?_⟩
                        walk_at "ev"
                        rw [ed]
                        by_cases h1 : far qs mk = hdG a
                        · rw [decide_eq_true h1]
                          refine iteT ?_
                          have hne := row_ne hG Ia hmk2 h1
                          have egt : gtS (far qs mk) (hdG a) = false := by
                            rw [h1]
                            exact decide_eq_false (List.lt_irrefl _)
                          walk_at "ev"
                          intro Nb hNb
                          have sNb : Same H8 (upd H8 Nb (.lst [])) := .upd hNb
                          have hNb1 : (upd H8 Nb (.lst [])) Nb = some (.lst []) := upd_same
                          try dsimp only [tNil]
                          replace w3 := w3.same sNb
                          replace e3 := e3.trans (cutS_mono sNb)
                          replace hmm8 := (cutS_mono sNb).sqL hmm8
                          replace hrr8 := (cutS_mono sNb).dp hrr8
                          replace hmk8 := (cutS_mono sNb).dp hmk8
                          generalize upd H8 Nb (.lst []) = H9 at w3 e3 hmm8 hrr8 hmk8 hNb1 ⊢
                          refine ⟨rowL a.row, .list [], cutS_le.dp hrr8, .lst (sql_of hNb1) .nil, shaped_of rowL_ok.1 (Nat.le_trans rowL_ok.2 (by decide)), shaped_nil3, ?_⟩
                          have eqr : PyData.eqv (rowL a.row) (.list []) = false := by
                            show PyData.eqv (.list _) (.list []) = false
                            rw [eqv_nil3, List.isEmpty_map]
                            cases hr0 : a.row with
                            | nil => exact absurd hr0 hne
                            | cons x l => rfl
                          rw [eqr]
                          refine ⟨_, rfl, iteT ?_⟩
                          obtain ⟨ra, xra, era, hra, hxra⟩ := Dp.seq_of (f := false) (cutS_le.dp hrr8)
                          cases era
                          refine ⟨_, rfl, ?_⟩
                          refine lc_data (fb := false) (S := []) (ds := a.row.map mkL) fstD (fun R' r => ⟨_, rfl, r⟩) hra (by rw [cutS_nil]; exact hxra) Trk.nil (by rw [List.length_map]; have := inv_len Ia; omega) (fun x => rfl) (fun x d Hx T2 hd t1 hx Q' q' => ?_) (fun D ys Hx sx hD0 hx1 hx2 => ?_)
                          · obtain ⟨m0, _, rfl⟩ := List.mem_map.mp hd
                            obtain ⟨tr, xtr, rfl, htr, hxtr⟩ := Dp.seq_of (f := true) hx
                            cases hxtr with
                            | cons j1 hxtr => exact ⟨_, rfl, rIxF_at (cutS_le.sqF htr) (atI_nat (j := 0) rfl) (q' Hx _ (fun _ _ e => e) j1)⟩
                          · have efs : (a.row.map mkL).map fstD = (a.row.map fun m => (m.1 : Int)).map PyData.int := by
                              rw [List.map_map, List.map_map]
                              exact List.map_congr_left fun _ _ => rfl
                            rw [cutS_nil, efs] at hx2
                            have eys := dpa_ints_of hx2
                            subst eys
                            replace w3 := w3.same sx
                            replace e3 := e3.trans (cutS_mono sx)
                            replace hmm8 := (cutS_mono sx).sqL hmm8
                            replace hrr8 := (cutS_mono sx).dp hrr8
                            replace hmk8 := (cutS_mono sx).dp hmk8
                            refine ⟨D, _, rfl, .inl (sql_of hx1), rfl, ?_, ?_⟩
                            · rw [List.all_map, List.all_eq_true]
                              exact fun _ _ => rfl
                            · refine ⟨_, rfl, ?_⟩
                              have e2 : decide ((k : Int) ∈ a.row.map fun m => (m.1 : Int)) = decide (mk.1 ∈ a.row.map (·.1)) := by
                                rw [← hk1]
                                exact in_fst
                              rw [in_ints, e2]
                              by_cases h2 : mk.1 ∈ a.row.map (·.1)
                              · have eone : one qs a p mk = p := by
                                  unfold one
                                  rw [if_pos h1, if_neg (fun z => z.2 h2)]
                                rw [decide_eq_true h2]
                                refine iteF ?_
                                walk_at "ev"
                                try dsimp only [tC, tNil]
                                refine ⟨mm, _, _, .str (hdG a), rfl, rfl, cutS_le.sqL hmm8, atI_nat (j := 0) (by rw [List.getElem?_map, hhd]; rfl), ?_⟩
                                refine ⟨_, _, rfl, rfl, ?_⟩
                                refine ⟨_, rfl, ?_⟩
                                rw [show decide ((hdG a).cps.toList < (far qs mk).cps.toList) = gtS (far qs mk) (hdG a) from rfl, egt]
                                refine iteF (iteF ?_)
                                exact ⟨fv3, ov3, _, _, _, _, rfl, by rw [eone]; exact w3, e3⟩
                              · have eone : one qs a p mk = (p.1 ++ [a.row ++ [mk]], p.2) := by
                                  unfold one
                                  rw [if_pos h1, if_pos ⟨hne, h2⟩]
                                rw [decide_eq_false h2]
                                refine iteT ?_
                                walk_at "ev"
                                refine ⟨.inl ⟨rfl, _, sql_of w3.hF⟩, ?_⟩
                                have tr := w3.trk
                                have hic : IsC K [Fa, Oa] Hx (tOp (rCatL K) (tVar 4) (tLst (tCons (tVar 9) tNil))) (rowL (a.row ++ [mk])) [some (.ref a0), some (.ref Fa), some (.ref Oa), some (.str (lsG a)), some (.ref rr), some (.ref mm), some (.int (k : Nat)), some (.ref aq), some (.str (far qs mk)), some (.ref ma), y10, y11] := by
                                  rw [rowL_push]
                                  exact ic_catL (ic_var rfl hrr8) (ic_lst (ac_cons (ic_var rfl hmk8) ac_nil) (by show 1 ≤ 1000; decide)) (by rw [List.length_map]; show a.row.length + 1 ≤ 1000; have := inv_len Ia; omega)
                                refine hic Hx _ (fun _ _ e => e) tr fun Hy tv sy dy => ?_
                                try dsimp only [tNil]
                                refine ⟨Fa, _, _, rfl, rfl, sy _ _ w3.hF, szL (by omega), ?_⟩
                                have w7 := (w3.same sy).pushF hFO dy
                                have e7 : Same (cutS [Fa, Oa] H5) (cutS [Fa, Oa] (upd Hy Fa (.lst (fv3 ++ [tv])))) := e3.trans ((cutS_mono sy).trans (by rw [cut_upd2.1]; exact fun _ _ e => e))
                                generalize upd Hy Fa (.lst (fv3 ++ [tv])) = Hz at w7 e7 ⊢
                                walk_at "ev"
                                try dsimp only [tC, tNil]
                                refine ⟨mm, _, _, .str (hdG a), rfl, rfl, cutS_le.sqL (e7.sqL hmm), atI_nat (j := 0) (by rw [List.getElem?_map, hhd]; rfl), ?_⟩
                                refine ⟨_, _, rfl, rfl, ?_⟩
                                refine ⟨_, rfl, ?_⟩
                                rw [show decide ((hdG a).cps.toList < (far qs mk).cps.toList) = gtS (far qs mk) (hdG a) from rfl, egt]
                                refine iteF (iteF ?_)
                                exact ⟨_, ov3, _, _, _, _, rfl, by rw [eone, List.map_append]; exact w7, e7⟩
                        · rw [decide_eq_false h1]
                          refine iteF (iteF ?_)
                          walk_at "ev"
                          try dsimp only [tC, tNil]
                          refine ⟨mm, _, _, .str (hdG a), rfl, rfl, cutS_le.sqL hmm8, atI_nat (j := 0) (by rw [List.getElem?_map, hhd]; rfl), ?_⟩
                          refine ⟨_, _, rfl, rfl, ?_⟩
                          refine ⟨_, rfl, ?_⟩
                          rw [show decide ((hdG a).cps.toList < (far qs mk).cps.toList) = gtS (far qs mk) (hdG a) from rfl]
                          cases hgt : gtS (far qs mk) (hdG a) with
                          | false =>
                            have eone : one qs a p mk = p := by
                              unfold one
                              rw [if_neg h1, if_neg (fun z => by rw [hgt] at z; exact Bool.false_ne_true z.1)]
                            refine iteF (iteF ?_)
                            exact ⟨fv3, ov3, _, _, _, _, rfl, by rw [eone]; exact w3, e3⟩
                          | true =>
                            refine iteT ?_
                            walk_at "ev"
                            try dsimp only [tC, tNil]
                            refine ⟨mm, _, rfl, .inl (cutS_le.sqL hmm8), rfl, ?_, ?_⟩
                            · rw [List.all_map, List.all_eq_true]
                              exact fun _ _ => rfl
                            · refine ⟨_, rfl, ?_⟩
                              rw [in_strs]
                              by_cases h3 : far qs mk ∈ a.met
                              · have eone : one qs a p mk = p := by
                                  unfold one
                                  rw [if_neg h1, if_neg (fun z => z.2 h3)]
                                rw [decide_eq_true h3]
                                refine iteF ?_
                                exact ⟨fv3, ov3, _, _, _, _, rfl, by rw [eone]; exact w3, e3⟩
                              · have eone : one qs a p mk = (p.1, p.2 ++ [⟨a.row ++ [mk], a.met ++ [far qs mk]⟩]) := by
                                  unfold one
                                  rw [if_neg h1, if_pos ⟨hgt, h3⟩]
                                rw [decide_eq_false h3]
                                refine iteT ?_
                                walk_at "ev"
                                refine ⟨.inl ⟨rfl, _, sql_of w3.hO⟩, ?_⟩
                                have tr := w3.trk
                                have hme : Dp K (cutS [Fa, Oa] H8) (.ref mm) (.list (a.met.map PyData.str)) := .lst hmm8 dpa_strs
                                have hic : IsC K [Fa, Oa] H8 (tTup (tCons (tVar 8) (tCons (tOp (rCatL K) (tVar 4) (tLst (tCons (tVar 9) tNil))) (tCons (tOp (rCatL K) (tVar 5) (tLst (tCons (tVar 8) tNil))) tNil)))) (gsL ⟨a.row ++ [mk], a.met ++ [far qs mk]⟩) [some (.ref a0), some (.ref Fa), some (.ref Oa), some (.str (lsG a)), some (.ref rr), some (.ref mm), some (.int (k : Nat)), some (.ref aq), some (.str (far qs mk)), some (.ref ma), y10, y11] := by
                                  unfold gsL
                                  rw [lsG_push, List.map_append]
                                  rw [show rowL (a.row ++ [mk]) = .list (a.row.map mkL ++ [mkL mk]) from rowL_push]
                                  have li := inv_len Ia
                                  exact ic_tup (ac_cons (ic_var rfl (.str _)) (ac_cons (ic_catL (ic_var rfl hrr8) (ic_lst (ac_cons (ic_var rfl hmk8) ac_nil) (by show 1 ≤ 1000; decide)) (by rw [List.length_map]; show a.row.length + 1 ≤ 1000; omega))
                                    (ac_cons (ic_catL (ic_var rfl hme) (ic_lst (ac_cons (ic_var rfl (.str _)) ac_nil) (by show 1 ≤ 1000; decide)) (by rw [List.length_map]; show a.met.length + 1 ≤ 1000; omega)) ac_nil))) (by show 3 ≤ 1000; decide)
                                refine hic H8 _ (fun _ _ e => e) tr fun Hy tv sy dy => ?_
                                try dsimp only [tNil]
                                refine ⟨Oa, _, _, rfl, rfl, sy _ _ w3.hO, szL (by omega), ?_⟩
                                have w7 := (w3.same sy).setO hFO (dpa_app (w3.same sy).dO (dpa_one dy))
                                refine ⟨fv3, _, _, _, _, _, rfl, by rw [eone, List.map_append]; exact w7, e3.trans ((cutS_mono sy).trans (by rw [cut_upd2.2]; exact fun _ _ e => e))⟩
                      · rw [decide_eq_false fun z => h0e z.symm]
                        refine iteF ?_
                        have eL : oneL qs a p k = p := by
                          unfold oneL
                          have : tch qs (lsG a) k = none := by
                            unfold tch
                            rw [hq]
                            show (if qd.st = lsG a then _ else _) = _
                            rw [if_neg h0, if_neg h0e]
                          rw [this]
                        exact ⟨fv3, ov3, _, _, _, _, rfl, by rw [eL]; exact w3, e3⟩
                  · obtain ⟨fv3, ov3, y6, y7, y8, y9, rfl, w3, e3⟩ := hh
                    rw [N0.ll, ← stp_L] at w3
                    exact ⟨_, hPhi, (stp qs f o' a).1, (stp qs f o' a).2, fv3, ov3, _, _, _, _, _, _, _, _, _, rfl, rfl, w3, hI2, hR2, by have : Phi (dgr qs) ws.length ((stp qs f o' a).1, (stp qs f o' a).2) = Phi (dgr qs) ws.length (stp qs f o' a) := rfl; omega⟩
end
end Jl

set_option Elab.async false
set_option linter.all false
set_option maxRecDepth 100000
set_option maxHeartbeats 1000000
set_option pp.maxSteps 300
namespace Jl
open PySem PySem.Spec PyProof.Rows L2
open Evl (sz_of sz_lt)
local macro_rules | `(tactic| walk_at "at") => `(tactic| first | exact box0 | exact box1 | exact box2)
local macro_rules | `(tactic| walk_at "sq") => `(tactic| first | (show SqL _ _ _ _; assumption) | (show SqT _ _ _ _; assumption) | (show _ = some _; assumption))
local macro_rules | `(tactic| walk_at "side") => `(tactic| first
  | (show (0 : Int) < _; decide)
  | (show (0 : Int) < _; omega)
  | exact ⟨by decide, by decide, by decide⟩
  | exact sz_of (Nat.le_of_ble_eq_true rfl)
  | exact rfl
  | exact Or.inl (by decide)
  | exact Or.inr (by decide)
  | exact Or.inr ⟨by omega, by omega⟩
  | exact Or.inl ⟨by omega, by omega⟩
  | exact ⟨by decide, by decide +kernel⟩)
local macro_rules | `(tactic| walk_at "ev1") => `(tactic| first
  | refine ⟨_, rfl, ?_⟩
  | refine ⟨_, _, rfl, rfl, ?_⟩
  | refine ⟨_, _, _, _, rfl, rfl, (by walk_at "sq"), (by walk_at "at"), ?_⟩
  | refine ⟨_, _, rfl, (by walk_at "sq"), ?_⟩
  | refine ⟨_, _, rfl, Or.inl (by walk_at "sq"), ?_⟩
  | refine ⟨_, _, rfl, Or.inr (by walk_at "sq"), ?_⟩
  | refine Or.inl ⟨_, rfl, ?_⟩
  | refine Or.inr ⟨_, rfl, ?_⟩
  | refine ⟨(by walk_at "side"), ?_⟩
  | refine ⟨.inl ⟨rfl, _, (by walk_at "sq")⟩, ?_⟩
  | refine ⟨_, _, rfl, ?_⟩)
local macro_rules | `(tactic| walk_at "nrm") => `(tactic| dsimp only [tNil, tCons, tC, tCB])
local macro_rules | `(tactic| walk_at "ev") => `(tactic| repeat (walk_at "ev1"))

abbrev sc_w_ring_sums_N : List Str := ["_law_web_here", "_law_row", "_law_paid", "_law_at_so", "_law_sign"]
abbrev s_w_ring_sums : Stmt := topS 19
theorem sc_w_ring_sums : FnScope ["_law_web_here", "_law_row", "_law_paid", "_law_at_so", "_law_sign"] ["_law_web_here", "_law_row"] (defScope s_w_ring_sums) := ⟨rfl, rfl, rfl, by decide +kernel, rfl, by decide +kernel, by decide +kernel⟩
/-- a comprehension over pairs, some of them kept; the heap ahead of it stays -/
theorem lc_pairF {K : PySem.W.Frag} {tl te : TE} {tt : TT} {j1 j2 : Nat} {vs : List Nat} {σ : L2.St} {H H0 : Hp} {Q : VK} {a : Addr} {fb : Bool} {xs : List V} {α : Type} (zs : List α) (f g h : α → PyData) (t : α → Bool)
    (ht : ∀ R' : VK, R' (.ref a) H0 → tl σ H R') (hs : SqF fb K H0 a xs) (ha : DpAll K H0 xs (zs.map fun z => .tuple [f z, g z])) (hl : zs.length ≤ 4000000)
    (hw : ∀ x y, wipe (((wipe σ vs).set j1 (some x)).set j2 (some y)) vs = wipe σ vs)
    (hte : ∀ (x y : V) (z : α) (H1 : Hp), z ∈ zs → Same H0 H1 → Dp K H1 x (f z) → Dp K H1 y (g z) → ∀ Q' : Bool → Hp → Prop, Q' (t z) H1 → tt (((wipe σ vs).set j1 (some x)).set j2 (some y)) H1 Q')
    (he : ∀ (x y : V) (z : α) (H1 : Hp) (T : List Addr), z ∈ zs → t z = true → Same H0 H1 → Trk T H1 → Dp K H1 x (f z) → Dp K H1 y (g z) → ∀ Q' : VK, (∀ H2 u, Same H1 H2 → Dp K (cutS T H2) u (h z) → Q' u H2) → te (((wipe σ vs).set j1 (some x)).set j2 (some y)) H1 Q')
    (q : ∀ D ys H', Same H0 H' → H0 D = none → H' D = some (.lst ys) → DpAll K (cutS [D] H') ys ((zs.filter t).map h) → Q (.ref D) H') : tLcX (iSeq K tl) (gTup K 2 (gCons (gName j1) (gCons (gName j2) gNil))) tt te vs σ H Q := by
  have ll := dpa_len ha
  rw [List.length_map] at ll
  refine lc_of ?_
  refine iSeq_at ht hs fun J w D hD => ?_
  refine lc_it w (fun i H1 => ∃ ys, Same H0 H1 ∧ H1 D = some (.lst ys) ∧ DpAll K (cutS [D] H1) ys (((zs.take i).filter t).map h)) ⟨[], .upd hD, upd_same, .nil⟩ (fun i H1 _ p => ?_) (fun i x H1 H1' hi p y => ?_) (fun H1 p => ?_)
  · obtain ⟨ys, e1, _⟩ := p
    exact e1.sqF hs
  · obtain ⟨ys, e1, e2, e3⟩ := p
    obtain ⟨rfl, hx⟩ := y
    obtain ⟨d, hd, hxd⟩ := dpa_get ha hx
    rw [List.getElem?_map] at hd
    cases hz : zs[i]? with
    | none =>
      rw [hz] at hd
      cases hd
    | some z =>
      rw [hz] at hd
      cases hd
      have hzm := List.mem_of_getElem? hz
      have hxd1 := e1.dp hxd
      obtain ⟨tt0, xt, rfl, hts, hta⟩ := Dp.seq_of (f := true) hxd1
      cases hta with
      | cons k1 hta =>
        cases hta with
        | cons k2 hta =>
          cases hta
          refine ⟨tt0, _, rfl, hts, rfl, _, _, rfl, _, _, rfl, rfl, hw _ _, ?_⟩
          refine hte _ _ z H1' hzm e1 k1 k2 _ ?_
          have yl : ys.length ≤ i := by
            rw [dpa_len e3, List.length_map]
            exact Nat.le_trans (List.length_filter_le _ _) (by rw [List.length_take]; omega)
          have ht2 : zs.take (i + 1) = zs.take i ++ [z] := by rw [List.take_add_one, hz]; rfl
          by_cases hg : t z = true
          · rw [if_pos hg]
            refine he _ _ z H1' [D] hzm hg e1 (Trk.cons Trk.nil e2) k1 k2 _ fun H2 u s2 hy => ?_
            refine ⟨ys, s2 _ _ e2, szL (by omega), ys ++ [u], (e1.trans s2).mut hD, upd_same, ?_⟩
            rw [cutS_upd List.mem_cons_self, ht2, List.filter_append, List.filter_cons_of_pos hg, List.map_append]
            exact dpa_app ((cutS_mono s2).dpa e3) (dpa_one hy)
          · rw [if_neg hg]
            refine ⟨ys, e1, e2, ?_⟩
            rw [ht2, List.filter_append, List.filter_cons_of_neg hg, List.filter_nil, List.append_nil]
            exact e3
  · obtain ⟨ys, e1, e2, e3⟩ := p
    refine q D ys H1 e1 hD e2 ?_
    have e4 : zs.take xs.length = zs := List.take_of_length_le (by omega)
    rw [e4] at e3
    exact e3
def roomQ (qs : List QD) (m : Mk) : Int := match qs[m.1]? with
  | none => 0
  | some q => q.room
def gapQ (qs : List QD) (m : Mk) : Int := match qs[m.1]? with
  | none => 0
  | some q => q.gap
def paidQ (qs : List QD) (r : List Mk) : Int := ((r.filter fun m => m.2).map (roomQ qs)).sum
def quietQ (qs : List QD) (r : List Mk) : Int := ((r.filter fun m => !m.2).map fun m => gapQ qs m - 1).sum
theorem cost_pq {qs : List QD} : ∀ r : List Mk, (∀ m ∈ r, m.1 < qs.length) → costQ qs r = paidQ qs r - quietQ qs r
  | [], _ => rfl
  | m :: r, h => by
    have ih := cost_pq r fun x hx => h x (List.mem_cons_of_mem _ hx)
    have hm := h m List.mem_cons_self
    unfold costQ paidQ quietQ at ih ⊢
    rw [List.map_cons, List.sum_cons, ih]
    have e : prQ qs m = if m.2 = true then roomQ qs m else 1 - gapQ qs m := by
      unfold prQ roomQ gapQ
      rw [List.getElem?_eq_getElem hm]
    rw [e]
    cases hb : m.2 with
    | true =>
      rw [if_pos rfl, List.filter_cons_of_pos (by rw [hb]), List.filter_cons_of_neg (by rw [hb]; decide), List.map_cons, List.sum_cons]
      omega
    | false =>
      rw [if_neg (by decide), List.filter_cons_of_neg (by rw [hb]; decide), List.filter_cons_of_pos (by rw [hb]; rfl), List.map_cons, List.sum_cons]
      omega
section
variable {P : Program} {w : World} {K : PySem.W.Frag} {mg : Str → Option Value} {base : Heap}
/-- web[1][at][i] -/
theorem web_at {H : Hp} {a0 a1 a2 : Addr} {ws : List Str} {qs : List QD} {xq : List V} {m : Mk} (N : NetAt K H true a0 a1 a2 ws qs xq) (h : m.1 < qs.length) : ∃ q aq, qs[m.1]? = some q ∧ atI xq (m.1 : Int) = some (.ref aq) ∧ SqT K H aq [.str q.nm, .str q.st, .str q.en, .int q.room, .int q.gap] := by
  have hx : m.1 < xq.length := by rw [N.ll]; exact h
  obtain ⟨q, aq, g1, g2, g3⟩ := N.hq m.1 _ (List.getElem?_eq_getElem hx)
  exact ⟨q, aq, g1, by rw [← g2]; exact atI_nat (List.getElem?_eq_getElem hx), g3⟩
def spSums (K : PySem.W.Frag) : Sp := fun vs H Q _ => ∃ (v u : V) (ws : List Str) (qs : List QD) (r : List Mk) (S : List Addr), vs = [v, u] ∧ Trk S H ∧ Dp K H v (netD true ws qs) ∧ Dp K H u (rowL r) ∧ (∀ m ∈ r, m.1 < qs.length) ∧ r.length ≤ 1000 ∧
  ∀ H' z, Same H H' → Dp K (cutS S H') z (.tuple [.int (paidQ qs r), .int (quietQ qs r)]) → Q z H'
theorem ok_w_ring_sums {f : Addr} {fd : FuncData} {k : Nat} (F : Fun K "_law_ring_sums" "_law_ring_sums" s_w_ring_sums f fd) (m_sum : mg "sum" = none) : FnOk P w K mg base CX0 (k + 1) f fd ["_law_web_here", "_law_row"] (spSums K) := by
  refine F.ok sc_w_ring_sums (fun vs H Q E h => ?_) (fun cdv A outer s0 H vs Q E hr h => ?_)
  · obtain ⟨v, u, ws, qs, r, S, rfl, _⟩ := h
    rfl
  · obtain ⟨v, u, ws, qs, r, S, rfl, hT, hD, hU, hlt, hl, q⟩ := h
    refine ⟨_, (pss_cons (ps_set (i := 2) sc_w_ring_sums.nd rfl (Or.inl rfl) (pe_callB (cr_sum rfl) (by rfl) m_sum (by decide +kernel) (pa_cons (pe_lcX (pe_lc (own := [("_law_at_so", 3), ("_law_sign", 4)]) (g := gTup K 2 (gCons (gName 3) (gCons (gName 4) gNil))) (tt := tTest (tOp rEq (tVar 4) (tC (.int 1)))) (te := tOp (rIxF K) (tOp (rIxF K) (tOp (rIxF K) (tVar 0) (tC (.int 1))) (tVar 3)) (tC (.int 3))) (by rfl) sc_w_ring_sums.nd (pi_seq (pv 1)) (blkOk_by (own := [("_law_at_so", 3), ("_law_sign", 4)]) (N := sc_w_ring_sums_N) (sc := defScope s_w_ring_sums) (by decide +kernel)) (fun _ _ _ _ _ => pg_tup rfl (pgs_cons (pg_name (i := 3) sc_w_ring_sums.nd rfl (Or.inl rfl)) (pgs_cons (pg_name (i := 4) sc_w_ring_sums.nd rfl (Or.inl rfl)) pgs_nil))) (fun _ _ _ _ _ => (pts_one (pt_cmpR op_eq (pv 4) pe_int (nomark _)))) (fun _ _ _ _ _ => (pe_ix ix_lt (pe_ix ix_lt (pe_ix ix_lt (pv 0) pe_int (fun _ _ => rfl)) (pv 3) (fun _ _ => rfl)) pe_int (fun _ _ => rfl))))) pa_nil))) 
    (pss_one (ps_ret (pe_tup (pa_cons (pv 2) (pa_cons (pe_callB (cr_sum rfl) (by rfl) m_sum (by decide +kernel) (pa_cons (pe_lcX (pe_lc (own := [("_law_at_so", 3), ("_law_sign", 4)]) (g := gTup K 2 (gCons (gName 3) (gCons (gName 4) gNil))) (tt := tTest (tOp rEq (tVar 4) (tUn (rU fun i => .int (-i)) (tC (.int 1))))) (te := tOp (rI0 fun i j => .int (i - j)) (tOp (rIxF K) (tOp (rIxF K) (tOp (rIxF K) (tVar 0) (tC (.int 1))) (tVar 3)) (tC (.int 4))) (tC (.int 1))) (by rfl) sc_w_ring_sums.nd (pi_seq (pv 1)) (blkOk_by (own := [("_law_at_so", 3), ("_law_sign", 4)]) (N := sc_w_ring_sums_N) (sc := defScope s_w_ring_sums) (by decide +kernel)) (fun _ _ _ _ _ => pg_tup rfl (pgs_cons (pg_name (i := 3) sc_w_ring_sums.nd rfl (Or.inl rfl)) (pgs_cons (pg_name (i := 4) sc_w_ring_sums.nd rfl (Or.inl rfl)) pgs_nil))) (fun _ _ _ _ _ => (pts_one (pt_cmpR op_eq (pv 4) (pe_un un_neg pe_int) (nomark _)))) (fun _ _ _ _ _ => (pe_op op_sub (pe_ix ix_lt (pe_ix ix_lt (pe_ix ix_lt (pv 0) pe_int (fun _ _ => rfl)) (pv 3) (fun _ _ => rfl)) pe_int (fun _ _ => rfl)) pe_int)))) pa_nil)) pa_nil)))))), ?_⟩
    obtain ⟨a0, a1, a2, xq, rfl, N0⟩ := netAt hD
    have i1 : atI [V.ref a1, V.ref a2] 1 = some (.ref a2) := atI_nat (j := 1) rfl
    obtain ⟨rr, xr, rfl, hrr, hxr⟩ := Dp.seq_of (f := false) hU
    have decS : ∀ b c : Bool, decide (V.int (sgI b) = V.int (sgI c)) = (b == c) := fun b c => by cases b <;> cases c <;> rfl
    refine lc_pairF (fb := false) r (fun m => .int (m.1 : Int)) (fun m => .int (sgI m.2)) (fun m => .int (roomQ qs m)) (fun m => m.2) (fun R' q' => ⟨_, rfl, q'⟩) hrr hxr (by omega) (fun x y => rfl) (fun x y m H1 hm e1 hx hy Q' q' => ?_) (fun x y m H1 T hm hb e1 tr hx hy Q' q' => ?_) (fun D ys H1 s1 hD0 h1 h2 => ?_)
    · cases hx
      cases hy
      walk_at "ev"
      rw [show decide (V.int (sgI m.2) = V.int 1) = m.2 by rw [show V.int 1 = V.int (sgI true) from rfl, decS]; cases m.2 <;> rfl]
      exact q'
    · cases hx
      cases hy
      obtain ⟨qd, aq, g1, g2, g3⟩ := web_at (m := m) (N0.same e1) (hlt m hm)
      have er : roomQ qs m = qd.room := by unfold roomQ; rw [g1]
      rw [er] at q'
      exact ⟨_, rfl, rIxF_at (N0.same e1).h0 i1 ⟨_, rfl, rIxF_at (N0.same e1).h2 g2 (rIxF_at (f := true) g3 (atI_nat (j := 3) rfl) (q' H1 _ (fun _ _ e => e) (.int _)))⟩⟩
    · have h3 : DpAll K (cutS [D] H1) ys ((((r.filter fun m => m.2).map (roomQ qs))).map PyData.int) := by
        rw [List.map_map]
        exact h2
      have ey := dpa_ints_of h3
      subst ey
      refine ⟨D, _, rfl, sql_of h1, ?_⟩
      have N1 := N0.same s1
      try dsimp only [gName, tSeq, tAsg]
      walk_at "ev"
      refine lc_pairF (fb := false) r (fun m => .int (m.1 : Int)) (fun m => .int (sgI m.2)) (fun m => .int (gapQ qs m - 1)) (fun m => !m.2) (fun R' q' => ⟨_, rfl, q'⟩) (s1.sqF hrr) (s1.dpa hxr) (by omega) (fun x y => rfl) (fun x y m H2 hm e2 hx hy Q' q' => ?_) (fun x y m H2 T hm hb e2 tr hx hy Q' q' => ?_) (fun D2 ys H2 s2 hD2 h4 h5 => ?_)
      · cases hx
        cases hy
        walk_at "ev"
        rw [show decide (V.int (sgI m.2) = V.int (-1)) = !m.2 by rw [show V.int (-1) = V.int (sgI false) from rfl, decS]; cases m.2 <;> rfl]
        exact q'
      · cases hx
        cases hy
        obtain ⟨qd, aq, g1, g2, g3⟩ := web_at (m := m) (N1.same e2) (hlt m hm)
        have er : gapQ qs m = qd.gap := by unfold gapQ; rw [g1]
        rw [er] at q'
        exact ⟨_, rfl, rIxF_at (N1.same e2).h0 i1 ⟨_, rfl, rIxF_at (N1.same e2).h2 g2 (rIxF_at (f := true) g3 (atI_nat (j := 4) rfl) ⟨_, _, rfl, rfl, q' H2 _ (fun _ _ e => e) (.int _)⟩)⟩⟩
      · have h6 : DpAll K (cutS [D2] H2) ys ((((r.filter fun m => !m.2).map fun m => gapQ qs m - 1)).map PyData.int) := by
          rw [List.map_map]
          exact h5
        have ey := dpa_ints_of h6
        subst ey
        refine ⟨D2, _, rfl, sql_of h4, ?_⟩
        walk_at "ev"
        intro p hp
        exact q _ _ ((s1.trans s2).trans (.upd hp)) (dp_tup ((hT.mono s1).mono s2) hp (.cons (.int _) (.cons (.int _) .nil)))
theorem sql_cut {H : Hp} {a F : Addr} {xs : List V} (h : SqL K H a xs) (hF : H F = some (.lst [])) (hx : xs ≠ []) : SqL K (cutS [F] H) a xs := by
  rcases h with (h | ⟨o, h⟩) | h
  · refine .inl (.inl (cutS_at h (not1 fun z => ?_)))
    rw [z, hF] at h
    cases h
    exact hx rfl
  · refine .inl (.inr ⟨o, cutS_at h (not1 fun z => ?_)⟩)
    rw [z, hF] at h
    cases h
  · exact .inr h
theorem sqt_cut {H : Hp} {a F : Addr} {xs fv : List V} (h : SqT K H a xs) (hF : H F = some (.lst fv)) : SqT K (cutS [F] H) a xs := by
  rcases h with (h | ⟨o, h⟩) | h
  · refine .inl (.inl (cutS_at h (not1 fun z => ?_)))
    rw [z, hF] at h
    cases h
  · refine .inl (.inr ⟨o, cutS_at h (not1 fun z => ?_)⟩)
    rw [z, hF] at h
    cases h
  · exact .inr h
theorem sts_cut {qs : List QD} {H : Hp} {F : Addr} {fv : List V} (hF : H F = some (.lst fv)) : ∀ {r : List Mk} {xs : List V}, DpAll K H xs (r.map (stD qs)) → DpAll K (cutS [F] H) xs (r.map (stD qs))
  | [], _, .nil => .nil
  | m :: r, _, .cons h1 h2 => by
    refine .cons ?_ (sts_cut hF h2)
    obtain ⟨t, xt, rfl, ht, hx⟩ := Dp.seq_of (f := true) h1
    have ht : SqT K H t xt := ht
    cases hx with
    | cons k1 hx =>
      cases hx with
      | cons k2 hx =>
        cases hx
        cases k1
        cases k2
        exact .tup (sqt_cut ht hF) (.cons (.str _) (.cons (.str _) .nil))
theorem mks_cut {H : Hp} {F : Addr} (hF : H F = some (.lst [])) : ∀ {r : List Mk} {xs : List V}, DpAll K H xs (r.map mkL) → DpAll K (cutS [F] H) xs (r.map mkL)
  | [], _, .nil => .nil
  | m :: r, _, .cons h1 h2 => by
    refine .cons ?_ (mks_cut hF h2)
    obtain ⟨t, xt, rfl, ht, hx⟩ := Dp.seq_of (f := true) h1
    have ht : SqT K H t xt := ht
    cases hx with
    | cons k1 hx =>
      cases hx with
      | cons k2 hx =>
        cases hx
        cases k1
        cases k2
        exact .tup (sqt_cut ht hF) (.cons (.int _) (.cons (.int _) .nil))
theorem rows_cut {H : Hp} {F : Addr} (hF : H F = some (.lst [])) : ∀ {g : List (List Mk)} {xs : List V}, (∀ r ∈ g, r ≠ []) → DpAll K H xs (g.map rowL) → DpAll K (cutS [F] H) xs (g.map rowL)
  | [], _, _, .nil => .nil
  | r :: g, _, hn, .cons h1 h2 => by
    refine .cons ?_ (rows_cut hF (fun x hx => hn x (List.mem_cons_of_mem _ hx)) h2)
    obtain ⟨a, xa, rfl, ha, hx⟩ := Dp.seq_of (f := false) h1
    have ha : SqL K H a xa := ha
    have hne : xa ≠ [] := fun z => by
      have := dpa_len hx
      rw [z, List.length_map] at this
      exact hn r List.mem_cons_self (List.eq_nil_of_length_eq_zero this.symm)
    exact .lst (sql_cut ha hF hne) (mks_cut hF hx)
end
end Jl

set_option Elab.async false
set_option linter.all false
set_option maxRecDepth 100000
set_option maxHeartbeats 1000000
set_option pp.maxSteps 300
namespace Jl
open PySem PySem.Spec PyProof.Rows L2
open Evl (sz_of sz_lt)

/-! ### what the pile of rings comes to -/
inductive Ext (qs : List QD) : Gs → List Mk → Prop
  | close (a : Gs) (m : Mk) (hm : m ∈ touchN qs (lsG a) qs.length) (h1 : far qs m = hdG a) (h2 : a.row ≠ []) (h3 : m.1 ∉ a.row.map (·.1)) : Ext qs a (a.row ++ [m])
  | step (a : Gs) (m : Mk) (r : List Mk) (hm : m ∈ touchN qs (lsG a) qs.length) (h1 : far qs m ≠ hdG a) (h2 : gtS (far qs m) (hdG a) = true) (h3 : far qs m ∉ a.met) (h : Ext qs ⟨a.row ++ [m], a.met ++ [far qs m]⟩ r) : Ext qs a r
theorem one_mem {qs : List QD} {a : Gs} : ∀ {l : List Mk} {p : Ps},
    (∀ r, r ∈ (l.foldl (one qs a) p).1 ↔ r ∈ p.1 ∨ ∃ m ∈ l, far qs m = hdG a ∧ a.row ≠ [] ∧ m.1 ∉ a.row.map (·.1) ∧ r = a.row ++ [m]) ∧
    (∀ b, b ∈ (l.foldl (one qs a) p).2 ↔ b ∈ p.2 ∨ ∃ m ∈ l, far qs m ≠ hdG a ∧ gtS (far qs m) (hdG a) = true ∧ far qs m ∉ a.met ∧ b = ⟨a.row ++ [m], a.met ++ [far qs m]⟩)
  | [], p => ⟨fun r => ⟨.inl, fun h => h.elim id fun ⟨m, hm, _⟩ => absurd hm List.not_mem_nil⟩, fun b => ⟨.inl, fun h => h.elim id fun ⟨m, hm, _⟩ => absurd hm List.not_mem_nil⟩⟩
  | z :: l, p => by
    obtain ⟨g1, g2⟩ := one_mem (qs := qs) (a := a) (l := l) (p := one qs a p z)
    rw [List.foldl_cons]
    have h1 : ∀ r, r ∈ (one qs a p z).1 ↔ r ∈ p.1 ∨ (far qs z = hdG a ∧ a.row ≠ [] ∧ z.1 ∉ a.row.map (·.1) ∧ r = a.row ++ [z]) := fun r => by
      unfold one
      by_cases e : far qs z = hdG a
      · rw [if_pos e]
        by_cases c : a.row ≠ [] ∧ z.1 ∉ a.row.map (·.1)
        · rw [if_pos c, List.mem_append, List.mem_singleton]
          exact ⟨fun h => h.imp id fun h => ⟨e, c.1, c.2, h⟩, fun h => h.imp id fun h => h.2.2.2⟩
        · rw [if_neg c]
          exact ⟨.inl, fun h => h.elim id fun h => absurd ⟨h.2.1, h.2.2.1⟩ c⟩
      · rw [if_neg e]
        split
        · exact ⟨.inl, fun h => h.elim id fun h => absurd h.1 e⟩
        · exact ⟨.inl, fun h => h.elim id fun h => absurd h.1 e⟩
    have h2 : ∀ b, b ∈ (one qs a p z).2 ↔ b ∈ p.2 ∨ (far qs z ≠ hdG a ∧ gtS (far qs z) (hdG a) = true ∧ far qs z ∉ a.met ∧ b = ⟨a.row ++ [z], a.met ++ [far qs z]⟩) := fun b => by
      unfold one
      by_cases e : far qs z = hdG a
      · rw [if_pos e]
        split
        · exact ⟨.inl, fun h => h.elim id fun h => absurd e h.1⟩
        · exact ⟨.inl, fun h => h.elim id fun h => absurd e h.1⟩
      · rw [if_neg e]
        by_cases c : gtS (far qs z) (hdG a) = true ∧ far qs z ∉ a.met
        · rw [if_pos c, List.mem_append, List.mem_singleton]
          exact ⟨fun h => h.imp id fun h => ⟨e, c.1, c.2, h⟩, fun h => h.imp id fun h => h.2.2.2⟩
        · rw [if_neg c]
          exact ⟨.inl, fun h => h.elim id fun h => absurd ⟨h.2.1, h.2.2.1⟩ c⟩
    refine ⟨fun r => ?_, fun b => ?_⟩
    · rw [g1, h1]
      constructor
      · rintro ((h | h) | ⟨m, hm, h⟩)
        · exact .inl h
        · exact .inr ⟨z, List.mem_cons_self, h⟩
        · exact .inr ⟨m, List.mem_cons_of_mem _ hm, h⟩
      · rintro (h | ⟨m, hm, h⟩)
        · exact .inl (.inl h)
        · rcases List.mem_cons.mp hm with rfl | hm
          · exact .inl (.inr h)
          · exact .inr ⟨m, hm, h⟩
    · rw [g2, h2]
      constructor
      · rintro ((h | h) | ⟨m, hm, h⟩)
        · exact .inl h
        · exact .inr ⟨z, List.mem_cons_self, h⟩
        · exact .inr ⟨m, List.mem_cons_of_mem _ hm, h⟩
      · rintro (h | ⟨m, hm, h⟩)
        · exact .inl (.inl h)
        · rcases List.mem_cons.mp hm with rfl | hm
          · exact .inl (.inr h)
          · exact .inr ⟨m, hm, h⟩
theorem ext_iff {qs : List QD} {a : Gs} {r : List Mk} : Ext qs a r ↔ (∃ m ∈ touchN qs (lsG a) qs.length, far qs m = hdG a ∧ a.row ≠ [] ∧ m.1 ∉ a.row.map (·.1) ∧ r = a.row ++ [m]) ∨ ∃ m ∈ touchN qs (lsG a) qs.length, far qs m ≠ hdG a ∧ gtS (far qs m) (hdG a) = true ∧ far qs m ∉ a.met ∧ Ext qs ⟨a.row ++ [m], a.met ++ [far qs m]⟩ r := by
  constructor
  · intro h
    match h with
    | .close _ m hm h1 h2 h3 => exact .inl ⟨m, hm, h1, h2, h3, rfl⟩
    | .step _ m _ hm h1 h2 h3 h => exact .inr ⟨m, hm, h1, h2, h3, h⟩
  · rintro (⟨m, hm, h1, h2, h3, rfl⟩ | ⟨m, hm, h1, h2, h3, h⟩)
    · exact .close a m hm h1 h2 h3
    · exact .step a m r hm h1 h2 h3 h
theorem rn_mem {qs : List QD} {p : Ps} {g : List (List Mk)} (h : Rn qs p g) : ∀ r, r ∈ g ↔ r ∈ p.1 ∨ ∃ a ∈ p.2, Ext qs a r := by
  induction h with
  | done f => exact fun r => ⟨.inl, fun h => h.elim id fun ⟨a, ha, _⟩ => absurd ha List.not_mem_nil⟩
  | next f o a g _ ih =>
    intro r
    obtain ⟨s1, s2⟩ := one_mem (qs := qs) (a := a) (l := touchN qs (lsG a) qs.length) (p := (f, o))
    rw [ih]
    unfold stp
    rw [s1]
    constructor
    · rintro ((h | ⟨m, hm, h1, h2, h3, h4⟩) | ⟨b, hb, hx⟩)
      · exact .inl h
      · exact .inr ⟨a, List.mem_append_right _ (List.mem_singleton.mpr rfl), ext_iff.mpr (.inl ⟨m, hm, h1, h2, h3, h4⟩)⟩
      · rcases (s2 b).mp hb with hb | ⟨m, hm, h1, h2, h3, rfl⟩
        · exact .inr ⟨b, List.mem_append_left _ hb, hx⟩
        · exact .inr ⟨a, List.mem_append_right _ (List.mem_singleton.mpr rfl), ext_iff.mpr (.inr ⟨m, hm, h1, h2, h3, hx⟩)⟩
    · rintro (h | ⟨b, hb, hx⟩)
      · exact .inl (.inl h)
      · rcases List.mem_append.mp hb with hb | hb
        · exact .inr ⟨b, (s2 b).mpr (.inl hb), hx⟩
        · rw [List.mem_singleton] at hb
          subst hb
          rcases ext_iff.mp hx with h | ⟨m, hm, h1, h2, h3, hx⟩
          · exact .inl (.inr h)
          · exact .inr ⟨_, (s2 _).mpr (.inr ⟨m, hm, h1, h2, h3, rfl⟩), hx⟩
/-! ### rings as rows of workers -/
def fl (m : Mk) : Mk := (m.1, !m.2)
/-- along these workers -/
def path (qs : List QD) : List Str → List Mk → Prop
  | [_], [] => True
  | v :: u :: vs, m :: ms => link qs m v u ∧ path qs (u :: vs) ms
  | _, _ => False
theorem link_touch {qs : List QD} {m : Mk} {x y : Str} (hne : ∀ q ∈ qs, q.st ≠ q.en) (h : link qs m x y) : m ∈ touchN qs x qs.length ∧ far qs m = y := by
  obtain ⟨q, hq, h⟩ := h
  have hlt := (List.getElem?_eq_some_iff.mp hq).1
  have hn := hne q (List.mem_of_getElem? hq)
  obtain ⟨i, b⟩ := m
  refine ⟨List.mem_filterMap.mpr ⟨i, List.mem_range.mpr hlt, ?_⟩, ?_⟩
  · unfold tch
    rw [show qs[i]? = some q from hq]
    rcases h with ⟨h1, h2, _⟩ | ⟨h1, h2, _⟩
    · have h1 : b = true := h1
      subst h1
      exact if_pos h2
    · have h1 : b = false := h1
      subst h1
      show (if q.st = x then some (i, true) else if q.en = x then some (i, false) else none) = some (i, false)
      rw [if_neg (by rw [← h2]; exact hn), if_pos h2]
  · unfold far
    rw [show qs[(i, b).1]? = some q from hq]
    rcases h with ⟨h1, _, h2⟩ | ⟨h1, _, h2⟩
    · have h1 : b = true := h1
      subst h1
      exact h2
    · have h1 : b = false := h1
      subst h1
      exact h2
theorem link_fl {qs : List QD} {m : Mk} {x y : Str} (h : link qs m x y) : link qs (fl m) y x := by
  obtain ⟨q, hq, h⟩ := h
  refine ⟨q, hq, ?_⟩
  rcases h with ⟨h1, h2, h3⟩ | ⟨h1, h2, h3⟩
  · exact .inr ⟨by unfold fl; rw [h1]; rfl, h3, h2⟩
  · exact .inl ⟨by unfold fl; rw [h1]; rfl, h3, h2⟩
theorem link_same {qs : List QD} {m m' : Mk} {x y x' y' : Str} (e : m.1 = m'.1) (h : link qs m x y) (h' : link qs m' x' y') : (x = x' ∧ y = y') ∨ (x = y' ∧ y = x') := by
  obtain ⟨q, hq, h⟩ := h
  obtain ⟨q', hq', h'⟩ := h'
  rw [e, hq'] at hq
  cases hq
  rcases h with ⟨_, h2, h3⟩ | ⟨_, h2, h3⟩ <;> rcases h' with ⟨_, g2, g3⟩ | ⟨_, g2, g3⟩
  · exact .inl ⟨h2.symm.trans g2, h3.symm.trans g3⟩
  · exact .inr ⟨h2.symm.trans g3, h3.symm.trans g2⟩
  · exact .inr ⟨h2.symm.trans g3, h3.symm.trans g2⟩
  · exact .inl ⟨h2.symm.trans g2, h3.symm.trans g3⟩
theorem path_snoc {qs : List QD} {v u : Str} {m : Mk} (hm : link qs m v u) : ∀ {vs : List Str} {ms : List Mk}, path qs (vs ++ [v]) ms → path qs (vs ++ [v, u]) (ms ++ [m])
  | [], [], _ => ⟨hm, trivial⟩
  | [], _ :: _, h => absurd h id
  | [x], [], h => absurd h id
  | x :: y :: vs, [], h => absurd h id
  | [x], m0 :: ms, h => ⟨h.1, path_snoc hm (vs := []) h.2⟩
  | x :: y :: vs, m0 :: ms, h => ⟨h.1, path_snoc hm (vs := y :: vs) h.2⟩
theorem path_rev {qs : List QD} : ∀ {vs : List Str} {ms : List Mk}, path qs vs ms → path qs vs.reverse (ms.map fl).reverse
  | [v], [], _ => trivial
  | v :: u :: vs, m :: ms, h => by
    have h2 := path_rev h.2
    rw [List.reverse_cons] at h2
    have h3 := path_snoc (link_fl h.1) h2
    rw [List.map_cons, List.reverse_cons, List.reverse_cons, List.reverse_cons, List.append_assoc]
    exact h3
/-- a ring from w: the workers between, the steps -/
structure RingW (qs : List QD) (w : Str) (us : List Str) (r : List Mk) : Prop where
  pa : path qs (w :: us ++ [w]) r
  ne : us ≠ []
  nd : us.Nodup
  gt : ∀ u ∈ us, u ≠ w ∧ gtS u w = true
  la : ∀ (pre : List Mk) (m : Mk), r = pre ++ [m] → m.1 ∉ pre.map (·.1)
theorem ext_of {qs : List QD} (hne : ∀ q ∈ qs, q.st ≠ q.en) {w : Str} : ∀ (us : List Str) (ms : List Mk) (a : Gs), hdG a = w → path qs (lsG a :: us ++ [w]) ms → us.Nodup → (∀ u ∈ us, u ≠ w ∧ gtS u w = true ∧ u ∉ a.met) → (a.row = [] → us ≠ []) → (∀ (pre : List Mk) (m : Mk), a.row ++ ms = pre ++ [m] → m.1 ∉ pre.map (·.1)) → a.met ≠ [] → Ext qs a (a.row ++ ms)
  | [], [], a, _, h, _, _, _, _, _ => absurd h id
  | [], [m], a, hw, h, _, _, hr, hl, _ => by
    obtain ⟨h1, h2⟩ := link_touch hne h.1
    exact .close a m h1 (h2.trans hw.symm) (fun e => hr e rfl) (hl a.row m rfl)
  | [], m :: m' :: ms, a, _, h, _, _, _, _, _ => absurd h.2 id
  | u :: us, [], a, _, h, _, _, _, _, _ => absurd h id
  | u :: us, m :: ms, a, hw, h, hn, hg, hr, hl, hm => by
    obtain ⟨h1, h2⟩ := link_touch hne h.1
    obtain ⟨k1, k2, k3⟩ := hg u List.mem_cons_self
    rw [List.nodup_cons] at hn
    have hd2 : hdG ⟨a.row ++ [m], a.met ++ [u]⟩ = w := by
      rw [← hw]
      unfold hdG
      cases hmet : a.met with
      | nil => exact absurd hmet hm
      | cons x xs => rfl
    have ls2 : lsG ⟨a.row ++ [m], a.met ++ [u]⟩ = u := by
      unfold lsG
      simp
    have ih := ext_of hne us ms ⟨a.row ++ [m], a.met ++ [u]⟩ hd2 (by rw [ls2]; exact h.2) hn.2 (fun x hx => by
      obtain ⟨q1, q2, q3⟩ := hg x (List.mem_cons_of_mem _ hx)
      refine ⟨q1, q2, fun hz => ?_⟩
      rcases List.mem_append.mp hz with hz | hz
      · exact q3 hz
      · rw [List.mem_singleton] at hz
        rw [hz] at hx
        exact hn.1 hx) (fun e => absurd (congrArg List.length e) (by simp)) (fun pre m2 e => hl pre m2 (by rw [← e]; simp)) (by simp)
    have e : a.row ++ m :: ms = (a.row ++ [m]) ++ ms := by simp
    rw [e]
    refine .step a m _ h1 (by rw [h2, hw]; exact k1) (by rw [h2, hw]; exact k2) (by rw [h2]; exact k3) ?_
    rw [h2]
    exact ih
theorem ext_to {qs : List QD} {w : Str} {a : Gs} {r : List Mk} (h : Ext qs a r) : hdG a = w → a.met ≠ [] → ∃ us ms, r = a.row ++ ms ∧ path qs (lsG a :: us ++ [w]) ms ∧ us.Nodup ∧ (∀ u ∈ us, u ≠ w ∧ gtS u w = true ∧ u ∉ a.met) ∧ (a.row = [] → us ≠ []) ∧ (∀ (pre : List Mk) (m : Mk), r = pre ++ [m] → m.1 ∉ pre.map (·.1)) := by
  induction h with
  | close a m hm h1 h2 h3 =>
    intro hw _
    have hl := touch_link hm
    rw [h1, hw] at hl
    refine ⟨[], [m], rfl, ⟨hl, trivial⟩, List.nodup_nil, fun u hu => absurd hu List.not_mem_nil, fun e => absurd e h2, fun pre m2 e => ?_⟩
    obtain ⟨e1, e2⟩ := List.append_inj' e rfl
    cases e2
    rw [← e1]
    exact h3
  | step a m r hm h1 h2 h3 h ih =>
    intro hw hmet
    have hd2 : hdG ⟨a.row ++ [m], a.met ++ [far qs m]⟩ = w := by
      rw [← hw]
      unfold hdG
      cases hm2 : a.met with
      | nil => exact absurd hm2 hmet
      | cons x xs => rfl
    have ls2 : lsG ⟨a.row ++ [m], a.met ++ [far qs m]⟩ = far qs m := by
      unfold lsG
      simp
    obtain ⟨us, ms, e, hp, hn, hg, hr, hl⟩ := ih hd2 (by simp)
    rw [ls2] at hp
    refine ⟨far qs m :: us, m :: ms, by rw [e]; simp, ⟨touch_link hm, hp⟩, List.nodup_cons.mpr ⟨fun hz => ?_, hn⟩, fun u hu => ?_, fun _ => List.cons_ne_nil _ _, hl⟩
    · exact (hg _ hz).2.2 (List.mem_append_right _ (List.mem_singleton.mpr rfl))
    · rcases List.mem_cons.mp hu with rfl | hu
      · rw [hw] at h1 h2
        exact ⟨h1, h2, h3⟩
      · obtain ⟨q1, q2, q3⟩ := hg u hu
        exact ⟨q1, q2, fun z => q3 (List.mem_append_left _ z)⟩
/-- the rings that are listed -/
theorem ring_mem {ws : List Str} {qs : List QD} {g : List (List Mk)} (hne : ∀ q ∈ qs, q.st ≠ q.en) (h : Rn qs (startP ws) g) : ∀ r, r ∈ g ↔ ∃ w ∈ ws, ∃ us, RingW qs w us r := by
  intro r
  rw [rn_mem h]
  constructor
  · rintro (h | ⟨a, ha, hx⟩)
    · exact absurd h List.not_mem_nil
    · obtain ⟨w, hw, rfl⟩ := List.mem_map.mp ha
      obtain ⟨us, ms, e, hp, hn, hg, hr, hl⟩ := ext_to (w := w) hx rfl (List.cons_ne_nil _ _)
      have e : r = ms := e
      subst e
      exact ⟨w, hw, us, hp, hr rfl, hn, fun u hu => ⟨(hg u hu).1, (hg u hu).2.1⟩, hl⟩
  · rintro ⟨w, hw, us, hR⟩
    refine .inr ⟨⟨[], [w]⟩, List.mem_map.mpr ⟨w, hw, rfl⟩, ?_⟩
    exact ext_of hne us r ⟨[], [w]⟩ rfl hR.pa hR.nd (fun u hu => ⟨(hR.gt u hu).1, (hR.gt u hu).2, fun z => (hR.gt u hu).1 (List.mem_singleton.mp z)⟩) (fun _ => hR.ne) hR.la (List.cons_ne_nil _ _)
/-! ### rings the other way round -/
def revR (r : List Mk) : List Mk := (r.map fl).reverse
theorem fl_fl (m : Mk) : fl (fl m) = m := by
  obtain ⟨i, b⟩ := m
  cases b <;> rfl
theorem revR_revR (r : List Mk) : revR (revR r) = r := by
  unfold revR
  rw [List.map_reverse, List.reverse_reverse, List.map_map]
  have : fl ∘ fl = id := funext fl_fl
  rw [this, List.map_id]
/-- a later step of a ring over the queue of the first one -/
theorem path_in {qs : List QD} : ∀ {vs : List Str} {ms : List Mk} {m : Mk}, path qs vs ms → m ∈ ms → ∃ x y, link qs m x y ∧ x ∈ vs.dropLast ∧ y ∈ vs.tail
  | [_], [], _, _, h => absurd h List.not_mem_nil
  | v :: u :: vs, m0 :: ms, m, h, hm => by
    rcases List.mem_cons.mp hm with rfl | hm
    · exact ⟨v, u, h.1, by simp, by simp⟩
    · obtain ⟨x, y, h1, h2, h3⟩ := path_in h.2 hm
      refine ⟨x, y, h1, ?_, ?_⟩
      · rw [List.dropLast_cons₂]
        exact List.mem_cons_of_mem _ h2
      · exact List.mem_cons_of_mem _ h3
end Jl

set_option Elab.async false
set_option linter.all false
set_option maxRecDepth 100000
set_option maxHeartbeats 1000000
set_option pp.maxSteps 300
namespace Jl
open PySem PySem.Spec PyProof.Rows L2
open Evl (sz_of sz_lt)
local macro_rules | `(tactic| walk_at "at") => `(tactic| first | exact box0 | exact box1 | exact box2)
local macro_rules | `(tactic| walk_at "sq") => `(tactic| first | (show SqL _ _ _ _; assumption) | (show SqT _ _ _ _; assumption) | (show _ = some _; assumption))
local macro_rules | `(tactic| walk_at "side") => `(tactic| first
  | (show (0 : Int) < _; decide)
  | (show (0 : Int) < _; omega)
  | exact ⟨by decide, by decide, by decide⟩
  | exact sz_of (Nat.le_of_ble_eq_true rfl)
  | exact rfl
  | exact Or.inl (by decide)
  | exact Or.inr (by decide)
  | exact Or.inr ⟨by omega, by omega⟩
  | exact Or.inl ⟨by omega, by omega⟩
  | exact ⟨by decide, by decide +kernel⟩)
local macro_rules | `(tactic| walk_at "ev1") => `(tactic| first
  | refine ⟨_, rfl, ?_⟩
  | refine ⟨_, _, rfl, rfl, ?_⟩
  | refine ⟨_, _, _, _, rfl, rfl, (by walk_at "sq"), (by walk_at "at"), ?_⟩
  | refine ⟨_, _, rfl, (by walk_at "sq"), ?_⟩
  | refine ⟨_, _, rfl, Or.inl (by walk_at "sq"), ?_⟩
  | refine ⟨_, _, rfl, Or.inr (by walk_at "sq"), ?_⟩
  | refine Or.inl ⟨_, rfl, ?_⟩
  | refine Or.inr ⟨_, rfl, ?_⟩
  | refine ⟨(by walk_at "side"), ?_⟩
  | refine ⟨.inl ⟨rfl, _, (by walk_at "sq")⟩, ?_⟩
  | refine ⟨_, _, rfl, ?_⟩)
local macro_rules | `(tactic| walk_at "nrm") => `(tactic| dsimp only [tNil, tCons, tC, tCB])
local macro_rules | `(tactic| walk_at "ev") => `(tactic| repeat (walk_at "ev1"))

abbrev sc_w_twin_web_N : List Str := ["_law_box_here", "_law_high", "_law_size_so", "_law_tags", "_law_found", "_law_quiet", "_law_k", "_law_least", "_law_space", "_law_gap"]
abbrev s_w_twin_web : Stmt := topS 17
theorem sc_w_twin_web : FnScope ["_law_box_here", "_law_high", "_law_size_so", "_law_tags", "_law_found", "_law_quiet", "_law_k", "_law_least", "_law_space", "_law_gap"] ["_law_box_here", "_law_high"] (defScope s_w_twin_web) := ⟨rfl, rfl, rfl, by decide +kernel, rfl, by decide +kernel, by decide +kernel⟩
def bdQ (q : QD) : Prop := 0 ≤ q.gap ∧ q.gap ≤ 10 ^ 60 ∧ 0 ≤ q.room ∧ q.room ≤ 10 ^ 60
theorem seq_byC {t u : TS} {D : Ends} {σ : L2.St} {H : Hp} (M : L2.St → Hp → Prop) (h1 : ∀ σ H, M σ H → u D σ H) (h2 : ∀ D' : Ends, (∀ σ H, M σ H → D'.nx σ H) → t D' σ H) : tSeq t u D σ H := h2 { D with nx := u D } h1
structure NW (ws : List Str) (qs : List QD) : Prop where
  wn : ws.Nodup
  w1 : 1 ≤ ws.length
  wl : ws.length ≤ 60
  ql : qs.length ≤ 60
  qw : ∀ q ∈ qs, q.st ∈ ws ∧ q.en ∈ ws
  ok : ∀ x ∈ ws, PyData.strOk x = true
  bd : ∀ q ∈ qs, bdQ q
def tgT : List Str := [Str.ofString "s", Str.ofString "m", Str.ofString "n", Str.ofString "o", Str.ofString "t"]
def nmT : List Str := [Str.ofString "m", Str.ofString "q1", Str.ofString "s"]
/-- the bounds of drawn rows -/
def bdT (h : Int) (q : QD) : Prop := 1 ≤ q.gap ∧ q.gap ≤ q.room ∧ q.room ≤ h
theorem tw_in {z i : Nat} (h : i < z) (hz : z ≤ 3) : tgT.getD i default ∈ Str.ofString "t" :: tgT.take z := by
  refine List.mem_cons_of_mem _ ?_
  have : (tgT.take z)[i]? = some (tgT.getD i default) := by
    rw [List.getElem?_take_of_lt h, List.getD_eq_getElem?_getD, List.getElem?_eq_getElem (show i < tgT.length by show i < 5; omega)]
    rfl
  exact List.mem_of_getElem? this
theorem tw_nd : ∀ z : Nat, 1 ≤ z → z ≤ 3 → (Str.ofString "t" :: tgT.take z).Nodup ∧ (∀ x ∈ Str.ofString "t" :: tgT.take z, PyData.strOk x = true) ∧ (Str.ofString "t" :: tgT.take z).length ≤ 4 ∧ Str.ofString "s" ∈ tgT.take z
  | 1, _, _ => by decide +kernel
  | 2, _, _ => by decide +kernel
  | 3, _, _ => by decide +kernel
  | 0, h, _ => absurd h (by decide)
  | n + 4, _, h => absurd h (by omega)
theorem q_alike {q2 : List QD} : PySem.W.AllAlike (q2.map (QD.d true)) := fun d hd d' hd' => by
  obtain ⟨r, _, rfl⟩ := List.mem_map.mp hd
  obtain ⟨r', _, rfl⟩ := List.mem_map.mp hd'
  simp [QD.d, seqD, PySem.W.alike, PySem.W.alikeAll]
theorem q_sortable {q2 : List QD} : PySem.W.Sortable (q2.map (QD.d true)) := .inl fun d hd => by
  obtain ⟨r, hr, rfl⟩ := List.mem_map.mp hd
  exact ⟨_, _, rfl⟩
theorem q_depth {q : QD} : (QD.d true q).depth ≤ 1 := by
  simp [QD.d, seqD, PyData.depth, PyData.depthAll]
theorem qd_inj {q q' : QD} (h : QD.d true q = QD.d true q') : q = q' := by
  cases q
  cases q'
  simp [QD.d, seqD] at h
  obtain ⟨h1, h2, h3, h4, h5⟩ := h
  subst h1 h2 h3 h4 h5
  rfl
theorem perm_rows {l : List PyData} {q2 : List QD} (h : l.Perm (q2.map (QD.d true))) : ∃ q3 : List QD, l = q3.map (QD.d true) ∧ q3.length = q2.length ∧ ∀ q ∈ q3, q ∈ q2 := by
  have hl : ∀ d ∈ l, ∃ q ∈ q2, QD.d true q = d := fun d hd => List.mem_map.mp (h.mem_iff.mp hd)
  have len := h.length_eq
  rw [List.length_map] at len
  rw [← len]
  clear h len
  induction l with
  | nil => exact ⟨[], rfl, rfl, fun q hq => absurd hq List.not_mem_nil⟩
  | cons d l ih =>
    obtain ⟨q, hq, e⟩ := hl d List.mem_cons_self
    obtain ⟨q3, h1, h2, h3⟩ := ih fun d hd => hl d (List.mem_cons_of_mem _ hd)
    refine ⟨q :: q3, by rw [List.map_cons, e, ← h1], by rw [List.length_cons, List.length_cons, h2], fun x hx => ?_⟩
    rcases List.mem_cons.mp hx with rfl | hx
    · exact hq
    · exact h3 x hx
/-- the rows of the one way, as they come -/
def TwQ (z : Nat) (qs : List QD) : Prop := (∀ q ∈ qs, (q.st ∈ Str.ofString "t" :: tgT.take z ∧ q.en ∈ Str.ofString "t" :: tgT.take z) ∧ bdT (10 ^ 8) q) ∧ (∀ q ∈ qs, q.st ≠ q.en) ∧ qs.map QD.nm = nmT.take qs.length
theorem tg_ne : ∀ i, i < 3 → tgT.getD i default ≠ tgT.getD (i + 1) default ∧ tgT.getD i default ≠ Str.ofString "t" := by decide +kernel
theorem st_ne : Str.ofString "s" ≠ Str.ofString "t" := by decide +kernel
theorem nm_nd : ∀ z, 1 ≤ z → z ≤ 3 → (nmT.take z ++ [Str.ofString "r"]).Nodup := by
  intro z h1 h2
  have h : z = 1 ∨ z = 2 ∨ z = 3 := by omega
  rcases h with rfl | rfl | rfl <;> decide +kernel
theorem nmT_ok : ∀ x ∈ nmT, PyData.strOk x = true := by decide +kernel
theorem rs_ok : PyData.strOk (Str.ofString "r") = true := by decide +kernel
def nameD : PyData → Str
  | .tuple (.str x :: _) => x
  | _ => default
theorem name_d (q : QD) : nameD (QD.d true q) = q.nm := rfl
theorem TwQ.push {z i : Nat} {qs : List QD} {q : QD} (h : TwQ z qs) (hl : qs.length = i) (i3 : i < 3) (h1 : (q.st ∈ Str.ofString "t" :: tgT.take z ∧ q.en ∈ Str.ofString "t" :: tgT.take z) ∧ bdT (10 ^ 8) q) (h2 : q.st ≠ q.en) (h3 : q.nm = nmT.getD i default) : TwQ z (qs ++ [q]) := by
  refine ⟨fun x hx => ?_, fun x hx => ?_, ?_⟩
  · rcases List.mem_append.mp hx with hx | hx
    · exact h.1 x hx
    · rw [List.mem_singleton.mp hx]
      exact h1
  · rcases List.mem_append.mp hx with hx | hx
    · exact h.2.1 x hx
    · rw [List.mem_singleton.mp hx]
      exact h2
  · rw [List.map_append, List.length_append, h.2.2, hl]
    show nmT.take i ++ [q.nm] = nmT.take (i + 1)
    rw [h3, List.take_add_one, List.getElem?_eq_getElem (show i < nmT.length from i3), List.getD_eq_getElem?_getD, List.getElem?_eq_getElem (show i < nmT.length from i3)]
    rfl
section
variable {P : Program} {w : World} {K : PySem.W.Frag} {mg : Str → Option Value} {base : Heap}
def NWb (h : Int) (ws : List Str) (qs : List QD) : Prop := NW ws qs ∧ 1 ≤ qs.length ∧ (∀ q ∈ qs, bdT h q) ∧ sortedS ws = true ∧ NetG ws qs ∧ ws.length ≤ 4 ∧ qs.length ≤ 4 ∧ ∀ q ∈ qs, PyData.strOk q.nm = true
def spTwin (K : PySem.W.Frag) : Sp := fun vs H Q _ => ∃ (b : Addr) (h : Int) (bx : List V) (N : Nat), vs = [.ref b, .int h] ∧ H b = some (.lst bx) ∧ BoxL bx N ∧ N < 2 ^ 50 ∧ 1 ≤ h ∧ h ≤ 10 ^ 6 ∧
  ∀ (H' : Hp) (v : V) (ws : List Str) (qs : List QD) (bx' : List V), NWb (10 ^ 8) ws qs → Dp K (cutS [b] H') v (netD true ws qs) → TupW (cutS [b] H') v (ws.map V.str) → H' b = some (.lst bx') → BoxL bx' (N + 300) → Same (cutS [b] H) (cutS [b] H') → Q v H'
theorem ok_twin {f fT : Addr} {fd fdT : FuncData} {k : Nat} (F : Fun K "_law_twin_web" "_law_twin_web" s_w_twin_web f fd)
    (G_w_take : FnOk P w K mg base CX0 k fT fdT ["_law_box_here", "_law_below"] spTake2) (g_w_take : mg "_law_take" = some (.ref fT)) (F_w_take : Fun K "_law_take" "_law_take" s_w_take fT fdT) (b_w_take : Binds K fdT ["_law_box_here", "_law_below"] [])
    (m_range : mg "range" = none) (m_max : mg "max" = none) (m_sorted : mg "sorted" = none) (m_tuple : mg "tuple" = none) : FnOk P w K mg base CX0 (k + 1) f fd ["_law_box_here", "_law_high"] (spTwin K) := by
  refine F.ok sc_w_twin_web (fun vs H Q E h => ?_) (fun cdv A outer s0 H vs Q E hr h => ?_)
  · obtain ⟨b, h, bx, N, rfl, _⟩ := h
    rfl
  · obtain ⟨b, h, bx, N, rfl, hb, hB, hN, h1, h2, q⟩ := h
    refine ⟨_, (pss_cons (ps_par (i := 2) (j := 3) (by rfl) sc_w_twin_web.nd rfl rfl (by decide) rfl rfl (pa_cons (pe_op op_add pe_int (pe_call G_w_take hr (by rfl) g_w_take F_w_take.kp b_w_take .nil pass0 (pa_cons (pv 0) (pa_cons pe_int pa_nil)))) (pa_cons (pe_lst (pa_cons pe_str (pa_cons pe_str (pa_cons pe_str (pa_cons pe_str (pa_cons pe_str pa_nil)))))) pa_nil)) (by rfl)) 
    (pss_cons (ps_par (i := 4) (j := 5) (by rfl) sc_w_twin_web.nd rfl rfl (by decide) rfl rfl (pa_cons (pe_lst pa_nil) (pa_cons pe_int pa_nil)) (by rfl)) 
    (pss_cons (ps_forX (ps_for PassesOwn.never rfl (pi_range1 (by rfl) m_range (pa_cons (pv 2) pa_nil)) (pg_name (i := 6) sc_w_twin_web.nd rfl (Or.inl rfl)) 
      (pss_cons (ps_set (i := 8) sc_w_twin_web.nd rfl (Or.inl rfl) (pe_op op_add pe_int (pe_call G_w_take hr (by rfl) g_w_take F_w_take.kp b_w_take .nil pass0 (pa_cons (pv 0) (pa_cons (pv 1) pa_nil))))) 
      (pss_cons (ps_set (i := 9) sc_w_twin_web.nd rfl (Or.inl rfl) (pe_op op_add pe_int (pe_call G_w_take hr (by rfl) g_w_take F_w_take.kp b_w_take .nil pass0 (pa_cons (pv 0) (pa_cons (pv 8) pa_nil))))) 
      (pss_cons (ps_set (i := 5) sc_w_twin_web.nd rfl (Or.inl rfl) (pe_op op_sub (pe_op op_add (pv 5) (pv 9)) pe_int)) 
      (pss_one (ps_expr (pe_bm PySem.F.plainAttrs_list PySem.F.slot_list_append PySem.F.type_list_append mt_append (pv 4) (pa_cons (pe_tup (pa_cons (pe_ix ix_list (pe_lst (pa_cons pe_str (pa_cons pe_str (pa_cons pe_str pa_nil)))) (pv 6) (fun _ _ => rfl)) (pa_cons (pe_ix ix_list (pv 3) (pv 6) (fun _ _ => rfl)) (pa_cons (pe_ifExp (pt_cmpR op_lt (pe_op op_add (pv 6) pe_int) (pv 2) (nomark _)) (pe_ix ix_list (pv 3) (pe_op op_add (pv 6) pe_int) (fun _ _ => rfl)) pe_str) (pa_cons (pv 8) (pa_cons (pv 9) pa_nil)))))) pa_nil))))))))) 
    (pss_cons (ps_set (i := 7) sc_w_twin_web.nd rfl (Or.inl rfl) (pe_callB (call_max2 rfl) (by rfl) m_max (by decide +kernel) (pa_cons pe_int (pa_cons (pe_op op_sub (pe_op op_add (pv 5) (pe_call G_w_take hr (by rfl) g_w_take F_w_take.kp b_w_take .nil pass0 (pa_cons (pv 0) (pa_cons pe_int pa_nil)))) pe_int) pa_nil)))) 
    (pss_cons (ps_expr (pe_bm PySem.F.plainAttrs_list PySem.F.slot_list_append PySem.F.type_list_append mt_append (pv 4) (pa_cons (pe_tup (pa_cons pe_str (pa_cons pe_str (pa_cons pe_str (pa_cons (pv 7) (pa_cons (pe_op op_add pe_int (pe_call G_w_take hr (by rfl) g_w_take F_w_take.kp b_w_take .nil pass0 (pa_cons (pv 0) (pa_cons (pv 7) pa_nil)))) pa_nil)))))) pa_nil))) 
    (pss_one (ps_ret (pe_tup (pa_cons (pe_callTy call_tupF (by rfl) m_tuple (by decide +kernel) (pa_cons (pe_callB cr_sortedS (by rfl) m_sorted (by decide +kernel) (pa_cons (pe_op op_cat (pe_lst (pa_cons pe_str pa_nil)) (pe_slice sl_list (pv 3) po_none (po_some (pv 2)))) pa_nil)) pa_nil)) (pa_cons (pe_callTy call_tuple_of (by rfl) m_tuple (by decide +kernel) (pa_cons (pe_callB (cr_sortedD rfl hr.units) (by rfl) m_sorted (by decide +kernel) (pa_cons (pv 4) pa_nil)) pa_nil)) pa_nil)))))))))), ?_⟩
    walk_at "ev"
    refine ⟨b, 3, bx, N, rfl, hb, hB, by omega, by decide, small8000 ⟨by decide, by decide⟩, fun r bx1 r0 r1 hB1 => ?_⟩
    have hb1 : (upd H b (.lst bx1)) b = some (.lst bx1) := upd_same
    have S1 : Same (cutS [b] H) (cutS [b] (upd H b (.lst bx1))) := by
      rw [cutS_upd List.mem_cons_self]
      exact fun _ _ e => e
    generalize upd H b (.lst bx1) = H1 at hb1 S1 ⊢
    obtain ⟨z, hz⟩ : ∃ z : Nat, 1 + r = (z : Int) := ⟨(1 + r).toNat, by omega⟩
    have z1 : 1 ≤ z := by omega
    have z3 : z ≤ 3 := by omega
    walk_at "ev"
    intro p3 hp3
    have n3 : p3 ≠ b := fun z => by
      rw [z, hb1] at hp3
      cases hp3
    have hb3 : (upd H1 p3 (.lst (tgT.map V.str))) b = some (.lst bx1) := (Same.upd hp3) _ _ hb1
    have S3 := S1.trans (cutS_mono (.upd (o := .lst (tgT.map V.str)) hp3))
    have h3 : (upd H1 p3 (.lst (tgT.map V.str))) p3 = some (.lst (tgT.map V.str)) := upd_same
    show tNil _ (upd H1 p3 (.lst (tgT.map V.str))) _
    generalize upd H1 p3 (.lst (tgT.map V.str)) = H3 at hb3 S3 h3 ⊢
    clear hb1 S1 hp3
    dsimp only [tNil]
    rw [hz]
    walk_at "ev"
    intro p4 hp4
    have n4 : p4 ≠ b := fun z => by
      rw [z, hb3] at hp4
      cases hp4
    have w0 : WSt K b p4 p3 H (tgT.map V.str) [] [] (upd H3 p4 (.lst [])) bx1 (N + 1) :=
      ⟨(Same.upd hp4) _ _ hb3, hB1, upd_same, .nil, S3.trans (cutS_cons hp4), (cutS_cons (S := [b]) (o := .lst []) hp4) _ _ (cutS_at h3 (not1 n3))⟩
    show tCons _ _ _ (upd H3 p4 (.lst [])) _
    generalize upd H3 p4 (.lst []) = H4 at w0 ⊢
    clear hb3 S3 h3 hp4
    walk_at "ev"
    dsimp only [List.set]
    refine seq_byC (fun σ Hc => ∃ (x6 x8 x9 : Option V) (fs : List V) (qs : List QD) (bxc : List V) (u : Int), σ = [some (.ref b), some (.int h), some (.int (z : Int)), some (.ref p3), some (.ref p4), some (.int u), x6, none, x8, x9] ∧ WSt K b p4 p3 H (tgT.map V.str) fs (qs.map (QD.d true)) Hc bxc (N + 20) ∧ qs.length = z ∧ 0 ≤ u ∧ u ≤ 10 ^ 7 ∧ TwQ z qs) (fun σ Hc hh => ?_) (fun D' hD' => ?_)
    · obtain ⟨x6, x8, x9, fs, qs, bxc, u, rfl, w, hql, u0, u1, hqq⟩ := hh
      have hF2 : SqL K Hc p4 fs := sql_of w.hf
      walk_at "ev"
      refine ⟨b, 3, bxc, _, rfl, w.hb, w.hB, by omega, by decide, small8000 ⟨by decide, by decide⟩, fun r3 bx2 r30 r31 hB2 => ?_⟩
      have w1 := w.take n4 hB2
      generalize upd Hc b (.lst bx2) = Ha at w1 ⊢
      clear hF2 w hB2
      have hF3 : SqL K Ha p4 fs := sql_of w1.hf
      walk_at "ev"
      obtain ⟨L, hL, L1, L2⟩ : ∃ L : Int, (if u + r3 - 1 > 1 then u + r3 - 1 else 1) = L ∧ 1 ≤ L ∧ L ≤ 10 ^ 8 := ⟨_, rfl, by split <;> omega, by split <;> omega⟩
      rw [hL]
      clear hL u0 u1
      walk_at "ev"
      refine ⟨b, L, bx2, _, rfl, w1.hb, w1.hB, by omega, by omega, small8000 (by omega), fun r4 bx3 r40 r41 hB3 => ?_⟩
      have w2 := w1.take n4 hB3
      generalize upd Ha b (.lst bx3) = Hb at w2 ⊢
      clear hF3 w1 hB3
      walk_at "ev"
      intro pt hpt
      have w7 := w2.same (.upd (o := .tup [V.str (Str.ofString "r"), V.str (Str.ofString "s"), V.str (Str.ofString "t"), V.int L, V.int (1 + r4)]) hpt)
      have hpt2 : cutS [p4, b] (upd Hb pt (.tup [V.str (Str.ofString "r"), V.str (Str.ofString "s"), V.str (Str.ofString "t"), V.int L, V.int (1 + r4)])) pt = some (.tup [V.str (Str.ofString "r"), V.str (Str.ofString "s"), V.str (Str.ofString "t"), V.int L, V.int (1 + r4)]) :=
        cutS_new (Trk.cons (Trk.cons Trk.nil w2.hb) w2.hf) hpt
      have fl : fs.length = qs.length := by rw [dpa_len w7.hd, List.length_map]
      have w8 := w7.push n4 (v := .ref pt) (d := QD.d true ⟨Str.ofString "r", Str.ofString "s", Str.ofString "t", L, 1 + r4⟩) (.tup (sqt_of hpt2) (.cons (.str _) (.cons (.str _) (.cons (.str _) (.cons (.int _) (.cons (.int _) .nil))))))
      refine ⟨p4, fs, .ref pt, rfl, rfl, w7.hf, sz_lt (by omega), ?_⟩
      obtain ⟨tw1, tw2, tw3, tw4⟩ := tw_nd z z1 z3
      obtain ⟨q2, hq2, hq2l, hq2n, hq2e, hq2q⟩ : ∃ q2 : List QD, (qs.map (QD.d true)) ++ [QD.d true ⟨Str.ofString "r", Str.ofString "s", Str.ofString "t", L, 1 + r4⟩] = q2.map (QD.d true) ∧ q2.length = z + 1 ∧ (q2.map QD.nm).Nodup ∧ (∀ q ∈ q2, q.st ≠ q.en ∧ PyData.strOk q.nm = true) ∧ ∀ q ∈ q2, (q.st ∈ Str.ofString "t" :: tgT.take z ∧ q.en ∈ Str.ofString "t" :: tgT.take z) ∧ bdT (10 ^ 8) q := by
        refine ⟨qs ++ [⟨Str.ofString "r", Str.ofString "s", Str.ofString "t", L, 1 + r4⟩], by rw [List.map_append]; rfl, by rw [List.length_append, hql]; rfl, ?_, fun x hx => ?_, fun x hx => ?_⟩
        · rw [List.map_append, hqq.2.2, hql]
          exact nm_nd z z1 z3
        · rcases List.mem_append.mp hx with hx | hx
          · refine ⟨hqq.2.1 x hx, nmT_ok _ ?_⟩
            have h0 : x.nm ∈ qs.map QD.nm := List.mem_map.mpr ⟨x, hx, rfl⟩
            rw [hqq.2.2] at h0
            exact List.mem_of_mem_take h0
          · rw [List.mem_singleton.mp hx]
            exact ⟨st_ne, rs_ok⟩
        rcases List.mem_append.mp hx with hx | hx
        · exact hqq.1 x hx
        · rw [List.mem_singleton.mp hx]
          exact ⟨⟨List.mem_cons_of_mem _ tw4, List.mem_cons_self⟩, by show 1 ≤ 1 + r4; omega, by show 1 + r4 ≤ L; omega, L2⟩
      rw [hq2] at w8
      clear hpt2 w7 hqq hq2
      dsimp only [List.set]
      generalize fs ++ [V.ref pt] = fs2 at w8 ⊢
      generalize upd (upd Hb pt (.tup [V.str (Str.ofString "r"), V.str (Str.ofString "s"), V.str (Str.ofString "t"), V.int L, V.int (1 + r4)])) p4 (.lst fs2) = Hc at w8 ⊢
      clear hpt w2
      walk_at "ev"
      intro p5 hp5
      have w9 := w8.same (.upd (o := .lst [V.str (Str.ofString "t")]) hp5)
      have h5 : (upd Hc p5 (.lst [V.str (Str.ofString "t")])) p5 = some (.lst [V.str (Str.ofString "t")]) := upd_same
      have hT9 : SqL K (upd Hc p5 (.lst [V.str (Str.ofString "t")])) p3 (tgT.map V.str) := sql_of (cutS_le _ _ w9.h9)
      walk_at "ev"
      intro p6 hp6
      rw [cutV_map]
      have wA := w9.same (.upd (o := .lst ((tgT.take z).map V.str)) hp6)
      have h6 : (upd (upd Hc p5 (.lst [V.str (Str.ofString "t")])) p6 (.lst ((tgT.take z).map V.str))) p6 = some (.lst ((tgT.take z).map V.str)) := upd_same
      have h5 := (Same.upd (o := .lst ((tgT.take z).map V.str)) hp6) _ _ h5
      have tl : (tgT.take z).length ≤ 4 := by
        rw [List.length_cons] at tw3
        omega
      refine ⟨p5, p6, _, _, rfl, rfl, h5, h6, by rw [List.length_map]; exact Nat.le_of_lt (szL (by show 1 + _ < _; omega)), fun p7 hp7 => ?_⟩
      have wB := wA.same (.upd (o := .lst ([V.str (Str.ofString "t")] ++ (tgT.take z).map V.str)) hp7)
      have h7 : (upd (upd (upd Hc p5 (.lst [V.str (Str.ofString "t")])) p6 (.lst ((tgT.take z).map V.str))) p7 (.lst ([V.str (Str.ofString "t")] ++ (tgT.take z).map V.str))) p7 = some (.lst ([V.str (Str.ofString "t")] ++ (tgT.take z).map V.str)) := upd_same
      refine ⟨p7, Str.ofString "t" :: tgT.take z, rfl, sql_of h7, by omega, fun us p10 hu1 hu2 hp10 => ?_⟩
      generalize upd (upd (upd Hc p5 (.lst [V.str (Str.ofString "t")])) p6 (.lst ((tgT.take z).map V.str))) p7 (.lst ([V.str (Str.ofString "t")] ++ (tgT.take z).map V.str)) = H9 at wB hp10 ⊢
      clear h7 hp7 h6 h5 wA hp6 hp5 w9 hT9 w8
      have w10 := wB.same (.upd (o := .lst (us.map V.str)) hp10)
      refine ⟨p10, _, rfl, sql_of upd_same, fun p11 ob hp11 hoc hod => ?_⟩
      have w11 := w10.same (.upd (o := .frz ob (.tup (us.map V.str))) hp11)
      have n11 : p11 ≠ b := fun z => by
        rw [z, w10.hb] at hp11
        cases hp11
      have g11 : cutS [b] _ p11 = some (.frz ob (.tup (us.map V.str))) := cutS_at (upd_same (H := upd H9 p10 (.lst (us.map V.str))) (a := p11) (o := .frz ob (.tup (us.map V.str)))) (not1 n11)
      generalize upd (upd H9 p10 (.lst (us.map V.str))) p11 (.frz ob (.tup (us.map V.str))) = H11 at w11 g11 ⊢
      have fl2 := dpa_len w11.hd
      have hall := all_of_dpa w11.hd
      generalize hzp : fs2.zip (q2.map (QD.d true)) = zp at hall
      have zf : zp.map (·.1) = fs2 := by rw [← hzp]; exact zip_fst fl2
      have zs : zp.map (·.2) = q2.map (QD.d true) := by rw [← hzp]; exact zip_snd fl2
      refine ⟨_, rfl, p4, zp, rfl, by rw [zf]; exact sql_of w11.hf, fun x hx => cutS_le.dp (hall x hx), ?_, ?_, ?_, fun p12 hp12 => ?_⟩
      · rw [zs]
        exact q_alike
      · rw [zs]
        exact q_sortable
      · intro x hx
        have : x.2 ∈ q2.map (QD.d true) := by
          rw [← zs]
          exact List.mem_map.mpr ⟨x, hx, rfl⟩
        obtain ⟨q', _, e⟩ := List.mem_map.mp this
        rw [← e]
        exact Nat.le_trans q_depth (by decide)
      · generalize hso : zp.mergeSort (PySem.W.dataLe false (·.2)) = so
        have hperm : so.Perm zp := by
          rw [← hso]
          exact List.mergeSort_perm _ _
        obtain ⟨q3, hq3⟩ : ∃ q3 : List QD, so.map (·.2) = q3.map (QD.d true) ∧ q3.length = q2.length ∧ ∀ q ∈ q3, q ∈ q2 := by
          have hp2 := hperm.map (·.2)
          rw [zs] at hp2
          exact perm_rows hp2
        obtain ⟨hq3, hq3l, hq3m⟩ := hq3
        have hq3n : (q3.map QD.nm).Nodup := by
          have hp2 := (hperm.map (·.2)).map nameD
          rw [zs, hq3, List.map_map, List.map_map] at hp2
          exact hp2.nodup_iff.mpr hq2n
        have hd3 : DpAll K (cutS [p4, b] H11) (so.map (·.1)) (q3.map (QD.d true)) := by
          rw [← hq3]
          exact dpa_of_all fun x hx => hall x (hperm.mem_iff.mp hx)
        refine ⟨p12, _, rfl, .inl ⟨sql_of upd_same, fun p13 hp13 => ?_⟩⟩
        have w12 := w11.same (.upd (o := .lst (so.map (·.1))) hp12)
        have w13 := w12.same (.upd (o := .tup (so.map (·.1))) hp13)
        have n13 : p13 ≠ b := fun z => by
          rw [z, w12.hb] at hp13
          cases hp13
        have s13 : Same H11 (upd (upd H11 p12 (.lst (so.map (·.1)))) p13 (.tup (so.map (·.1)))) := (Same.upd hp12).trans (.upd hp13)
        have g13 : cutS [b] (upd (upd H11 p12 (.lst (so.map (·.1)))) p13 (.tup (so.map (·.1)))) p13 = some (.tup (so.map (·.1))) := cutS_at upd_same (not1 n13)
        have g11' := cutS_mono (S := [b]) s13 _ _ g11
        have hd4 := (cutS_mono s13).dpa hd3
        generalize upd (upd H11 p12 (.lst (so.map (·.1)))) p13 (.tup (so.map (·.1))) = H13 at w13 g13 g11' hd4 ⊢
        refine ⟨by show 2 ≤ sizeLine; decide, fun p14 hp14 => ?_⟩
        have w14 := w13.same (.upd (o := .tup [.ref p11, .ref p13]) hp14)
        have n14 : p14 ≠ b := fun z => by
          rw [z, w13.hb] at hp14
          cases hp14
        have e14 : Same (cutS [b] H13) (cutS [b] (upd H13 p14 (.tup [.ref p11, .ref p13]))) := cutS_mono (.upd hp14)
        have hmem : ∀ x, x ∈ us ↔ x ∈ Str.ofString "t" :: tgT.take z := fun x => hu1.mem_iff
        have hul := hu1.length_eq
        refine q _ (.ref p14) us q3 bx3 ⟨⟨hu1.nodup_iff.mpr tw1, by rw [hul, List.length_cons]; omega, by omega, by omega, fun x hx => ?_, fun x hx => tw2 x ((hmem x).mp hx), fun x hx => ?_⟩, by omega, fun x hx => (hq2q x (hq3m x hx)).2, hu2, ⟨fun x hx => ⟨(hmem _).mpr (hq2q x (hq3m x hx)).1.1, (hmem _).mpr (hq2q x (hq3m x hx)).1.2, (hq2e x (hq3m x hx)).1⟩, hq3n⟩, by omega, by omega, fun x hx => (hq2e x (hq3m x hx)).2⟩ ?_ ⟨p14, p11, p13, ob, rfl, cutS_at upd_same (not1 n14), e14 _ _ g11', hoc, hod⟩ w14.hb (w14.hB.mono (by omega)) (w14.hS.trans cutS_tail)
        · obtain ⟨q1, q2⟩ := (hq2q x (hq3m x hx)).1
          exact ⟨(hmem _).mpr q1, (hmem _).mpr q2⟩
        · obtain ⟨b1, b2, b3⟩ := (hq2q x (hq3m x hx)).2
          exact ⟨by omega, by omega, by omega, by omega⟩
        · exact .tup (sqt_of (cutS_at upd_same (not1 n14))) (.cons (.tup (.inl (.inr ⟨ob, e14 _ _ g11'⟩)) dpa_strs) (.cons (.tup (sqt_of (e14 _ _ g13)) (e14.dpa (cutS_tail.dpa hd4))) .nil))
    · refine for_of ?_
      walk_at "ev"
      refine ⟨by omega, by omega, ?_⟩
      rw [Int.toNat_natCast]
      refine forR_it (walk_range (lo := 0) (n := z)) (fun i σ Hc => ∃ (x6 x8 x9 : Option V) (fs : List V) (qs : List QD) (bxc : List V) (u : Int), σ = [some (.ref b), some (.int h), some (.int (z : Int)), some (.ref p3), some (.ref p4), some (.int u), x6, none, x8, x9] ∧ WSt K b p4 p3 H (tgT.map V.str) fs (qs.map (QD.d true)) Hc bxc (N + 1 + 2 * i) ∧ qs.length = i ∧ 0 ≤ u ∧ u ≤ i * 10 ^ 6 ∧ TwQ z qs) ⟨_, _, _, [], [], bx1, 0, rfl, w0, rfl, by decide, by decide, ⟨fun _ hx => absurd hx List.not_mem_nil, fun _ hx => absurd hx List.not_mem_nil, rfl⟩⟩ (fun _ _ _ _ _ => trivial) (fun i x σ Hc Hc' hi hh y => ?_) (fun σ Hc hh => ?_)
      · obtain ⟨x6, x8, x9, fs, qs, bxc, u, rfl, w, hql, u0, u1, hqq⟩ := hh
        obtain ⟨rfl, rfl⟩ := y
        have e0 : (0 + (i : Int)) = ((i : Nat) : Int) := Int.zero_add _
        dsimp only
        rw [e0]
        walk_at "ev"
        refine ⟨b, h, bxc, _, rfl, w.hb, w.hB, by omega, by omega, small8000 (by omega), fun r1 bx2 r10 r11 hB2 => ?_⟩
        have w1 := w.take n4 hB2
        generalize upd Hc' b (.lst bx2) = Ha at w1 ⊢
        walk_at "ev"
        refine ⟨b, 1 + r1, bx2, _, rfl, w1.hb, w1.hB, by omega, by omega, small8000 (by omega), fun r2 bx3 r20 r21 hB3 => ?_⟩
        have w2 := w1.take n4 hB3
        generalize upd Ha b (.lst bx3) = Hb at w2 ⊢
        have hF2 : SqL K Hb p4 fs := sql_of w2.hf
        walk_at "ev"
        intro p5 hp5
        have w3 := w2.same (.upd (o := .lst (nmT.map V.str)) hp5)
        have h5 : (upd Hb p5 (.lst (nmT.map V.str))) p5 = some (.lst (nmT.map V.str)) := upd_same
        have i3 : i < 3 := by omega
        have a1 : atI (nmT.map V.str) ((i : Nat) : Int) = some (.str (nmT.getD i default)) := atI_nat (by rw [List.getElem?_map, List.getD_eq_getElem?_getD, List.getElem?_eq_getElem (show i < nmT.length from i3)]; rfl)
        have a2 : ∀ j, j < 5 → atI (tgT.map V.str) ((j : Nat) : Int) = some (.str (tgT.getD j default)) := fun j hj => atI_nat (by rw [List.getElem?_map, List.getD_eq_getElem?_getD, List.getElem?_eq_getElem (show j < tgT.length from hj)]; rfl)
        refine ⟨_, rfl, p5, _, _, _, rfl, rfl, sql_of h5, a1, ?_⟩
        have hT3 : SqL K (upd Hb p5 (.lst (nmT.map V.str))) p3 (tgT.map V.str) := sql_of (cutS_le _ _ w3.h9)
        show tCons _ _ _ (upd Hb p5 (.lst (nmT.map V.str))) _
        generalize upd Hb p5 (.lst (nmT.map V.str)) = Hc at w3 hT3 ⊢
        clear h5 hp5 w2 w1 w hF2 hB2 hB3
        refine ⟨_, rfl, _, rfl, p3, _, _, _, rfl, rfl, hT3, a2 i (by omega), ?_⟩
        have fin : ∀ en : Str, en ∈ Str.ofString "t" :: tgT.take z → tgT.getD i default ≠ en → ∀ (pt : Addr), Hc pt = none → rAppend (.ref p4) [.ref pt] (upd Hc pt (.tup [.str (nmT.getD i default), .str (tgT.getD i default), .str en, .int (1 + r1), .int (1 + r2)])) fun _ H' => ∃ (x6 x8 x9 : Option V) (fs : List V) (qs : List QD) (bxc : List V) (u' : Int), [some (V.ref b), some (.int h), some (.int (z : Int)), some (.ref p3), some (.ref p4), some (.int (u + (1 + r2) - 1)), some (.int (i : Nat)), none, some (.int (1 + r1)), some (.int (1 + r2))] = [some (.ref b), some (.int h), some (.int (z : Int)), some (.ref p3), some (.ref p4), some (.int u'), x6, none, x8, x9] ∧ WSt K b p4 p3 H (tgT.map V.str) fs (qs.map (QD.d true)) H' bxc (N + 1 + 2 * (i + 1)) ∧ qs.length = i + 1 ∧ 0 ≤ u' ∧ u' ≤ ((i + 1 : Nat) : Int) * 10 ^ 6 ∧ TwQ z qs := fun en hen hne pt hpt => by
          have w7 := w3.same (.upd (o := .tup [V.str (nmT.getD i default), V.str (tgT.getD i default), V.str en, V.int (1 + r1), V.int (1 + r2)]) hpt)
          have hpt2 : cutS [p4, b] (upd Hc pt (.tup [V.str (nmT.getD i default), V.str (tgT.getD i default), V.str en, V.int (1 + r1), V.int (1 + r2)])) pt = some (.tup [V.str (nmT.getD i default), V.str (tgT.getD i default), V.str en, V.int (1 + r1), V.int (1 + r2)]) :=
            cutS_new (Trk.cons (Trk.cons Trk.nil w3.hb) w3.hf) hpt
          have fl : fs.length = qs.length := by rw [dpa_len w7.hd, List.length_map]
          have w8 := w7.push n4 (v := .ref pt) (d := QD.d true ⟨nmT.getD i default, tgT.getD i default, en, 1 + r1, 1 + r2⟩) (.tup (sqt_of hpt2) (.cons (.str _) (.cons (.str _) (.cons (.str _) (.cons (.int _) (.cons (.int _) .nil))))))
          refine ⟨p4, fs, .ref pt, rfl, rfl, w7.hf, sz_lt (by omega), ?_⟩
          refine ⟨_, _, _, fs ++ [.ref pt], qs ++ [⟨nmT.getD i default, tgT.getD i default, en, 1 + r1, 1 + r2⟩], bx3, _, rfl, ?_, ?_, by omega, by omega, ?_⟩
          · rw [List.map_append]
            exact w8.mono (by omega)
          · rw [List.length_append, hql]
            rfl
          · exact hqq.push hql i3 ⟨⟨tw_in hi z3, hen⟩, by show 1 ≤ 1 + r2; omega, by show 1 + r2 ≤ 1 + r1; omega, by show 1 + r1 ≤ 10 ^ 8; omega⟩ hne rfl
        walk_at "ev"
        by_cases hlt : i + 1 < z
        · rw [show decide ((i : Int) + 1 < (z : Int)) = true from decide_eq_true (by omega)]
          refine iteT ?_
          walk_at "ev"
          have a3 : atI (tgT.map V.str) ((i : Int) + 1) = some (.str (tgT.getD (i + 1) default)) := by
            have := a2 (i + 1) (by omega)
            rwa [show ((i + 1 : Nat) : Int) = (i : Int) + 1 by omega] at this
          refine ⟨p3, _, _, _, rfl, rfl, hT3, a3, ?_⟩
          walk_at "ev"
          intro pt hpt
          exact fin _ (tw_in hlt z3) (tg_ne i i3).1 pt hpt
        · rw [show decide ((i : Int) + 1 < (z : Int)) = false from decide_eq_false (by omega)]
          refine iteF ?_
          walk_at "ev"
          intro pt hpt
          exact fin _ List.mem_cons_self (tg_ne i i3).2 pt hpt
      · obtain ⟨x6, x8, x9, fs, qs, bxc, u, rfl, w, hql, u0, u1, hqq⟩ := hh
        exact hD' _ _ ⟨_, _, _, fs, qs, bxc, u, rfl, w.mono (by omega), hql, u0, by omega, hqq⟩
end
end Jl

set_option Elab.async false
set_option linter.all false
set_option maxRecDepth 100000
set_option maxHeartbeats 1000000
set_option pp.maxSteps 900
namespace Jl
open PySem PySem.Spec PyProof.Rows L2
open Evl (sz_of sz_lt)
/-! ### len(set(texts)) -/
def stepD (acc : List Str) (x : Str) : List Str := if x ∈ acc then acc else acc ++ [x]
def dedS (xs : List Str) : List Str := xs.foldl stepD []
theorem setOf_keep {prog : Program} {w : World} {h h' : Heap} {S : Addr} {f : Str → Bool} {n : Nat} (hs : Heap.SetOf (PySem.strKind prog w) h S f n) (k : ∀ o, h.get? S = some o → h'.get? S = some o) : Heap.SetOf (PySem.strKind prog w) h' S f n := by
  obtain ⟨o, es, ep, t, h1, h2⟩ := hs
  exact ⟨o, es, ep, t, k o h1, h2⟩
theorem dedS_snoc {xs : List Str} {x : Str} : dedS (xs ++ [x]) = stepD (dedS xs) x := by
  unfold dedS
  rw [List.foldl_append]
  rfl
theorem dedS_len (xs : List Str) : (dedS xs).length ≤ xs.length := by
  have h : ∀ (xs acc : List Str), (xs.foldl stepD acc).length ≤ acc.length + xs.length := by
    intro xs
    induction xs with
    | nil => intro acc; exact Nat.le_refl _
    | cons x xs ih =>
      intro acc
      rw [List.foldl_cons, List.length_cons]
      have h1 := ih (stepD acc x)
      have h2 : (stepD acc x).length ≤ acc.length + 1 := by
        unfold stepD
        split
        · omega
        · rw [List.length_append]
          exact Nat.le_refl _
      omega
  have := h xs []
  rw [List.length_nil] at this
  unfold dedS
  omega
theorem loopStrD {prog : Program} {w : World} {A : Around} {R : Result → Shared → Prop} {I : Addr} {fp wr : List Addr} {G : Array GenState → Array GenState → Prop} {n : Nat} {P : Nat → Value → Prop} {St : Nat → Shared → Prop}
    (hw : WalksS prog w A.in1 I fp wr G n P St) (S : Addr) (hS : S ∉ fp) (xs : List Str) (hl : xs.length = n) (hb : n + 1 < scanBound) (hP : ∀ i v, P i v → ∃ t, v = Value.str (xs.getD i Str.empty) t) :
    ∀ (k i : Nat) (s : Shared), n - i = k → i ≤ n → St i s → Heap.SetOf (PySem.strKind prog w) s.heap S (fun k' => decide (k' ∈ dedS (xs.take i))) (dedS (xs.take i)).length →
      (∀ s', Moved (S :: wr) G s s' → Heap.SetOf (PySem.strKind prog w) s'.heap S (fun k' => decide (k' ∈ dedS xs)) (dedS xs).length → R (.ok (.ret .none)) s') →
      codeAny (model prog w) A (Code.builtin "set.update.loop" { pos := [Value.ref S, Value.ref I] }) R s := by
  intro k
  induction k with
  | zero =>
    intro i s hk hi hst hset q
    have e : i = n := by omega
    subst e
    refine codeAny_builtin F.entry_set_update_loop ?_
    have q1 : ∀ {Q : Option Value → Shared → Prop} {E : Value → Shared → Prop}, (∀ s', Moved wr G s s' → Q none s') → wpAny (model prog w) (A.under (Code.builtin "set.update.loop" { pos := [Value.ref S, Value.ref I] })) (pyNext (Value.ref I)) Q E s := fun h => hw.done s _ _ hst h
    show wpAny _ _ (Builtin.«set.update.loop» { pos := [Value.ref S, Value.ref I] }) _ _ _
    wp_walk using q1
    intro s' hm
    dsimp only
    wp_walk
    have hS' : S ∉ wr := fun z => hS (hw.sub _ z)
    refine q s' (hm.mono fun b hb => List.mem_cons_of_mem _ hb) ?_
    rw [List.take_of_length_le (by omega)] at hset
    exact setOf_keep hset fun o ho => hm.heap S o hS' ho
  | succ k ih =>
    intro i s hk hi hst hset q
    have hin : i < n := by omega
    refine codeAny_builtin F.entry_set_update_loop ?_
    have q1 : ∀ {Q : Option Value → Shared → Prop} {E : Value → Shared → Prop}, (∀ v s', P i v → St (i + 1) s' → Moved wr G s s' → Q (some v) s') → wpAny (model prog w) (A.under (Code.builtin "set.update.loop" { pos := [Value.ref S, Value.ref I] })) (pyNext (Value.ref I)) Q E s := fun h => hw.item i s _ _ hin hst h
    show wpAny _ _ (Builtin.«set.update.loop» { pos := [Value.ref S, Value.ref I] }) _ _ _
    wp_walk using q1
    intro v s' hv hst' hm
    dsimp only
    obtain ⟨t, rfl⟩ := hP i v hv
    have hS' : S ∉ wr := fun z => hS (hw.sub _ z)
    have hset' := setOf_keep hset fun o ho => hm.heap S o hS' ho
    have q2 : ∀ {Q : Bool → Shared → Prop} {E : Value → Shared → Prop}, (∀ (h' : Heap) (tk : Nat), s'.toks ≤ tk → Heap.SameBut S s'.heap h' → Heap.SetOf (PySem.strKind prog w) h' S (fun k' => decide (k' ∈ dedS (xs.take (i + 1)))) (dedS (xs.take (i + 1))).length → Q (!decide (xs.getD i Str.empty ∈ dedS (xs.take i))) { s' with heap := h', toks := tk }) → wpAny (model prog w) (A.under (Code.builtin "set.update.loop" { pos := [Value.ref S, Value.ref I] })) (setAdd S (Value.str (xs.getD i Str.empty) t)) Q E s' := fun h => by
      unfold setAdd
      refine wpAny_holding ?_
      refine wpAny_bind ?_
      refine (PySem.strKind prog w).pyHash (k := xs.getD i Str.empty) (strKind_is prog w _ _) ?_
      refine wpAny_setAddHashed_of (knd := PySem.strKind prog w) (strKind_is prog w _ _) rfl hset' ?_ fun h' hsb hs2 => ?_
      · have := dedS_len (xs.take i)
        rw [List.length_take] at this
        omega
      · refine h h' _ (Nat.le_succ _) hsb ?_
        have et : xs.take (i + 1) = xs.take i ++ [xs.getD i Str.empty] := by
          rw [List.take_add_one, List.getElem?_eq_getElem (by omega), List.getD_eq_getElem?_getD, List.getElem?_eq_getElem (by omega)]
          rfl
        rw [et, dedS_snoc]
        generalize dedS (xs.take i) = l at hs2 ⊢
        generalize xs.getD i Str.empty = x at hs2 ⊢
        have e1 : (fun k' => decide (k' ∈ stepD l x)) = fun k' => decide (k' ∈ l) || decide (k' = x) := by
          funext k'
          unfold stepD
          rw [Bool.eq_iff_iff]
          split
          · rename_i hx
            simp only [decide_eq_true_eq, Bool.or_eq_true]
            exact ⟨.inl, fun z => z.elim id fun e => by rw [e]; exact hx⟩
          · simp only [decide_eq_true_eq, Bool.or_eq_true, List.mem_append, List.mem_singleton]
        have e2 : (stepD l x).length = if decide (x ∈ l) = true then l.length else l.length + 1 := by
          unfold stepD
          by_cases hx : x ∈ l
          · rw [if_pos hx, if_pos (decide_eq_true hx)]
          · rw [if_neg hx, if_neg (by simp [hx]), List.length_append]
            rfl
        rw [e1, e2]
        exact hs2
    wp_walk using q2
    intro h' tk hle hsb hs2
    refine wpAny_pure ⟨plainId_quiet PyProof.Rows.F.plain_set_update_loop _, ih (i + 1) _ (by omega) (by omega) (hw.frame (i + 1) s' h' tk hst' hle fun b hb o ho => (hsb.2 b fun z => hS (by rw [← z]; exact hb)).trans ho) hs2 fun s'' hm2 hs3 => q s'' ?_ hs3⟩
    have m1 : Moved (S :: wr) G s { s' with heap := h', toks := tk } := (hm.mono (wr' := S :: wr) fun b hb => List.mem_cons_of_mem _ hb).then_heap hle fun b o hb ho => (hsb.2 b fun z => hb (by rw [z]; exact List.mem_cons_self)).trans ho
    exact m1.trans hw.gtrans hm2
set_option maxHeartbeats 4000000 in
theorem call_setD {prog : Program} {w : World} {A : Around} {E : Value → Shared → Prop} {s : Shared} {l : Addr} {items : Array Value} {xs : List Str} {Q : Value → Shared → Prop} (hh : A.handled = none) (hl : s.heap.IsList l items) (hx : xs.length = items.size) (hP : ∀ (i : Nat) (v : Value), items[i]? = some v → ∃ t, v = Value.str (xs.getD i Str.empty) t) (hb : items.size + 1 < scanBound)
    (q : ∀ (h' : Heap) (tk : Nat), Heap.SetOf (PySem.strKind prog w) h' s.heap.objs.size (fun k' => decide (k' ∈ dedS xs)) (dedS xs).length → (∀ (b : Nat) (o : Obj), b < s.heap.objs.size → s.heap.get? b = some o → h'.get? b = some o) → Q (Value.ref s.heap.objs.size) { s with heap := h', toks := tk }) :
    wpAny (model prog w) A (call (Value.type "set") [Value.ref l]) Q E s := by
  have ⟨_, _, m1⟩ := PySem.F.called_set.mro
  have m2 := PySem.F.called_set.made
  have m3 := PySem.F.called_set.sub
  have m4 := PySem.F.called_set.notType
  have m5 := PySem.F.called_set.canCreate
  have m6 := PySem.F.typeCall_set_1 (Value.ref l)
  refine wpAny_call <| codeAny_of_tree ?_
  show wpAny _ _ (callAny (Value.type "set") _) _ _ _
  refine wpAny_pure ⟨by exact Code.quiet_builtin _ (by decide +kernel), ?_⟩
  refine codeAny_builtin PySem.F.entry_type_call ?_
  rw [Around.under_plain (by exact weight_type_call_type "set" [Value.ref l] []) rfl]
  repeat any_goals first | assumption | wp_step
  refine codeAny_mono (code_set_new_1 (E := E) (Value.ref l) (Q₁ := fun y z => ∃ led : Bool, y = Value.ref s.heap.objs.size ∧ z = { s with heap := s.heap.push { cls := Value.type "set", data := Data.set #[] 0 (SetTable.fresh 0 0 led) } }) fun led => ⟨led, by rfl, by rfl⟩) fun r z hr => ?_
  match r, hr with
  | .error e, hr => exact hr
  | .ok (.ret y), hr =>
    obtain ⟨led, e1, e2⟩ := hr
    subst e1
    subst e2
    generalize ho : ({ cls := Value.type "set", data := Data.set #[] 0 (SetTable.fresh 0 0 led) } : Obj) = so
    have g0 : (s.heap.push so).get? s.heap.objs.size = some so := Heap.get?_push_size _ (by rw [← ho]; rfl)
    have hT : Shared.TypeIs { s with heap := s.heap.push so } (Value.ref s.heap.objs.size) "set" := ⟨so, g0, by rw [← ho]⟩
    have n1 := PySem.F.called_set.init.lookup
    have n2 := PySem.F.called_set.init.bind (Value.ref s.heap.objs.size)
    repeat any_goals first | assumption | wp_step
    refine codeAny_mono (codeAny_call_builtin (R := wants (fun y z => y = Value.none ∧ ∃ h' tk, z = { s with heap := h', toks := tk } ∧ Heap.SetOf (PySem.strKind prog w) h' s.heap.objs.size (fun k' => decide (k' ∈ dedS xs)) (dedS xs).length ∧ ∀ (b : Nat) (o : Obj), b < s.heap.objs.size → s.heap.get? b = some o → h'.get? b = some o) E) PySem.F.called_set.init.plain PySem.F.entry_set_init (check_set_init_1 hT ?_)) fun r z hr => ?_
    · have ⟨ol, o1, o2, nl, o3⟩ := hl
      match ol, o1, o2, o3 with
      | ⟨_, od, _, os⟩, o1, rfl, rfl =>
        have o4 := Heap.get?_push_of_some so o1
        have k1 := PySem.F.sub_list_set
        have k2 := PySem.F.sub_list_frozenset
        have k3 : (Value.type "list" == Value.type "dict") = false := by decide
        have hl1 : (s.heap.push so).IsList l items := ⟨_, o4, rfl, nl, rfl⟩
        subst ho
        unfold Builtin.«set.__init__» noKeywords Builtin.Frozenset.updateFrom
        generalize hit : pyIter = it
        wp_walk
        subst hit
        refine wpAny_pyIter_list hl1 ?_
        refine wpAny_bind <| wpAny_runValue ?_
        have lt1 : l < s.heap.objs.size := Heap.lt_size o1
        have sz1 : ∀ so, Array.size (Heap.objs (s.heap.push so)) = s.heap.objs.size + 1 := fun _ => Heap.size_push _ _
        have hne1 : ∀ so, l ≠ Array.size (Heap.objs (s.heap.push so)) := fun so => by rw [sz1]; exact Nat.ne_of_lt (Nat.lt_succ_of_lt lt1)
        have hin3 : A.in1.in1.in1.handled = none := by simp [hh]
        have hnf : ∀ so, s.heap.objs.size ∉ [Array.size (Heap.objs (s.heap.push so)), l] := by
          intro so z
          rw [sz1] at z
          rcases List.mem_cons.mp z with z | z
          · exact absurd z (Nat.ne_of_lt (Nat.lt_succ_self _))
          · rcases List.mem_cons.mp z with z | z
            · exact absurd z (Nat.ne_of_gt lt1)
            · cases z
        refine loopStrD (Walks.list hin3 _ l (hne1 _) items).toS s.heap.objs.size (hnf _) xs hx hb (fun i v z => hP i v z) (items.size - 0) 0 _ (by omega) (Nat.zero_le _) ⟨⟨_, Heap.get?_push_size _ rfl, rfl, rfl⟩, hl1.push _⟩ ?_ ?_
        · have g1 := Heap.get?_push_of_some { cls := Value.type "list_iterator", data := Data.fields #[Value.ref l, Value.int 0 0] } g0
          exact PyProof.Rows.SetOf_congr ((PyProof.Rows.setObjOf_fresh (knd := PySem.strKind prog w) led).setOf g1 (by unfold scanBound; omega)) (fun _ => rfl) rfl
        · rintro ⟨h', g', d', tk', os'⟩ hm hS
          have eg : g' = s.gens := hm.gens
          have ed : d' = s.drawn := hm.drawn
          have eo : os' = s.os := hm.os
          subst eg
          subst ed
          subst eo
          show wpAny _ _ _ _ _ _
          refine wpAny_pure ?_
          show wpAny _ _ (ret Value.none) _ _ _
          refine wpAny_pure ⟨rfl, h', tk', rfl, hS, fun b o lt e => ?_⟩
          refine hm.heap b o (fun z => ?_) (Heap.get?_push_of_some _ (Heap.get?_push_of_some _ e))
          rw [sz1] at z
          rcases List.mem_cons.mp z with z | z
          · exact absurd z (Nat.ne_of_lt lt)
          · rcases List.mem_cons.mp z with z | z
            · exact absurd z (Nat.ne_of_lt (Nat.lt_succ_of_lt lt))
            · cases z
    · match r, hr with
      | .error e, hr => exact hr
      | .ok (.ret y), hr =>
        obtain ⟨rfl, h', tk, rfl, hS, hk⟩ := hr
        repeat any_goals first | assumption | wp_step
        exact q h' tk hS hk

theorem strs_of_vals : ∀ {ys : List Str} {us : List Value}, Vals (ys.map V.str) us → ∀ (i : Nat) (v : Value), us[i]? = some v → ∃ t, v = Value.str (ys.getD i Str.empty) t
  | [], _, .nil, i, v, e => by simp at e
  | y :: ys, _, .cons r t, i, v, e => by
    obtain ⟨k, rfl⟩ := r
    match i with
    | 0 =>
      simp only [List.getElem?_cons_zero, Option.some.injEq] at e
      exact ⟨k, e.symm⟩
    | i + 1 =>
      simp only [List.getElem?_cons_succ] at e
      exact strs_of_vals t i v e
/-- how many different texts a list has -/
def tLenSetD (K : PySem.W.Frag) (ta : TE) : TE := fun σ H Q => ta σ H fun x H1 => ∃ (l : Addr) (ys : List Str), x = .ref l ∧ SqL K H1 l (ys.map V.str) ∧ ys.length ≤ 4000 ∧ Q (.int ((dedS ys).length : Nat)) H1
theorem pe_lenSetD {X : Cx} {a : Expr} {ta : TE} {p p2 q pos : Pos} (hg : Gl X "len") (hm : X.mg "len" = none) (hg2 : Gl X "set") (hm2 : X.mg "set" = none) (ha : PE X a ta) (hc : X.calm = true := by rfl)
    (na : starEach [a] X.env = (false, eval a X.env) :: starEach [] X.env := by rfl) : PE X (.Call (.Name "len" p) [.Call (.Name "set" p2) [a] [] q] [] pos) (tLenSetD X.K ta) := by
  constructor
  intro pins s σ H Q I hQ
  refine Call_ <| ld_blt I hg hm boot_len ?_
  refine callWith_builtin1 (args_cons ?_ rfl) rfl rfl
  refine Call_ <| ld_blt I hg2 hm2 boot_set ?_
  refine callWith_type1 (args_cons (thn (ha.run pins s σ H _ I hQ) ?_) na) na rfl
  rintro v s1 ⟨x, H1, I1, r1, l, ys, rfl, hq, hsz, q1⟩
  refine args_nil ?_
  cases r1
  have ⟨its, r, pl, _⟩ := I1.list hq
  have hlen : its.toArray.size = ys.length := by rw [List.size_toArray, ← r.length, List.length_map]
  refine call_setD (I1.ok.hd hc) pl.isList hlen.symm (fun i v e => strs_of_vals r i v (by simpa using e)) (by rw [hlen]; unfold scanBound; omega) ?_
  intro h' tk hS hk
  refine args_nil ?_
  have ⟨o, es, ep, t, ho, hex, hd, _, _, _, hf, hn⟩ := hS
  have I2 : L2.Inv X pins σ H1 { s1 with heap := h', toks := tk } := I1.kept fun b o e => hk b o (Heap.lt_size e) e
  have := dedS_len ys
  exact call_len_set ho hex hd hf (by rw [hn]; omega) ⟨.int (dedS ys).length, H1, I2.tok _, ⟨_, by rw [hn]⟩, q1⟩
end Jl

set_option Elab.async false
set_option linter.all false
set_option maxRecDepth 100000
set_option maxHeartbeats 1000000
set_option pp.maxSteps 300
namespace Jl
open PySem PySem.Spec PyProof.Rows L2
open Evl (sz_of sz_lt)
local macro_rules | `(tactic| walk_at "at") => `(tactic| first | exact box0 | exact box1 | exact box2)
local macro_rules | `(tactic| walk_at "sq") => `(tactic| first | (show SqL _ _ _ _; assumption) | (show SqT _ _ _ _; assumption) | (show _ = some _; assumption))
local macro_rules | `(tactic| walk_at "side") => `(tactic| first
  | (show (0 : Int) < _; decide)
  | (show (0 : Int) < _; omega)
  | exact ⟨by decide, by decide, by decide⟩
  | exact sz_of (Nat.le_of_ble_eq_true rfl)
  | exact rfl
  | exact Or.inl (by decide)
  | exact Or.inr (by decide)
  | exact Or.inr ⟨by omega, by omega⟩
  | exact Or.inl ⟨by omega, by omega⟩
  | exact ⟨by decide, by decide +kernel⟩)
local macro_rules | `(tactic| walk_at "ev1") => `(tactic| first
  | refine ⟨_, rfl, ?_⟩
  | refine ⟨_, _, rfl, rfl, ?_⟩
  | refine ⟨_, _, _, _, rfl, rfl, (by walk_at "sq"), (by walk_at "at"), ?_⟩
  | refine ⟨_, _, rfl, (by walk_at "sq"), ?_⟩
  | refine ⟨_, _, rfl, Or.inl (by walk_at "sq"), ?_⟩
  | refine ⟨_, _, rfl, Or.inr (by walk_at "sq"), ?_⟩
  | refine Or.inl ⟨_, rfl, ?_⟩
  | refine Or.inr ⟨_, rfl, ?_⟩
  | refine ⟨(by walk_at "side"), ?_⟩
  | refine ⟨.inl ⟨rfl, _, (by walk_at "sq")⟩, ?_⟩
  | refine ⟨_, _, rfl, ?_⟩)
local macro_rules | `(tactic| walk_at "nrm") => `(tactic| dsimp only [tNil, tCons, tC, tCB])
local macro_rules | `(tactic| walk_at "ev") => `(tactic| repeat (walk_at "ev1"))
/-! ### a statement that is never come to -/
def tNo : TS := fun _ _ _ => False
theorem ps_no {X : Cx} {st : Stmt} : PS X st tNo := ⟨fun _ _ _ _ _ _ h => h.elim⟩
/-! ### sum of a tuple -/
section
variable {prog : Program} {w : World} {A : Around} {E : Value → Shared → Prop} {s : Shared} {l : Addr} {xs : Array (Int × Tok)}
theorem sum_intTupG {Q : Value → Shared → Prop} (hh : A.handled = none) (hl : s.heap.IsTuple l (intItems xs))
    (h : ∀ h' tk t', (∀ b o, s.heap.get? b = some o → h'.get? b = some o) → Q (.int (preSum (numAt xs) xs.size) t') { s with heap := h', toks := tk }) :
    wpAny (model prog w) A (call (.builtin "sum") [.ref l]) Q E s := by
  refine call_sum_walkG (wpAny_pyIter_tuple hl ?_)
  have hlt : l < s.heap.objs.size := by
    obtain ⟨_, e, _⟩ := id hl
    exact Heap.lt_size e
  refine ⟨_, [s.heap.objs.size, l], [s.heap.objs.size], _, _, _, numAt xs, rfl, Walks.tuple (A := A.in1) hh s.heap.objs.size l (Nat.ne_of_lt hlt) (intItems xs),
    ⟨⟨_, Heap.get?_push_size _ rfl, rfl, rfl⟩, hl.at fun o e => Heap.get?_push_of_some _ e⟩, fun c hc => ?_, (fun _ _ => intItems_at), fun h' tk t' hk => ?_⟩
  · show c < (s.heap.push _).objs.size
    rw [Heap.size_push]
    rcases List.mem_cons.mp hc with rfl | hc
    · exact Nat.lt_succ_self _
    · rw [List.mem_singleton.mp hc]
      exact Nat.lt_succ_of_lt hlt
  · have hold : ∀ c o, s.heap.get? c = some o → h'.get? c = some o := fun c o e => by
      refine hk c o (fun hm => ?_) (Heap.get?_push_of_some _ e)
      have := Heap.lt_size e
      rw [List.mem_singleton.mp hm] at this
      exact Nat.lt_irrefl _ this
    have := h h' tk t' hold
    simpa [intItems] using this
theorem sum_rawT {its : List Value} {ns : List Int} {Q : Value → Shared → Prop} (hh : A.handled = none) (hl : s.heap.IsTuple l its.toArray) (hi : IntsAre its ns)
    (h : ∀ h' tk t', (∀ b o, s.heap.get? b = some o → h'.get? b = some o) → Q (.int ns.sum t') { s with heap := h', toks := tk }) : wpAny (model prog w) A (call (.builtin "sum") [.ref l]) Q E s := by
  obtain ⟨xs, e⟩ := hi.allInts.items
  have hn : numsOf (intItems xs).toList = ns := by rw [← e]; exact hi.numsOf
  rw [nums_intItems] at hn
  rw [e] at hl
  refine sum_intTupG hh hl fun h' tk t' hk => ?_
  have := h h' tk t' hk
  rw [preSum_eq, List.take_of_length_le (by simp), hn]; exact this
end
def rSumT (K : PySem.W.Frag) : List V → Hp → VK → Prop := fun vs H Q => ∃ (a : Addr) (ns : List Int), vs = [V.ref a] ∧ SqT K H a (ns.map V.int) ∧ Q (.int ns.sum) H
theorem cr_sumT {X : Cx} (hc : X.calm = true) : CallR X (.builtin "sum") (rSumT X.K) := by
  intro pins s σ H vs us Q I r h
  obtain ⟨a, ns, rfl, hs, q⟩ := h
  obtain ⟨its, rv, hl, _⟩ := I.tuple hs
  rw [Vals.ref1 r]
  exact sum_rawT (I.ok.hd hc) hl rv.ints fun h' tk t' hk => ⟨.int _, H, I.kept hk, ⟨_, rfl⟩, q⟩
end Jl

set_option Elab.async false
set_option linter.all false
set_option maxRecDepth 100000
set_option maxHeartbeats 1000000
set_option pp.maxSteps 300
namespace Jl
open PySem PySem.Spec PyProof.Rows L2
open Evl (sz_of sz_lt)
local macro_rules | `(tactic| walk_at "at") => `(tactic| first | exact box0 | exact box1 | exact box2)
local macro_rules | `(tactic| walk_at "sq") => `(tactic| first | (show SqL _ _ _ _; assumption) | (show SqT _ _ _ _; assumption) | (show _ = some _; assumption))
local macro_rules | `(tactic| walk_at "side") => `(tactic| first
  | (show (0 : Int) < _; decide)
  | (show (0 : Int) < _; omega)
  | exact ⟨by decide, by decide, by decide⟩
  | exact sz_of (Nat.le_of_ble_eq_true rfl)
  | exact rfl
  | exact Or.inl (by decide)
  | exact Or.inr (by decide)
  | exact Or.inr ⟨by omega, by omega⟩
  | exact Or.inl ⟨by omega, by omega⟩
  | exact ⟨by decide, by decide +kernel⟩)
local macro_rules | `(tactic| walk_at "ev1") => `(tactic| first
  | refine ⟨_, rfl, ?_⟩
  | refine ⟨_, _, rfl, rfl, ?_⟩
  | refine ⟨_, _, _, _, rfl, rfl, (by walk_at "sq"), (by walk_at "at"), ?_⟩
  | refine ⟨_, _, rfl, (by walk_at "sq"), ?_⟩
  | refine ⟨_, _, rfl, Or.inl (by walk_at "sq"), ?_⟩
  | refine ⟨_, _, rfl, Or.inr (by walk_at "sq"), ?_⟩
  | refine Or.inl ⟨_, rfl, ?_⟩
  | refine Or.inr ⟨_, rfl, ?_⟩
  | refine ⟨(by walk_at "side"), ?_⟩
  | refine ⟨.inl ⟨rfl, _, (by walk_at "sq")⟩, ?_⟩
  | refine ⟨_, _, rfl, ?_⟩)
local macro_rules | `(tactic| walk_at "nrm") => `(tactic| dsimp only [tNil, tCons, tC, tCB])
local macro_rules | `(tactic| walk_at "ev") => `(tactic| repeat (walk_at "ev1"))
/-! ### a display of a tuple, tuple of a text: tuples whose object is known -/
section
variable {X : Cx} {es : List Expr} {t : TA} {pos : Pos}
def tTupF (t : TA) : TE := fun σ H Q => t σ H fun xs H1 => xs.length ≤ sizeLine ∧ ∀ (p : Addr) (ob : Obj), H1 p = none → ob.cls = .type "tuple" → ob.dict = none → Q (.ref p) (upd H1 p (.frz ob (.tup xs)))
theorem pe_tupF {x1} (h : PA X es t) : PE X (.Tuple es x1 pos) (tTupF t) := by
  refine ⟨fun pins s σ H Q I hq => ?_⟩
  refine wpAny_Tuple_spliced (thn (h.run pos pins s σ H _ I hq) fun us s1 ⟨xs, H1, I1, r, z, q⟩ => ⟨by rw [← r.length]; exact z, ?_⟩)
  have hf : H1 s1.heap.objs.size = none := I1.hok.fresh (Nat.le_refl _)
  have hget : (s1.heap.push { cls := .type "tuple", data := .seq us.toArray }).get? s1.heap.objs.size = some { cls := .type "tuple", data := .seq us.toArray } := Heap.get?_push_size _ rfl
  exact ⟨.ref s1.heap.objs.size, _, I1.laid (o := .frz { cls := .type "tuple", data := .seq us.toArray } (.tup xs)) (t' := s1.toks) (fun b u e => Heap.get?_push_of_some _ e) (Nat.le_refl _) ⟨hget, z, us, r, ⟨_, hget, rfl, _, rfl⟩⟩, rfl, q _ _ hf rfl rfl⟩
def chS (x : Str) : List Str := x.cps.toList.map fun c => ⟨#[c]⟩
def rTupS : List V → Hp → VK → Prop := fun xs H Q => ∃ x : Str, xs = [.str x] ∧ x.cps.size ≤ sizeLine ∧ ∀ (l : Addr) (ob : Obj), H l = none → ob.cls = .type "tuple" → ob.dict = none → Q (.ref l) (upd H l (.frz ob (.tup ((chS x).map V.str))))
theorem cr_tupS (hc : X.calm = true) : CallR X (.type "tuple") rTupS := fun pins s σ H xs us Q I r h => by
  obtain ⟨x, rfl, hz, q⟩ := h
  obtain ⟨u, rfl, rx⟩ := vals1 r
  obtain ⟨t, rfl⟩ := rx
  refine call_tuple_str (I.ok.hd hc) x t (fun h' tk acc hk hi => ?_) hz
  obtain ⟨h1, h2⟩ := hi
  have hl : acc.toList.length = x.cps.size := by rw [Array.length_toList]; exact h1
  have hv : Vals ((chS x).map V.str) acc.toList := by
    have g := vals_from (f := fun i => V.str ((chS x).getD i default)) (us := acc.toList) 0 fun i v hv => by
      rw [Nat.zero_add]
      obtain ⟨c, u, hc, e⟩ := h2 i v (by simpa using hv)
      refine ⟨u, ?_⟩
      rw [e]
      congr 1
      unfold chS
      rw [List.getD_eq_getElem?_getD, List.getElem?_map, show x.cps.toList[i]? = some c by simpa using hc]
      rfl
    have e : (List.range acc.toList.length).map (fun i => V.str ((chS x).getD (0 + i) default)) = (chS x).map V.str := by
      refine List.ext_getElem (by unfold chS; simp [hl]) fun i h1 h2 => ?_
      have h3 : i < (chS x).length := by rw [List.length_map] at h2; exact h2
      rw [List.getElem_map, List.getElem_map, List.getElem_range, Nat.zero_add, List.getD_eq_getElem?_getD, List.getElem?_eq_getElem h3]
      rfl
    rw [← e]
    exact g
  have hget : (h'.push { cls := .type "tuple", data := .seq acc }).get? h'.objs.size = some { cls := .type "tuple", data := .seq acc } := Heap.get?_push_size _ rfl
  have ez : (chS x).length = x.cps.size := by unfold chS; simp
  have I1 : L2.Inv X pins σ H { s with heap := h', toks := tk } := I.kept (t' := tk) hk
  exact ⟨.ref h'.objs.size, _, I1.laid (o := .frz { cls := .type "tuple", data := .seq acc } (.tup ((chS x).map V.str))) (t' := tk) (fun b o e => Heap.get?_push_of_some _ e) (Nat.le_refl _) ⟨hget, by rw [List.length_map, ez]; exact hz, acc.toList, hv, ⟨_, hget, rfl, 0, by simp⟩⟩, rfl, q _ _ (I1.hok.fresh (Nat.le_refl _)) rfl rfl⟩
end
/-! ### two rows side by side -/
inductive A2 {α β : Type} (R : α → β → Prop) : List α → List β → Prop
  | nil : A2 R [] []
  | cons {x y xs ys} (h : R x y) (t : A2 R xs ys) : A2 R (x :: xs) (y :: ys)
section
variable {α β : Type} {R R' : α → β → Prop}
theorem a2_len : ∀ {xs : List α} {ys : List β}, A2 R xs ys → xs.length = ys.length
  | _, _, .nil => rfl
  | _, _, .cons _ h => by rw [List.length_cons, List.length_cons, a2_len h]
theorem a2_app : ∀ {xs xs' : List α} {ys ys' : List β}, A2 R xs ys → A2 R xs' ys' → A2 R (xs ++ xs') (ys ++ ys')
  | _, _, _, _, .nil, h => h
  | _, _, _, _, .cons a b, h => .cons a (a2_app b h)
theorem a2_imp (i : ∀ x y, R x y → R' x y) : ∀ {xs : List α} {ys : List β}, A2 R xs ys → A2 R' xs ys
  | _, _, .nil => .nil
  | _, _, .cons a b => .cons (i _ _ a) (a2_imp i b)
theorem a2_get : ∀ {xs : List α} {ys : List β} {i : Nat} {x : α} {y : β}, A2 R xs ys → xs[i]? = some x → ys[i]? = some y → R x y
  | _, _, _, _, _, .nil, h, _ => by simp at h
  | _, _, 0, _, _, .cons a _, h, g => by
    simp at h g
    rw [← h, ← g]
    exact a
  | _, _, i + 1, _, _, .cons _ b, h, g => a2_get (i := i) b (by simpa using h) (by simpa using g)
end
theorem a2_dpa {K : PySem.W.Frag} {H : Hp} {α : Type} {h : α → PyData} : ∀ {xs : List V} {zs : List α}, A2 (fun u z => Dp K H u (h z)) xs zs → DpAll K H xs (zs.map h)
  | _, _, .nil => .nil
  | _, _, .cons a b => .cons a (a2_dpa b)
theorem dpa_a2 {K : PySem.W.Frag} {H : Hp} {α : Type} {h : α → PyData} : ∀ {xs : List V} {zs : List α}, DpAll K H xs (zs.map h) → A2 (fun u z => Dp K H u (h z)) xs zs
  | _, [], .nil => .nil
  | _, z :: zs, .cons a b => .cons a (dpa_a2 b)
/-- the cut is a list that is being made -/
def LstT (T : List Addr) (H : Hp) : Prop := ∀ a ∈ T, ∃ acc : List V, H a = some (.lst acc)
theorem LstT.same {T : List Addr} {H H' : Hp} (h : LstT T H) (e : Same H H') : LstT T H' := fun a ha => by
  obtain ⟨acc, e2⟩ := h a ha
  exact ⟨acc, e _ _ e2⟩
theorem LstT.one {D : Addr} {acc : List V} {H : Hp} (h : H D = some (.lst acc)) : LstT [D] H := fun a ha => ⟨acc, by rw [List.mem_singleton.mp ha]; exact h⟩
theorem LstT.cons {D : Addr} {acc : List V} {T : List Addr} {H : Hp} (h : H D = some (.lst acc)) (g : LstT T H) : LstT (D :: T) H := fun a ha => by
  rcases List.mem_cons.mp ha with rfl | ha
  · exact ⟨acc, h⟩
  · exact g a ha
theorem LstT.not {T : List Addr} {H : Hp} {a : Addr} {o : HO} (g : LstT T H) (h : H a = some o) (hn : ∀ acc, o ≠ .lst acc) : a ∉ T := fun ha => by
  obtain ⟨acc, e⟩ := g a ha
  rw [h] at e
  exact hn acc (Option.some.inj e)
mutual
def tupD : PyData → Bool
  | .list _ => false
  | .dict _ => false
  | .tuple ds => tupA ds
  | _ => true
def tupA : List PyData → Bool
  | [] => true
  | d :: ds => tupD d && tupA ds
end
theorem sqt_cutL {K : PySem.W.Frag} {H : Hp} {a : Addr} {T : List Addr} {xs : List V} (h : SqT K H a xs) (hF : LstT T H) : SqT K (cutS T H) a xs := by
  rcases h with (h | ⟨o, h⟩) | h
  · exact .inl (.inl (cutS_at h (hF.not h fun _ => nofun)))
  · exact .inl (.inr ⟨o, cutS_at h (hF.not h fun _ => nofun)⟩)
  · exact .inr h
mutual
theorem dpT_cut {K : PySem.W.Frag} {H : Hp} {T : List Addr} (hF : LstT T H) : ∀ (d : PyData) (v : V), tupD d = true → Dp K H v d → Dp K (cutS T H) v d
  | .none, _, _, h => by cases h; exact .non
  | .bool b, _, _, h => by cases h; exact .bl b
  | .int i, _, _, h => by cases h; exact .int i
  | .str x, _, _, h => by cases h; exact .str x
  | .list ds, _, z, _ => by simp [tupD] at z
  | .dict ds, _, z, _ => by simp [tupD] at z
  | .tuple ds, _, z, h => by
    rw [tupD] at z
    cases h with
    | tup hs ha => exact .tup (sqt_cutL hs hF) (dpaT_cut hF ds _ z ha)
theorem dpaT_cut {K : PySem.W.Frag} {H : Hp} {T : List Addr} (hF : LstT T H) : ∀ (ds : List PyData) (vs : List V), tupA ds = true → DpAll K H vs ds → DpAll K (cutS T H) vs ds
  | [], _, _, h => by cases h; exact .nil
  | d :: ds, _, z, h => by
    rw [tupA, Bool.and_eq_true] at z
    cases h with
    | cons h1 h2 => exact .cons (dpT_cut hF d _ z.1 h1) (dpaT_cut hF ds _ z.2 h2)
end
theorem tupA_map {α : Type} {f : α → PyData} : ∀ {zs : List α}, (∀ z ∈ zs, tupD (f z) = true) → tupA (zs.map f) = true
  | [], _ => by simp [tupA]
  | z :: zs, h => by
    rw [List.map_cons, tupA, h z List.mem_cons_self, tupA_map fun y hy => h y (List.mem_cons_of_mem _ hy)]
    rfl
theorem tup_net {ws : List Str} {qs : List QD} : tupD (netD true ws qs) = true := by
  have e1 : tupA (ws.map PyData.str) = true := tupA_map fun z _ => by simp [tupD]
  have e2 : tupA (qs.map (QD.d true)) = true := tupA_map fun z _ => by simp [QD.d, seqD, tupD, tupA]
  show tupD (.tuple [.tuple (ws.map PyData.str), .tuple (qs.map (QD.d true))]) = true
  simp [tupD, tupA, e1, e2]
/-- a comprehension by any walk: what is made stands in R2 to what it is made of -/
theorem lcg {K : PySem.W.Frag} {J : It} {g : TG} {te : TE} {tt : TT} {vs : List Nat} {σ : L2.St} {H0 : Hp} {Q : VK} {n : Nat} {G : Hp → Prop} {Y : Nat → Hp → V → Hp → Prop} {α : Type} (zs : List α) (Rel : V → α → Prop) (R2 : Hp → V → α → Prop) (t : α → Bool) (B : α → L2.St → Prop)
    (w : Walk J n G Y) (hn : n = zs.length) (hG : ∀ H', Same H0 H' → G H') (hY : ∀ i H x H', Y i H x H' → H' = H ∧ ∀ z, zs[i]? = some z → Rel x z) (hl : zs.length ≤ 4000000) (hm : ∀ H H' u z, Same H H' → R2 H u z → R2 H' u z)
    (hg : ∀ (x : V) (z : α) (H1 : Hp) (R : L2.St → Hp → Prop), z ∈ zs → Same H0 H1 → Rel x z → (∀ σ2, B z σ2 → wipe σ2 vs = wipe σ vs → R σ2 H1) → g x (wipe σ vs) H1 R)
    (hte : ∀ (z : α) (H1 : Hp) (σ2 : L2.St), z ∈ zs → Same H0 H1 → B z σ2 → ∀ Q' : Bool → Hp → Prop, (∀ H2, Same H1 H2 → Q' (t z) H2) → tt σ2 H1 Q')
    (he : ∀ (z : α) (H2 : Hp) (σ2 : L2.St) (T : List Addr), z ∈ zs → t z = true → Same H0 H2 → Same H0 (cutS T H2) → Trk T H2 → B z σ2 → LstT T H2 → ∀ Q' : VK, (∀ H3 u, Same H2 H3 → R2 (cutS T H3) u z → Q' u H3) → te σ2 H2 Q')
    (q : ∀ D ys H', Same H0 H' → H0 D = none → H' D = some (.lst ys) → A2 (R2 (cutS [D] H')) ys (zs.filter t) → Q (.ref D) H') :
    ∀ D, H0 D = none → ∃ W : Nat → Nat → Hp → Prop, (∃ m, W 0 m (upd H0 D (.lst []))) ∧ ∀ i m H, W i m H →
      (J.stop i H ∧ Q (.ref D) H) ∨ (J.go i H ∧ ∃ Nx : Hp → Prop, (∀ H', Nx H' → ∃ m', m' < m ∧ W (i + 1) m' H') ∧ ∀ x H', J.yld i H x H' → g x (wipe σ vs) H' fun σ2 H2 => wipe σ2 vs = wipe σ vs ∧ tt σ2 H2 fun b H3 =>
        if b = true then te σ2 H3 fun y H4 => ∃ acc, H4 D = some (.lst acc) ∧ acc.length < sizeLine ∧ Nx (upd H4 D (.lst (acc ++ [y]))) else Nx H3) := fun D hD => by
  subst hn
  refine lc_it w (Qd := fun H => Q (.ref D) H) (fun i H1 => ∃ ys, Same H0 H1 ∧ H1 D = some (.lst ys) ∧ A2 (R2 (cutS [D] H1)) ys ((zs.take i).filter t)) ⟨[], .upd hD, upd_same, .nil⟩ (fun i H1 _ p => ?_) (fun i x H1 H1' hi p y => ?_) (fun H1 p => ?_)
  · obtain ⟨ys, e1, _⟩ := p
    exact hG _ e1
  · obtain ⟨ys, e1, e2, e3⟩ := p
    obtain ⟨rfl, hx⟩ := hY _ _ _ _ y
    have hz := List.getElem?_eq_getElem hi
    have hzm := List.getElem_mem hi
    have hxd := hx _ hz
    generalize zs[i] = z at hz hzm hxd
    refine hg x z H1' _ hzm e1 hxd fun σ2 hB hw => ⟨hw, ?_⟩
    refine hte z H1' σ2 hzm e1 hB _ fun H2 s12 => ?_
    have e2' := s12 _ _ e2
    have yl : ys.length ≤ i := by
      rw [a2_len e3]
      exact Nat.le_trans (List.length_filter_le _ _) (by rw [List.length_take]; omega)
    have ht2 : zs.take (i + 1) = zs.take i ++ [z] := by rw [List.take_add_one, hz]; rfl
    by_cases hg : t z = true
    · rw [if_pos hg]
      have eT : Same H0 (cutS [D] H2) := fun a o ha => by
        rw [cutS_out (not1 (ne_of_none ha hD))]
        exact (e1.trans s12) a o ha
      refine he z H2 σ2 [D] hzm hg (e1.trans s12) eT (Trk.cons Trk.nil e2') hB (.one e2') _ fun H3 u s2 hy => ?_
      refine ⟨ys, s2 _ _ e2', szL (by omega), ys ++ [u], ((e1.trans s12).trans s2).mut hD, upd_same, ?_⟩
      rw [cutS_upd List.mem_cons_self, ht2, List.filter_append, show [z].filter t = [z] by simp [hg]]
      exact a2_app (a2_imp (fun _ _ => hm _ _ _ _ (cutS_mono (s12.trans s2))) e3) (.cons hy .nil)
    · rw [if_neg hg]
      refine ⟨ys, e1.trans s12, e2', ?_⟩
      rw [ht2, List.filter_append, show [z].filter t = [] by simp [hg], List.append_nil]
      exact a2_imp (fun _ _ => hm _ _ _ _ (cutS_mono s12)) e3
  · obtain ⟨ys, e1, e2, e3⟩ := p
    refine q D ys H1 e1 hD e2 ?_
    rw [List.take_length] at e3
    exact e3
/-! ### places of texts -/
def ixS : List Str → Str → Nat
  | [], _ => 0
  | x :: xs, z => if x = z then 0 else ixS xs z + 1
theorem ixS_get : ∀ {ws : List Str} {z : Str}, z ∈ ws → ws[ixS ws z]? = some z ∧ ∀ m, m < ixS ws z → ws[m]? ≠ some z
  | x :: ws, z, h => by
    unfold ixS
    by_cases e : x = z
    · rw [if_pos e, e]
      exact ⟨rfl, fun m hm => absurd hm (by omega)⟩
    · rw [if_neg e]
      rcases List.mem_cons.mp h with h | h
      · exact absurd h.symm e
      · obtain ⟨g1, g2⟩ := ixS_get h
        refine ⟨by rw [List.getElem?_cons_succ]; exact g1, fun m hm => ?_⟩
        cases m with
        | zero =>
          rw [List.getElem?_cons_zero]
          exact fun q => e (Option.some.inj q)
        | succ m =>
          rw [List.getElem?_cons_succ]
          exact g2 m (by omega)
theorem ixS_map {f : Str → Int} {ws : List Str} {z : Str} (h : z ∈ ws) : atI (ws.map fun w => V.int (f w)) ((ixS ws z : Nat) : Int) = some (.int (f z)) := atI_nat (by rw [List.getElem?_map, (ixS_get h).1]; rfl)
/-! ### a net whose workers are a tuple whose object is known -/
structure WebO (K : PySem.W.Frag) (H : Hp) (v : V) (ws : List Str) (qs : List QD) : Prop where
  dp : Dp K H v (netD true ws qs)
  tw : ∃ (a0 a1 : Addr) (v2 : V) (ob : Obj), v = .ref a0 ∧ SqT K H a0 [.ref a1, v2] ∧ H a1 = some (.frz ob (.tup (ws.map V.str))) ∧ ob.cls = .type "tuple" ∧ ob.dict = none
theorem WebO.same {K : PySem.W.Frag} {H H' : Hp} {v : V} {ws : List Str} {qs : List QD} (w : WebO K H v ws qs) (e : Same H H') : WebO K H' v ws qs := ⟨e.dp w.dp, by
  obtain ⟨a0, a1, v2, ob, h1, h2, h3, h4, h5⟩ := w.tw
  exact ⟨a0, a1, v2, ob, h1, e.sqT h2, e _ _ h3, h4, h5⟩⟩
theorem WebO.of {K : PySem.W.Frag} {H : Hp} {v : V} {ws : List Str} {qs : List QD} (h : Dp K H v (netD true ws qs)) (t : TupW H v (ws.map V.str)) : WebO K H v ws qs := ⟨h, by
  obtain ⟨a0, a1, a2, ob, h1, h2, h3, h4, h5⟩ := t
  exact ⟨a0, a1, _, ob, h1, sqt_of h2, h3, h4, h5⟩⟩
theorem yat_map {α : Type} {g : α → V} {zs : List α} {i : Nat} {x : V} {z : α} (h : (zs.map g)[i]? = some x) (hz : zs[i]? = some z) : x = g z := by
  rw [List.getElem?_map, hz] at h
  exact (Option.some.inj h).symm
/-- [e for x in a row if t] -/
theorem lcs {K : PySem.W.Frag} {tl te : TE} {tt : TT} {j : Nat} {vs : List Nat} {σ : L2.St} {H H0 : Hp} {Q : VK} {a : Addr} {fb : Bool} {xs : List V} {α : Type} (zs : List α) (Rel : V → α → Prop) (R2 : Hp → V → α → Prop) (t : α → Bool)
    (ht : ∀ R' : VK, R' (.ref a) H0 → tl σ H R') (hs : SqF fb K H0 a xs) (hx : ∀ (i : Nat) (x : V) (z : α), xs[i]? = some x → zs[i]? = some z → Rel x z) (hn : xs.length = zs.length) (hl : zs.length ≤ 4000000) (hm : ∀ H H' u z, Same H H' → R2 H u z → R2 H' u z)
    (hw : ∀ x, wipe ((wipe σ vs).set j (some x)) vs = wipe σ vs)
    (hte : ∀ (x : V) (z : α) (H1 : Hp), z ∈ zs → Same H0 H1 → Rel x z → ∀ Q' : Bool → Hp → Prop, (∀ H2, Same H1 H2 → Q' (t z) H2) → tt ((wipe σ vs).set j (some x)) H1 Q')
    (he : ∀ (x : V) (z : α) (H2 : Hp) (T : List Addr), z ∈ zs → t z = true → Same H0 H2 → Same H0 (cutS T H2) → Trk T H2 → Rel x z → LstT T H2 → ∀ Q' : VK, (∀ H3 u, Same H2 H3 → R2 (cutS T H3) u z → Q' u H3) → te ((wipe σ vs).set j (some x)) H2 Q')
    (q : ∀ D ys H', Same H0 H' → H0 D = none → H' D = some (.lst ys) → A2 (R2 (cutS [D] H')) ys (zs.filter t) → Q (.ref D) H') : tLcX (iSeq K tl) (gName j) tt te vs σ H Q := by
  refine lc_of ?_
  refine iSeq_at ht hs fun J w => ?_
  exact lcg (K := K) (Q := Q) zs Rel R2 t (fun z σ2 => ∃ x, σ2 = (wipe σ vs).set j (some x) ∧ Rel x z) w hn (fun H' e => e.sqF hs) (fun i H x H' y => ⟨y.1, fun z hz => hx i x z y.2 hz⟩) hl hm (fun x z H1 R hz e1 hr r => r _ ⟨x, rfl, hr⟩ (hw x)) (fun z H1 σ2 hz e1 hB Q' q' => by
    obtain ⟨x, rfl, hr⟩ := hB
    exact hte x z H1 hz e1 hr Q' q') (fun z H2 σ2 T hz ht e1 e2 tr hB hT Q' q' => by
    obtain ⟨x, rfl, hr⟩ := hB
    exact he x z H2 T hz ht e1 e2 tr hr hT Q' q') q
theorem a2_bl {α : Type} {tf : α → Bool} : ∀ {ys : List V} {zs : List α}, A2 (fun u z => u = V.bl (tf z)) ys zs → ys = (zs.map tf).map V.bl
  | _, _, .nil => rfl
  | _, _, .cons a b => by rw [a, a2_bl b]; rfl
/-- all([e for x in a row]) -/
theorem all_lcs {K : PySem.W.Frag} {tl te : TE} {j : Nat} {vs : List Nat} {σ : L2.St} {H H0 : Hp} {Q : VK} {a : Addr} {fb : Bool} {xs : List V} {α : Type} (zs : List α) (Rel : V → α → Prop) (tf : α → Bool)
    (ht : ∀ R' : VK, R' (.ref a) H0 → tl σ H R') (hs : SqF fb K H0 a xs) (hx : ∀ (i : Nat) (x : V) (z : α), xs[i]? = some x → zs[i]? = some z → Rel x z) (hn : xs.length = zs.length) (hl : zs.length ≤ 4000000)
    (hw : ∀ x, wipe ((wipe σ vs).set j (some x)) vs = wipe σ vs)
    (he : ∀ (x : V) (z : α) (H2 : Hp), z ∈ zs → Same H0 H2 → Rel x z → ∀ Q' : VK, (∀ H3, Same H2 H3 → Q' (.bl (tf z)) H3) → te ((wipe σ vs).set j (some x)) H2 Q')
    (q : ∀ H', Same H0 H' → Q (.bl (zs.all tf)) H') : tCB (rAll K) (tCons (tLcX (iSeq K tl) (gName j) tYes te vs) tNil) σ H Q := by
  refine lcs (K := K) zs Rel (fun _ u z => u = V.bl (tf z)) (fun _ => true) ht hs hx hn hl (fun _ _ _ _ _ h => h) hw (fun x z H1 hz e1 hr Q' q' => q' H1 fun _ _ e => e) (fun x z H2 T hz _ e1 e2 tr hr _ Q' q' => he x z H2 hz e1 hr Q' fun H3 e3 => q' H3 _ e3 rfl) fun D ys H' s1 h0 h1 h2 => ?_
  rw [List.filter_eq_self.mpr fun _ _ => rfl] at h2
  have e := a2_bl h2
  subst e
  refine ⟨D, _, rfl, sql_of h1, ?_⟩
  have e : (zs.map tf).all id = zs.all tf := by rw [List.all_map]; rfl
  rw [e]
  exact q H' s1
theorem asg_of {te : TE} {i : Nat} {u : TS} {D : Ends} {σ : L2.St} {H : Hp} (h : te σ H fun v H1 => u D (σ.set i (some v)) H1) : tSeq (tAsg te (gName i)) u D σ H := h
/-- [e for x in range(..) if t] -/
theorem lcr {K : PySem.W.Frag} {wi : TI} {te : TE} {tt : TT} {j : Nat} {vs : List Nat} {σ : L2.St} {H H0 : Hp} {Q : VK} (lo : Int) (n : Nat) (R2 : Hp → V → Nat → Prop) (t : Nat → Bool)
    (hgo : ∀ R : It → Hp → Prop, R (Itr lo n) H0 → wi σ H R) (hl : n ≤ 4000000) (hm : ∀ H H' u z, Same H H' → R2 H u z → R2 H' u z)
    (hw : ∀ x, wipe ((wipe σ vs).set j (some x)) vs = wipe σ vs)
    (hte : ∀ (i : Nat) (H1 : Hp), i < n → Same H0 H1 → ∀ Q' : Bool → Hp → Prop, (∀ H2, Same H1 H2 → Q' (t i) H2) → tt ((wipe σ vs).set j (some (.int (lo + (i : Nat))))) H1 Q')
    (he : ∀ (i : Nat) (H2 : Hp) (T : List Addr), i < n → t i = true → Same H0 H2 → Same H0 (cutS T H2) → Trk T H2 → LstT T H2 → ∀ Q' : VK, (∀ H3 u, Same H2 H3 → R2 (cutS T H3) u i → Q' u H3) → te ((wipe σ vs).set j (some (.int (lo + (i : Nat))))) H2 Q')
    (q : ∀ D ys H', Same H0 H' → H0 D = none → H' D = some (.lst ys) → A2 (R2 (cutS [D] H')) ys ((List.range n).filter t) → Q (.ref D) H') : tLcX wi (gName j) tt te vs σ H Q := by
  refine lc_of (hgo _ ?_)
  exact lcg (K := K) (Q := Q) (List.range n) (fun x (i : Nat) => x = .int (lo + (i : Nat))) R2 t (fun i σ2 => σ2 = (wipe σ vs).set j (some (.int (lo + (i : Nat))))) walk_range (by rw [List.length_range]) (fun _ _ => trivial) (fun i H x H' y => ⟨y.1, fun z hz => by
      have hi := (List.getElem?_eq_some_iff.mp hz).1
      rw [List.length_range] at hi
      rw [List.getElem?_range hi] at hz
      cases hz
      exact y.2⟩) (by rw [List.length_range]; exact hl) hm (fun x z H1 R hz e1 hr r => by
      subst hr
      exact r _ rfl (hw _)) (fun z H1 σ2 hz e1 hB Q' q' => by
      subst hB
      exact hte z H1 (List.mem_range.mp hz) e1 Q' q') (fun z H2 σ2 T hz ht e1 e2 tr hB hT Q' q' => by
      subst hB
      exact he z H2 T (List.mem_range.mp hz) ht e1 e2 tr hT Q' q') q
/-- [e for x in a new tuple if t] -/
theorem lcsD {K : PySem.W.Frag} {tl te : TE} {tt : TT} {j : Nat} {vs : List Nat} {σ : L2.St} {H : Hp} {Q : VK} {xs : List V} {α : Type} (zs : List α) (Rel : V → α → Prop) (R2 : Hp → V → α → Prop) (t : α → Bool)
    (ht : ∀ R' : VK, (∀ a H0, Same H H0 → SqT K H0 a xs → R' (.ref a) H0) → tl σ H R') (hx : ∀ (i : Nat) (x : V) (z : α), xs[i]? = some x → zs[i]? = some z → Rel x z) (hn : xs.length = zs.length) (hl : zs.length ≤ 4000000) (hm : ∀ H H' u z, Same H H' → R2 H u z → R2 H' u z)
    (hw : ∀ x, wipe ((wipe σ vs).set j (some x)) vs = wipe σ vs)
    (hte : ∀ (x : V) (z : α) (H1 : Hp), z ∈ zs → Same H H1 → Rel x z → ∀ Q' : Bool → Hp → Prop, (∀ H2, Same H1 H2 → Q' (t z) H2) → tt ((wipe σ vs).set j (some x)) H1 Q')
    (he : ∀ (x : V) (z : α) (H2 : Hp) (T : List Addr), z ∈ zs → t z = true → Same H H2 → Same H (cutS T H2) → Trk T H2 → Rel x z → LstT T H2 → ∀ Q' : VK, (∀ H3 u, Same H2 H3 → R2 (cutS T H3) u z → Q' u H3) → te ((wipe σ vs).set j (some x)) H2 Q')
    (q : ∀ D ys H', Same H H' → H D = none → H' D = some (.lst ys) → A2 (R2 (cutS [D] H')) ys (zs.filter t) → Q (.ref D) H') : tLcX (iSeq K tl) (gName j) tt te vs σ H Q := by
  refine lc_of (.inr (ht _ fun a H0 s h => ⟨a, rfl, ⟨xs, h⟩, ?_⟩))
  exact lcg (K := K) (Q := Q) zs Rel R2 t (fun z σ2 => ∃ x, σ2 = (wipe σ vs).set j (some x) ∧ Rel x z) (walk_tup (K := K) (a := a) (xs := xs)) hn (fun H' e => e.sqT h) (fun i H x H' y => ⟨y.1, fun z hz => hx i x z y.2 hz⟩) hl hm (fun x z H1 R hz e1 hr r => r _ ⟨x, rfl, hr⟩ (hw x)) (fun z H1 σ2 hz e1 hB Q' q' => by
    obtain ⟨x, rfl, hr⟩ := hB
    exact hte x z H1 hz (s.trans e1) hr Q' q') (fun z H2 σ2 T hz ht e1 e2 tr hB hT Q' q' => by
    obtain ⟨x, rfl, hr⟩ := hB
    exact he x z H2 T hz ht (s.trans e1) (s.trans e2) tr hr hT Q' q') fun D ys H' s1 h0 h1 h2 => q D ys H' (s.trans s1) (s.free h0) h1 h2
/-- all([e for x in a new tuple]) -/
theorem all_lcsD {K : PySem.W.Frag} {tl te : TE} {j : Nat} {vs : List Nat} {σ : L2.St} {H : Hp} {Q : VK} {xs : List V} {α : Type} (zs : List α) (Rel : V → α → Prop) (tf : α → Bool)
    (ht : ∀ R' : VK, (∀ a H0, Same H H0 → SqT K H0 a xs → R' (.ref a) H0) → tl σ H R') (hx : ∀ (i : Nat) (x : V) (z : α), xs[i]? = some x → zs[i]? = some z → Rel x z) (hn : xs.length = zs.length) (hl : zs.length ≤ 4000000)
    (hw : ∀ x, wipe ((wipe σ vs).set j (some x)) vs = wipe σ vs)
    (he : ∀ (x : V) (z : α) (H2 : Hp), z ∈ zs → Same H H2 → Rel x z → ∀ Q' : VK, (∀ H3, Same H2 H3 → Q' (.bl (tf z)) H3) → te ((wipe σ vs).set j (some x)) H2 Q')
    (q : ∀ H', Same H H' → Q (.bl (zs.all tf)) H') : tCB (rAll K) (tCons (tLcX (iSeq K tl) (gName j) tYes te vs) tNil) σ H Q := by
  refine lcsD (K := K) zs Rel (fun _ u z => u = V.bl (tf z)) (fun _ => true) ht hx hn hl (fun _ _ _ _ _ h => h) hw (fun x z H1 hz e1 hr Q' q' => q' H1 fun _ _ e => e) (fun x z H2 T hz _ e1 e2 tr hr _ Q' q' => he x z H2 hz e1 hr Q' fun H3 e3 => q' H3 _ e3 rfl) fun D ys H' s1 h0 h1 h2 => ?_
  rw [List.filter_eq_self.mpr fun _ _ => rfl] at h2
  have e := a2_bl h2
  subst e
  refine ⟨D, _, rfl, sql_of h1, ?_⟩
  have e : (zs.map tf).all id = zs.all tf := by rw [List.all_map]; rfl
  rw [e]
  exact q H' s1
section
variable {K : PySem.W.Frag} {σ : L2.St}
theorem asg_ic {te : TE} {i : Nat} {u : TS} {D : Ends} {H : Hp} {d : PyData} (h : IsC K [] H te d σ) (q : ∀ H' v, Same H H' → Dp K H' v d → u D (σ.set i (some v)) H') : tSeq (tAsg te (gName i)) u D σ H := h H _ (fun _ _ e => e) Trk.nil fun H' v s1 h1 => q H' v s1 (by rwa [cutS_nil] at h1)
theorem call_ac {t : TA} {ds : List PyData} {sp : Sp} {E : XK} {H : Hp} {Q : VK} (h : AreC K [] H t ds σ) (q : ∀ H' vs, Same H H' → DpAll K H' vs ds → sp (vs ++ []) H' Q E) : tCall sp [] E t σ H Q := h H _ (fun _ _ e => e) Trk.nil fun H' vs s1 h1 => q H' vs s1 (by rwa [cutS_nil] at h1)
theorem same_ac {E : XK} {H : Hp} {t : TA} {d : PyData} {Q : VK} (h : AreC K [] H t [d, d] σ) (ok : okD 5 d) (q : ∀ H', Same H H' → Q (.bl true) H') : tCall (spSame K 5) [] E t σ H Q := call_ac h fun H' vs s1 hd => by
  cases hd with
  | cons h1 hd =>
    cases hd with
    | cons h2 hd =>
      cases hd
      exact ⟨_, _, d, rfl, h1, h2, ok, fun H2 s2 => q H2 (s1.trans s2)⟩
end
theorem webO_cut {K : PySem.W.Frag} {H : Hp} {T : List Addr} {v : V} {ws : List Str} {qs : List QD} (w : WebO K H v ws qs) (hT : LstT T H) : WebO K (cutS T H) v ws qs := by
  refine ⟨dpT_cut hT _ _ tup_net w.dp, ?_⟩
  obtain ⟨a0, a1, v2, ob, h1, h2, h3, h4, h5⟩ := w.tw
  refine ⟨a0, a1, v2, ob, h1, sqt_cutL h2 hT, ?_, h4, h5⟩
  exact cutS_at h3 (hT.not h3 fun _ => nofun)
end Jl

set_option Elab.async false
set_option linter.all false
set_option maxRecDepth 100000
set_option maxHeartbeats 1000000
set_option pp.maxSteps 300
namespace Jl
open PySem PySem.Spec PyProof.Rows L2
open Evl (sz_of sz_lt)
local macro_rules | `(tactic| walk_at "at") => `(tactic| first | exact box0 | exact box1 | exact box2)
local macro_rules | `(tactic| walk_at "sq") => `(tactic| first | (show SqL _ _ _ _; assumption) | (show SqT _ _ _ _; assumption) | (show _ = some _; assumption))
local macro_rules | `(tactic| walk_at "side") => `(tactic| first
  | (show (0 : Int) < _; decide)
  | (show (0 : Int) < _; omega)
  | exact ⟨by decide, by decide, by decide⟩
  | exact sz_of (Nat.le_of_ble_eq_true rfl)
  | exact rfl
  | exact Or.inl (by decide)
  | exact Or.inr (by decide)
  | exact Or.inr ⟨by omega, by omega⟩
  | exact Or.inl ⟨by omega, by omega⟩
  | exact ⟨by decide, by decide +kernel⟩)
local macro_rules | `(tactic| walk_at "ev1") => `(tactic| first
  | refine ⟨_, rfl, ?_⟩
  | refine ⟨_, _, rfl, rfl, ?_⟩
  | refine ⟨_, _, _, _, rfl, rfl, (by walk_at "sq"), (by walk_at "at"), ?_⟩
  | refine ⟨_, _, rfl, (by walk_at "sq"), ?_⟩
  | refine ⟨_, _, rfl, Or.inl (by walk_at "sq"), ?_⟩
  | refine ⟨_, _, rfl, Or.inr (by walk_at "sq"), ?_⟩
  | refine Or.inl ⟨_, rfl, ?_⟩
  | refine Or.inr ⟨_, rfl, ?_⟩
  | refine ⟨(by walk_at "side"), ?_⟩
  | refine ⟨.inl ⟨rfl, _, (by walk_at "sq")⟩, ?_⟩
  | refine ⟨_, _, rfl, ?_⟩)
local macro_rules | `(tactic| walk_at "nrm") => `(tactic| dsimp only [tNil, tCons, tC, tCB])
local macro_rules | `(tactic| walk_at "ev") => `(tactic| repeat (walk_at "ev1"))



/-- xs == [], xs != [] of a list of data -/
def OkE (d : PyData) : Prop := d.canLay0 = true ∧ d.depth ≤ 30
theorem okE_int {i : Int} : OkE (.int i) := ⟨by simp [PyData.canLay0], by simp [PyData.depth]⟩
theorem okE_q {q : QD} (h1 : PyData.strOk q.nm = true) (h2 : PyData.strOk q.st = true) (h3 : PyData.strOk q.en = true) : OkE (q.d true) := by
  refine ⟨can_seq (f := true) fun d hd => ?_, Nat.le_trans (dep_seq (f := true) (n := 0) fun d hd => ?_) (by decide)⟩
  · rcases mem5 hd with rfl | rfl | rfl | rfl | rfl
    · rw [PyData.canLay0]; exact h1
    · rw [PyData.canLay0]; exact h2
    · rw [PyData.canLay0]; exact h3
    · rw [PyData.canLay0]
    · rw [PyData.canLay0]
  · rcases mem5 hd with rfl | rfl | rfl | rfl | rfl <;> simp [PyData.depth]
theorem eq_nilD {K : PySem.W.Frag} {σ : L2.St} {H : Hp} {Q : VK} {i : Nat} {D : Addr} {ys : List V} {ds : List PyData} (hi : σ[i]? = some (some (.ref D))) (hD : SqL K H D ys) (hd : DpAll K H ys ds) (hs : ∀ d ∈ ds, OkE d) (q : ∀ H', Same H H' → Q (.bl ds.isEmpty) H') : tOp (rEqD K) (tVar i) (tLst tNil) σ H Q := by
  refine ⟨_, hi, ?_⟩
  refine ⟨by show 0 ≤ sizeLine; exact Nat.zero_le _, fun l hl => ?_⟩
  have s1 : Same H (upd H l (.lst [])) := .upd hl
  refine ⟨.list ds, .list [], .lst (s1.sqL hD) (s1.dpa hd), .lst (sql_of upd_same) .nil, shaped_of (can_seq (f := false) fun d hd => (hs d hd).1) (Nat.le_trans (dep_seq (f := false) (n := 30) fun d hd => (hs d hd).2) (by decide)), shaped_nil3, ?_⟩
  rw [eqv_nil3]
  exact q _ s1
theorem ne_nilD {K : PySem.W.Frag} {σ : L2.St} {H : Hp} {Q : VK} {i : Nat} {D : Addr} {ys : List V} {ds : List PyData} (hi : σ[i]? = some (some (.ref D))) (hD : SqL K H D ys) (hd : DpAll K H ys ds) (hs : ∀ d ∈ ds, OkE d) (q : ∀ H', Same H H' → Q (.bl (!ds.isEmpty)) H') : tOp (rNeD K) (tVar i) (tLst tNil) σ H Q := by
  refine ⟨_, hi, ?_⟩
  refine ⟨by show 0 ≤ sizeLine; exact Nat.zero_le _, fun l hl => ?_⟩
  have s1 : Same H (upd H l (.lst [])) := .upd hl
  refine ⟨.list ds, .list [], .lst (s1.sqL hD) (s1.dpa hd), .lst (sql_of upd_same) .nil, shaped_of (can_seq (f := false) fun d hd => (hs d hd).1) (Nat.le_trans (dep_seq (f := false) (n := 30) fun d hd => (hs d hd).2) (by decide)), shaped_nil3, ?_⟩
  rw [eqv_nil3]
  exact q _ s1
theorem dpa_ints {K : PySem.W.Frag} {H : Hp} : ∀ {is : List Int}, DpAll K H (is.map V.int) (is.map PyData.int)
  | [] => .nil
  | i :: is => .cons (.int i) dpa_ints
end Jl

set_option Elab.async false
set_option linter.all false
set_option maxRecDepth 100000
set_option maxHeartbeats 1000000
set_option pp.maxSteps 300
namespace Jl
open PySem PySem.Spec PyProof.Rows L2
open Evl (sz_of sz_lt)
local macro_rules | `(tactic| walk_at "at") => `(tactic| first | exact box0 | exact box1 | exact box2)
local macro_rules | `(tactic| walk_at "sq") => `(tactic| first | (show SqL _ _ _ _; assumption) | (show SqT _ _ _ _; assumption) | (show _ = some _; assumption))
local macro_rules | `(tactic| walk_at "side") => `(tactic| first
  | (show (0 : Int) < _; decide)
  | (show (0 : Int) < _; omega)
  | exact ⟨by decide, by decide, by decide⟩
  | exact sz_of (Nat.le_of_ble_eq_true rfl)
  | exact rfl
  | exact Or.inl (by decide)
  | exact Or.inr (by decide)
  | exact Or.inr ⟨by omega, by omega⟩
  | exact Or.inl ⟨by omega, by omega⟩
  | exact ⟨by decide, by decide +kernel⟩)
local macro_rules | `(tactic| walk_at "ev1") => `(tactic| first
  | refine ⟨_, rfl, ?_⟩
  | refine ⟨_, _, rfl, rfl, ?_⟩
  | refine ⟨_, _, _, _, rfl, rfl, (by walk_at "sq"), (by walk_at "at"), ?_⟩
  | refine ⟨_, _, rfl, (by walk_at "sq"), ?_⟩
  | refine ⟨_, _, rfl, Or.inl (by walk_at "sq"), ?_⟩
  | refine ⟨_, _, rfl, Or.inr (by walk_at "sq"), ?_⟩
  | refine Or.inl ⟨_, rfl, ?_⟩
  | refine Or.inr ⟨_, rfl, ?_⟩
  | refine ⟨(by walk_at "side"), ?_⟩
  | refine ⟨.inl ⟨rfl, _, (by walk_at "sq")⟩, ?_⟩
  | refine ⟨_, _, rfl, ?_⟩)
local macro_rules | `(tactic| walk_at "nrm") => `(tactic| dsimp only [tNil, tCons, tC, tCB])
local macro_rules | `(tactic| walk_at "ev") => `(tactic| repeat (walk_at "ev1"))
/-- a list that grows beside a box -/
structure BSt (K : PySem.W.Frag) (b p : Addr) (H3 : Hp) (fs : List V) (ds : List PyData) (Hc : Hp) (bx : List V) (n : Nat) : Prop where
  hb : Hc b = some (.lst bx)
  hB : BoxL bx n
  hf : Hc p = some (.lst fs)
  hd : DpAll K (cutS [p, b] Hc) fs ds
  hS : Same (cutS [b] H3) (cutS [p, b] Hc)
section
variable {K : PySem.W.Frag} {b p : Addr} {H3 Hc Hd : Hp} {fs : List V} {ds : List PyData} {bx bx' : List V} {n n' : Nat} {v : V} {d : PyData}
theorem BSt.take (w : BSt K b p H3 fs ds Hc bx n) (n7 : p ≠ b) (h : BoxL bx' n') : BSt K b p H3 fs ds (upd Hc b (.lst bx')) bx' n' := by
  have e : cutS [p, b] (upd Hc b (.lst bx')) = cutS [p, b] Hc := cutS_upd (List.mem_cons_of_mem _ List.mem_cons_self)
  exact ⟨upd_same, h, by rw [upd_ne n7]; exact w.hf, by rw [e]; exact w.hd, by rw [e]; exact w.hS⟩
theorem BSt.same (w : BSt K b p H3 fs ds Hc bx n) (e : Same Hc Hd) : BSt K b p H3 fs ds Hd bx n := ⟨e _ _ w.hb, w.hB, e _ _ w.hf, (cutS_mono e).dpa w.hd, w.hS.trans (cutS_mono e)⟩
theorem BSt.push (w : BSt K b p H3 fs ds Hc bx n) (n7 : p ≠ b) (h : Dp K (cutS [p, b] Hc) v d) : BSt K b p H3 (fs ++ [v]) (ds ++ [d]) (upd Hc p (.lst (fs ++ [v]))) bx n := by
  have e : cutS [p, b] (upd Hc p (.lst (fs ++ [v]))) = cutS [p, b] Hc := cutS_upd List.mem_cons_self
  exact ⟨by rw [upd_ne n7.symm]; exact w.hb, w.hB, upd_same, by rw [e]; exact dpa_app w.hd (dpa_one h), by rw [e]; exact w.hS⟩
theorem BSt.mono (w : BSt K b p H3 fs ds Hc bx n) (h : n ≤ n') : BSt K b p H3 fs ds Hc bx n' := ⟨w.hb, w.hB.mono h, w.hf, w.hd, w.hS⟩
theorem BSt.new (hb : H3 b = some (.lst bx)) (hB : BoxL bx n) (hp : H3 p = none) : BSt K b p H3 [] [] (upd H3 p (.lst [])) bx n := by
  have np : p ≠ b := fun z => by
    rw [z, hb] at hp
    cases hp
  exact ⟨by rw [upd_ne np.symm]; exact hb, hB, upd_same, .nil, cutS_cons hp⟩
theorem BSt.trk (w : BSt K b p H3 fs ds Hc bx n) : Trk [p, b] Hc := Trk.cons (Trk.cons Trk.nil w.hb) w.hf
end
end Jl

set_option Elab.async false
set_option linter.all false
set_option maxRecDepth 100000
set_option maxHeartbeats 1000000
set_option pp.maxSteps 300
namespace Jl
open PySem PySem.Spec PyProof.Rows L2
open Evl (sz_of sz_lt)
local macro_rules | `(tactic| walk_at "at") => `(tactic| first | exact box0 | exact box1 | exact box2)
local macro_rules | `(tactic| walk_at "sq") => `(tactic| first | (show SqL _ _ _ _; assumption) | (show SqT _ _ _ _; assumption) | (show _ = some _; assumption))
local macro_rules | `(tactic| walk_at "side") => `(tactic| first
  | (show (0 : Int) < _; decide)
  | (show (0 : Int) < _; omega)
  | exact ⟨by decide, by decide, by decide⟩
  | exact sz_of (Nat.le_of_ble_eq_true rfl)
  | exact rfl
  | exact Or.inl (by decide)
  | exact Or.inr (by decide)
  | exact Or.inr ⟨by omega, by omega⟩
  | exact Or.inl ⟨by omega, by omega⟩
  | exact ⟨by decide, by decide +kernel⟩)
local macro_rules | `(tactic| walk_at "ev1") => `(tactic| first
  | refine ⟨_, rfl, ?_⟩
  | refine ⟨_, _, rfl, rfl, ?_⟩
  | refine ⟨_, _, _, _, rfl, rfl, (by walk_at "sq"), (by walk_at "at"), ?_⟩
  | refine ⟨_, _, rfl, (by walk_at "sq"), ?_⟩
  | refine ⟨_, _, rfl, Or.inl (by walk_at "sq"), ?_⟩
  | refine ⟨_, _, rfl, Or.inr (by walk_at "sq"), ?_⟩
  | refine Or.inl ⟨_, rfl, ?_⟩
  | refine Or.inr ⟨_, rfl, ?_⟩
  | refine ⟨(by walk_at "side"), ?_⟩
  | refine ⟨.inl ⟨rfl, _, (by walk_at "sq")⟩, ?_⟩
  | refine ⟨_, _, rfl, ?_⟩)
local macro_rules | `(tactic| walk_at "nrm") => `(tactic| dsimp only [tNil, tCons, tC, tCB])
local macro_rules | `(tactic| walk_at "ev") => `(tactic| repeat (walk_at "ev1"))
abbrev sc_frozen_N : List Str := ["thing", "part"]
abbrev s_frozen : Stmt := topS 5
theorem sc_frozen : FnScope ["thing", "part"] ["thing"] (defScope s_frozen) := ⟨rfl, rfl, rfl, by decide +kernel, rfl, by decide +kernel, by decide +kernel⟩
abbrev sc_check_worker_N : List Str := ["net", "worker"]
abbrev s_check_worker : Stmt := topS 7
theorem sc_check_worker : FnScope ["net", "worker"] ["net", "worker"] (defScope s_check_worker) := ⟨rfl, rfl, rfl, by decide +kernel, rfl, by decide +kernel, by decide +kernel⟩
/-! ### frozen -/
mutual
def frzD : PyData → PyData
  | .list ds => .tuple (frzA ds)
  | .tuple ds => .tuple (frzA ds)
  | .none => .none
  | .bool b => .bool b
  | .int i => .int i
  | .str x => .str x
  | .dict k => .dict k
def frzA : List PyData → List PyData
  | [] => []
  | d :: ds => frzD d :: frzA ds
end
theorem frzA_map : ∀ ds : List PyData, frzA ds = ds.map frzD
  | [] => rfl
  | d :: ds => by
    show frzD d :: frzA ds = frzD d :: ds.map frzD
    rw [frzA_map ds]
theorem frzD_seq {f : Bool} {ds : List PyData} : frzD (seqD f ds) = .tuple (ds.map frzD) := by
  cases f
  · show PyData.tuple (frzA ds) = _
    rw [frzA_map]
  · show PyData.tuple (frzA ds) = _
    rw [frzA_map]
theorem frz_net {f : Bool} {ws : List Str} {qs : List QD} : frzD (netD f ws qs) = netD true ws qs := by
  unfold netD
  rw [frzD_seq]
  show PyData.tuple [frzD _, frzD _] = PyData.tuple [_, _]
  rw [frzD_seq, frzD_seq, List.map_map, List.map_map]
  have e1 : ws.map (frzD ∘ PyData.str) = ws.map PyData.str := List.map_congr_left fun _ _ => rfl
  have e2 : qs.map (frzD ∘ QD.d f) = qs.map (QD.d true) := List.map_congr_left fun q _ => by
    show frzD (QD.d f q) = _
    unfold QD.d
    rw [frzD_seq]
    rfl
  rw [e1, e2]
  rfl
theorem frz_flat {d : PyData} (h : PySem.W.kitAny (default : PySem.W.Frag) (.type (tyD d)) [.type "list", .type "tuple"] = some false ∨ True) (h2 : ∀ f ds, d ≠ seqD f ds) : frzD d = d := by
  cases d with
  | list ds => exact absurd rfl (h2 false ds)
  | tuple ds => exact absurd rfl (h2 true ds)
  | _ => rfl
section
variable {P : Program} {w : World} {K : PySem.W.Frag} {mg : Str → Option Value} {base : Heap}
def spFrozen (K : PySem.W.Frag) : Nat → Sp
  | 0 => fun _ _ _ _ => False
  | n + 1 => fun vs H Q _ => ∃ (v : V) (d : PyData) (S : List Addr), vs = [v] ∧ Trk S H ∧ Dp K (cutS S H) v d ∧ okD (n + 1) d ∧ ∀ H' y, Same H H' → Dp K (cutS S H') y (frzD d) → Q y H'
theorem ok_frozen {f : Addr} {fd : FuncData} (F_frozen : Fun K "frozen" "frozen" s_frozen f fd) (g_frozen : mg "frozen" = some (.ref f)) (b_frozen : Binds K fd ["thing"] []) (m_isinstance : mg "isinstance" = none) (m_list : mg "list" = none) (m_tuple : mg "tuple" = none) :
    ∀ n : Nat, FnOk P w K mg base CX0 n f fd ["thing"] (spFrozen K n)
  | 0 => fnok_no
  | n + 1 => by
    have G_frozen := ok_frozen F_frozen g_frozen b_frozen m_isinstance m_list m_tuple n
    refine F_frozen.ok sc_frozen (fun vs H Q E h => ?_) (fun cdv A outer s H vs Q E hr h => ?_)
    · obtain ⟨v, d, S, rfl, _⟩ := h
      rfl
    · obtain ⟨v, d, S, rfl, hT, hD, hk, q⟩ := h
      refine ⟨_, (pss_cons (ps_if (pt_val (pe_callB call_isiT (by rfl) m_isinstance (by decide +kernel) (pa_cons (pv 0) (pa_cons (pe_tup (pa_cons (pe_bltn (v := .ty "list") (u := .type "list") (by rfl) m_list (by decide +kernel) rfl) (pa_cons (pe_bltn (v := .ty "tuple") (u := .type "tuple") (by rfl) m_tuple (by decide +kernel) rfl) pa_nil))) pa_nil)))) (pss_one (ps_ret (pe_callTy call_tuple_of (by rfl) m_tuple (by decide +kernel) (pa_cons (pe_lcX (pe_lc (own := [("part", 1)]) (g := gName 1) (tt := tYes) (by rfl) sc_frozen.nd (pi_seq (pv 0)) (blkOk_by (own := [("part", 1)]) (N := sc_frozen_N) (sc := defScope s_frozen) (by decide +kernel)) (fun _ _ _ _ _ => pg_name (i := 1) sc_frozen.nd rfl (Or.inl rfl)) (fun _ _ _ _ _ => pts_nil) (fun _ _ _ _ _ => (pe_call G_frozen hr (by rfl) g_frozen F_frozen.kp b_frozen .nil pass0 (pa_cons (pv 1) pa_nil))))) pa_nil)))) pss_nil) 
    (pss_one (ps_ret (pv 0)))), ?_⟩
      walk_at "ev"
      intro p hp
      have e1 : Same H (upd H p (.tup [.ty "list", .ty "tuple"])) := .upd hp
      have hp1 : (upd H p (.tup [.ty "list", .ty "tuple"])) p = some (.tup [.ty "list", .ty "tuple"]) := upd_same
      dsimp only [tNil]
      rcases dp_cases hD with ⟨fb, ds, rfl⟩ | ⟨hk0, hl⟩
      · refine isi2 (e1.dp (cutS_le.dp hD)) hp1 (fun t e => by rw [e]; exact kit_seq) ?_
        refine ⟨_, rfl, iteT ?_⟩
        obtain ⟨a, xs, rfl, hs, ha⟩ := Dp.seq_of hD
        obtain ⟨hk1, hk2⟩ := okD_seq.mp hk
        refine lc_dataD (S := S) frzD (fun R' r => ⟨_, rfl, r⟩) (e1.sqF (cutS_le.sqF hs)) ((cutS_mono e1).dpa ha) (hT.mono e1) hk1 (fun x => rfl) (fun x d H1 T hd t1 hx Q' q' => ?_) (fun D ys H' s1 hD h2 h3 => ?_)
        · cases n with
          | zero => exact (hk2 d hd).elim
          | succ n => exact ⟨_, rfl, x, d, T, rfl, t1, hx, hk2 d hd, fun H2 y s2 hy => q' H2 y s2 hy⟩
        · refine ⟨D, ys, rfl, .inl ⟨sql_of h2, fun l hl => ?_⟩⟩
          have s2 : Same H (upd H' l (.tup ys)) := (e1.trans s1).trans (.upd hl)
          refine q _ _ s2 ?_
          rw [frzD_seq]
          exact dp_tup (hT.mono (e1.trans s1)) hl (cutS_tail.dpa h3)
      · refine isi2 (e1.dp (cutS_le.dp hD)) hp1 (fun t e => by rw [e]; exact hk0) ?_
        refine ⟨_, rfl, iteF ?_⟩
        refine ⟨_, rfl, ?_⟩
        refine q _ _ e1 ?_
        have e : frzD d = d := by
          cases d with
          | list ds => exact absurd ((kit_seq (K := K) (fb := false) (ds := ds)).symm.trans hk0) (by simp)
          | tuple ds => exact absurd ((kit_seq (K := K) (fb := true) (ds := ds)).symm.trans hk0) (by simp)
          | _ => rfl
        rw [e]
        exact (cutS_mono e1).dp hD
/-! ### check_worker -/
def spCheck (K : PySem.W.Frag) : Sp := fun vs H Q _ => ∃ (v : V) (fb : Bool) (ws : List Str) (qs : List QD) (x : Str), vs = [v, .str x] ∧ Dp K H v (netD fb ws qs) ∧ x ∈ ws ∧ Q .non H
theorem ok_check_worker {f : Addr} {fd : FuncData} {k : Nat} (F : Fun K "check_worker" "check_worker" s_check_worker f fd) : FnOk P w K mg base CX0 (k + 1) f fd ["net", "worker"] (spCheck K) := by
  refine F.ok sc_check_worker (fun vs H Q E h => ?_) (fun cdv A outer s0 H vs Q E hr h => ?_)
  · obtain ⟨v, fb, ws, qs, x, rfl, _⟩ := h
    rfl
  · obtain ⟨v, fb, ws, qs, x, rfl, hD, hx, q⟩ := h
    refine ⟨_, (pss_one (ps_if (pt_cmpR op_notIn_seq (pv 1) (pe_ix ix_lt (pv 0) pe_int (fun _ _ => rfl)) (by with_unfolding_all rfl)) (pss_one ps_no) pss_nil)), ?_⟩
    obtain ⟨a0, a1, a2, xq, rfl, N0⟩ := netAt hD
    have i0 : atI [V.ref a1, V.ref a2] 0 = some (.ref a1) := atI_nat (j := 0) rfl
    refine ⟨_, rfl, _, rfl, rIxF_at N0.h0 i0 ?_⟩
    refine ⟨a1, _, rfl, N0.h1.or, rfl, flat_strs _, ?_⟩
    rw [in_strs, decide_eq_true hx]
    refine ⟨_, rfl, iteF ?_⟩
    exact q
end
end Jl

set_option Elab.async false
set_option linter.all false
set_option maxRecDepth 100000
set_option maxHeartbeats 1000000
set_option pp.maxSteps 300
namespace Jl
open PySem PySem.Spec PyProof.Rows L2
open Evl (sz_of sz_lt)
local macro_rules | `(tactic| walk_at "at") => `(tactic| first | exact box0 | exact box1 | exact box2)
local macro_rules | `(tactic| walk_at "sq") => `(tactic| first | (show SqL _ _ _ _; assumption) | (show SqT _ _ _ _; assumption) | (show _ = some _; assumption))
local macro_rules | `(tactic| walk_at "side") => `(tactic| first
  | (show (0 : Int) < _; decide)
  | (show (0 : Int) < _; omega)
  | exact ⟨by decide, by decide, by decide⟩
  | exact sz_of (Nat.le_of_ble_eq_true rfl)
  | exact rfl
  | exact Or.inl (by decide)
  | exact Or.inr (by decide)
  | exact Or.inr ⟨by omega, by omega⟩
  | exact Or.inl ⟨by omega, by omega⟩
  | exact ⟨by decide, by decide +kernel⟩)
local macro_rules | `(tactic| walk_at "ev1") => `(tactic| first
  | refine ⟨_, rfl, ?_⟩
  | refine ⟨_, _, rfl, rfl, ?_⟩
  | refine ⟨_, _, _, _, rfl, rfl, (by walk_at "sq"), (by walk_at "at"), ?_⟩
  | refine ⟨_, _, rfl, (by walk_at "sq"), ?_⟩
  | refine ⟨_, _, rfl, Or.inl (by walk_at "sq"), ?_⟩
  | refine ⟨_, _, rfl, Or.inr (by walk_at "sq"), ?_⟩
  | refine Or.inl ⟨_, rfl, ?_⟩
  | refine Or.inr ⟨_, rfl, ?_⟩
  | refine ⟨(by walk_at "side"), ?_⟩
  | refine ⟨.inl ⟨rfl, _, (by walk_at "sq")⟩, ?_⟩
  | refine ⟨_, _, rfl, ?_⟩)
local macro_rules | `(tactic| walk_at "nrm") => `(tactic| dsimp only [tNil, tCons, tC, tCB])
local macro_rules | `(tactic| walk_at "ev") => `(tactic| repeat (walk_at "ev1"))
abbrev sc_Way_init_N : List Str := ["self", "net", "start", "queues", "known", "steps", "workers", "costs", "place", "name", "move", "queue"]
abbrev s_Way_init : Stmt := inClass (topS 9) 0
theorem sc_Way_init : FnScope ["self", "net", "start", "queues", "known", "steps", "workers", "costs", "place", "name", "move", "queue"] ["self", "net", "start", "queues"] (defScope s_Way_init) := ⟨rfl, rfl, rfl, by decide +kernel, rfl, by decide +kernel, by decide +kernel⟩
abbrev sc_Way_cost_N : List Str := ["self"]
abbrev s_Way_cost : Stmt := inClass (topS 9) 3
theorem sc_Way_cost : FnScope ["self"] ["self"] (defScope s_Way_cost) := ⟨rfl, rfl, rfl, by decide +kernel, rfl, by decide +kernel, by decide +kernel⟩
theorem dc_it {J : It} {n : Nat} {G : Hp → Prop} {Y : Nat → Hp → V → Hp → Prop} (w : Walk J n G Y) {g : TG} {tt : TT} {tk tv : TE} {vs : List Nat} {σ : L2.St} {H1 : Hp} {D : Addr} {Qd : Hp → Prop} (Pv : Nat → Hp → Prop) (h0 : Pv 0 (upd H1 D (.dK []))) (hG : ∀ i H, i ≤ n → Pv i H → G H)
    (hs : ∀ i x H H', i < n → Pv i H → Y i H x H' → g x (wipe σ vs) H' fun σ2 H2 => wipe σ2 vs = wipe σ vs ∧ tt σ2 H2 fun b H3 =>
      if b = true then tk σ2 H3 fun y H4 => tv σ2 H4 fun z H5 => ∃ kvs k, y = kV k ∧ H5 D = some (.dK kvs) ∧ kvs.length < sizeLine ∧ Pv (i + 1) (upd H5 D (.dK (putK kvs k z))) else Pv (i + 1) H3) (hd : ∀ H, Pv n H → Qd H) :
    ∃ W : Nat → Nat → Hp → Prop, (∃ m, W 0 m (upd H1 D (.dK []))) ∧ ∀ i m H, W i m H →
      (J.stop i H ∧ Qd H) ∨ (J.go i H ∧ ∃ Nx : Hp → Prop, (∀ H', Nx H' → ∃ m', m' < m ∧ W (i + 1) m' H') ∧ ∀ x H', J.yld i H x H' → g x (wipe σ vs) H' fun σ2 H2 => wipe σ2 vs = wipe σ vs ∧ tt σ2 H2 fun b H3 =>
        if b = true then tk σ2 H3 fun y H4 => tv σ2 H4 fun z H5 => ∃ kvs k, y = kV k ∧ H5 D = some (.dK kvs) ∧ kvs.length < sizeLine ∧ Nx (upd H5 D (.dK (putK kvs k z))) else Nx H3) := by
  refine ⟨fun i m H => m = n - i ∧ i ≤ n ∧ Pv i H, ⟨n, by simp, Nat.zero_le _, h0⟩, ?_⟩
  rintro i m H ⟨rfl, hi, p⟩
  have q := hG i H hi p
  by_cases hlt : i < n
  · refine .inr ⟨w.goes i H hlt q, Pv (i + 1), fun H' p' => ⟨n - (i + 1), by omega, rfl, hlt, p'⟩, fun x H' y => hs i x H H' hlt p (w.yields i H x H' hlt q y)⟩
  · have e : i = n := by omega
    subst e
    exact .inl ⟨w.stops H q, hd H p⟩
/-! ### rows along a path -/
theorem path_len {qs : List QD} : ∀ {vs : List Str} {ms : List Mk}, path qs vs ms → vs.length = ms.length + 1
  | [_], [], _ => rfl
  | _ :: u :: vs, m :: ms, h => by rw [List.length_cons, path_len h.2, List.length_cons]
  | [], _, h => absurd h id
  | [_], _ :: _, h => absurd h id
  | _ :: _ :: _, [], h => absurd h id
theorem path_get {qs : List QD} : ∀ {vs : List Str} {ms : List Mk} {i : Nat} {m : Mk}, path qs vs ms → ms[i]? = some m → ∃ a b, vs[i]? = some a ∧ vs[i + 1]? = some b ∧ link qs m a b
  | v :: u :: vs, m :: ms, 0, m', h, hm => by
    cases hm
    exact ⟨v, u, rfl, rfl, h.1⟩
  | v :: u :: vs, m :: ms, i + 1, m', h, hm => by
    obtain ⟨a, b, h1, h2, h3⟩ := path_get (i := i) h.2 (by simpa using hm)
    exact ⟨a, b, by simpa using h1, by simpa using h2, h3⟩
  | [_], [], i, m', _, hm => by simp at hm
  | [], _, _, _, h, _ => absurd h id
  | [_], _ :: _, _, _, h, _ => absurd h id
  | _ :: _ :: _, [], _, _, h, _ => absurd h id
theorem link_at {qs : List QD} {m : Mk} {x y : Str} (h : link qs m x y) : ∃ q, qs[m.1]? = some q ∧ (x = q.st ∨ x = q.en) ∧ nmQ qs m = q.nm ∧ (q.st ≠ q.en → (if x = q.st then mvd q.nm true q.en q.room else mvd q.nm false q.st (1 - q.gap)) = .tuple [stD qs m, .str y, .int (prQ qs m)]) := by
  obtain ⟨q, hq, h⟩ := h
  obtain ⟨i, b⟩ := m
  have hq : qs[i]? = some q := hq
  have e1 : nmQ qs (i, b) = q.nm := by unfold nmQ; rw [hq]
  refine ⟨q, hq, ?_, e1, fun hne => ?_⟩
  · rcases h with ⟨_, h, _⟩ | ⟨_, h, _⟩
    · exact .inl h.symm
    · exact .inr h.symm
  · obtain ⟨g1, g2⟩ := mvd_at hq
    rcases h with ⟨h1, h2, h3⟩ | ⟨h1, h2, h3⟩
    · have h1 : b = true := h1
      subst h1
      rw [if_pos h2.symm, g1]
      show mvD qs (i, true) = _
      unfold mvD far
      rw [hq, ← h3]
      rfl
    · have h1 : b = false := h1
      subst h1
      rw [if_neg (by rw [← h2]; exact hne.symm), g2]
      show mvD qs (i, false) = _
      unfold mvD far
      rw [hq, ← h3]
      rfl
theorem refs_of {K : PySem.W.Frag} {H : Hp} {fb : Bool} {qs : List QD} {xs : List V} (hl : xs.length = qs.length) (h : ∀ (i : Nat) (v : V), xs[i]? = some v → ∃ (q : QD) (a : Addr), qs[i]? = some q ∧ v = .ref a ∧ SqF fb K H a [.str q.nm, .str q.st, .str q.en, .int q.room, .int q.gap]) : ∃ als : List Addr, xs = als.map V.ref ∧ als.length = qs.length := by
  have key : ∀ xs : List V, (∀ v ∈ xs, ∃ a : Addr, v = .ref a) → ∃ als : List Addr, xs = als.map V.ref := by
    intro xs
    induction xs with
    | nil => exact fun _ => ⟨[], rfl⟩
    | cons v xs ih =>
      intro h
      obtain ⟨a, rfl⟩ := h v List.mem_cons_self
      obtain ⟨als, rfl⟩ := ih fun x hx => h x (List.mem_cons_of_mem _ hx)
      exact ⟨a :: als, rfl⟩
  obtain ⟨als, e⟩ := key xs fun v hv => by
    obtain ⟨i, hi, e⟩ := List.getElem_of_mem hv
    obtain ⟨_, a, _, e2, _⟩ := h i v (by rw [List.getElem?_eq_getElem hi, e])
    exact ⟨a, e2⟩
  refine ⟨als, e, ?_⟩
  rw [← hl, e, List.length_map]
/-- {queue[0]: queue for queue in a row of queues} -/
theorem dc_rows {K : PySem.W.Frag} {tl : TE} {j : Nat} {vs : List Nat} {σ : L2.St} {H H0 : Hp} {Q : VK} {a : Addr} {fb : Bool} {als : List Addr} {qs : List QD} (hl : als.length = qs.length) (hl2 : qs.length ≤ 1000) (hn : (qs.map QD.nm).Nodup)
    (ht : ∀ R' : VK, R' (.ref a) H0 → tl σ H R') (hs : SqF fb K H0 a (als.map V.ref)) (hq : ∀ (i : Nat) (v : V), (als.map V.ref)[i]? = some v → ∃ (q : QD) (a : Addr), qs[i]? = some q ∧ v = .ref a ∧ SqF fb K H0 a [.str q.nm, .str q.st, .str q.en, .int q.room, .int q.gap])
    (hw : ∀ x, wipe ((wipe σ vs).set j (some x)) vs = wipe σ vs) (hj : ∀ x : V, ((wipe σ vs).set j (some x))[j]? = some (some x))
    (q : ∀ D H1, Same H0 H1 → H0 D = none → H1 D = some (.dK (kvl (qs.map QD.nm) als)) → Q (.ref D) H1) : tDcX (iSeq K tl) (gName j) tYes (tOp (rIxF K) (tVar j) (tC (.int 0))) (tVar j) vs σ H Q := by
  refine dc_of ?_
  refine iSeq_at ht hs fun J w D hD => ?_
  refine dc_it w (fun i H1 => Same H0 H1 ∧ H1 D = some (.dK (kvl ((qs.map QD.nm).take i) (als.take i)))) ⟨.upd hD, upd_same⟩ (fun i H1 _ p => p.1.sqF hs) (fun i x H1 H1' hi p y => ?_) (fun H1 p => ?_)
  · obtain ⟨s1, h1⟩ := p
    obtain ⟨rfl, hx⟩ := y
    obtain ⟨qd, aq, e1, rfl, e2⟩ := hq i x hx
    rw [List.getElem?_map] at hx
    have e3 : als[i]? = some aq := by
      cases e : als[i]? with
      | none =>
        rw [e] at hx
        cases hx
      | some b =>
        rw [e] at hx
        cases hx
        rfl
    have e4 : (qs.map QD.nm)[i]? = some qd.nm := by rw [List.getElem?_map, e1]; rfl
    have hil := (List.getElem?_eq_some_iff.mp e1).1
    refine ⟨hw _, ?_⟩
    dsimp only [tYes]
    refine iteT ?_
    refine ⟨_, hj _, rIxF_at (s1.sqF e2) (atI_nat (j := 0) rfl) ?_⟩
    refine ⟨_, hj _, _, .inr qd.nm, rfl, h1, ?_, s1.mut hD, ?_⟩
    · unfold kvl
      rw [List.length_map, List.length_zip, List.length_take]
      exact szL (by omega)
    · rw [upd_same, putK_new _ (valV_kvl_no fun hz => ?_), ← kvl_push (by rw [List.length_take, List.length_take, List.length_map]; omega), List.take_add_one, List.take_add_one, e3, e4]
      · rfl
      · obtain ⟨k, hk1, hk2⟩ := List.mem_take_iff_getElem.mp hz
        have := nd_ix hn e4 (by rw [List.getElem?_eq_getElem (show k < (qs.map QD.nm).length by omega)]; exact congrArg some hk2)
        omega
  · obtain ⟨s1, h1⟩ := p
    rw [List.length_map, List.take_of_length_le (by rw [List.length_map]; omega), List.take_of_length_le (Nat.le_refl _)] at h1
    exact q D H1 s1 hD h1
/-! ### an instance that is being made -/
structure ISt (H0 : Hp) (C x dx : Addr) (H : Hp) (fs : List (Str × V)) : Prop where
  s : Same H0 (cutS [x] H)
  hx : H x = some (.ins C dx fs)
theorem ISt.same {H0 : Hp} {C x dx : Addr} {H H' : Hp} {fs : List (Str × V)} (i : ISt H0 C x dx H fs) (e : Same H H') : ISt H0 C x dx H' fs := ⟨i.s.trans (cutS_mono e), e _ _ i.hx⟩
theorem cut1 {x : Addr} {H : Hp} {o : HO} : cutS [x] (upd H x o) = cutS [x] H := cutS_upd List.mem_cons_self
theorem ISt.put {H0 : Hp} {C x dx : Addr} {H : Hp} {fs fs' : List (Str × V)} (i : ISt H0 C x dx H fs) : ISt H0 C x dx (upd H x (.ins C dx fs')) fs' := ⟨by rw [cut1]; exact i.s, upd_same⟩
def f1 (v1 : V) : List (Str × V) := putF "_net" v1 []
def f2 (v1 v2 : V) : List (Str × V) := putF "_queues" v2 (f1 v1)
def f3 (v1 v2 v3 : V) : List (Str × V) := putF "_steps" v3 (f2 v1 v2)
def f4 (v1 v2 v3 v4 : V) : List (Str × V) := putF "_workers" v4 (f3 v1 v2 v3)
def f5 (v1 v2 v3 v4 v5 : V) : List (Str × V) := putF "_costs" v5 (f4 v1 v2 v3 v4)
theorem putF_len {f : Str} {v : V} : ∀ {fs : List (Str × V)}, (putF f v fs).length ≤ fs.length + 1
  | [] => Nat.le_refl _
  | (g, u) :: fs => by
    unfold putF
    split
    · exact Nat.le_succ _
    · exact Nat.succ_le_succ putF_len
theorem f5_len {v1 v2 v3 v4 v5 : V} : (f1 v1).length ≤ 1 ∧ (f2 v1 v2).length ≤ 2 ∧ (f3 v1 v2 v3).length ≤ 3 ∧ (f4 v1 v2 v3 v4).length ≤ 4 ∧ (f5 v1 v2 v3 v4 v5).length ≤ 5 := by
  have h1 : (f1 v1).length ≤ 1 := putF_len
  have h2 : (f2 v1 v2).length ≤ (f1 v1).length + 1 := putF_len
  have h3 : (f3 v1 v2 v3).length ≤ (f2 v1 v2).length + 1 := putF_len
  have h4 : (f4 v1 v2 v3 v4).length ≤ (f3 v1 v2 v3).length + 1 := putF_len
  have h5 : (f5 v1 v2 v3 v4 v5).length ≤ (f4 v1 v2 v3 v4).length + 1 := putF_len
  exact ⟨h1, by omega, by omega, by omega, by omega⟩
theorem f5_at {v1 v2 v3 v4 v5 : V} : (f5 v1 v2 v3 v4 v5).lookup ("_net" : Str) = some v1 ∧ (f5 v1 v2 v3 v4 v5).lookup ("_queues" : Str) = some v2 ∧ (f5 v1 v2 v3 v4 v5).lookup ("_steps" : Str) = some v3 ∧ (f5 v1 v2 v3 v4 v5).lookup ("_workers" : Str) = some v4 ∧ (f5 v1 v2 v3 v4 v5).lookup ("_costs" : Str) = some v5 := by
  have ne : ∀ a b : Str, (decide (a = b)) = false → ¬ a = b := fun a b h => of_decide_eq_false h
  unfold f5 f4 f3 f2 f1
  simp only [lookup_putF]
  refine ⟨?_, ?_, ?_, ?_, ?_⟩
  · rw [if_neg (ne _ _ (by decide +kernel)), if_neg (ne _ _ (by decide +kernel)), if_neg (ne _ _ (by decide +kernel)), if_neg (ne _ _ (by decide +kernel)), if_pos trivial]
  · rw [if_neg (ne _ _ (by decide +kernel)), if_neg (ne _ _ (by decide +kernel)), if_neg (ne _ _ (by decide +kernel)), if_pos trivial]
  · rw [if_neg (ne _ _ (by decide +kernel)), if_neg (ne _ _ (by decide +kernel)), if_pos trivial]
  · rw [if_neg (ne _ _ (by decide +kernel)), if_pos trivial]
  · rw [if_pos trivial]
theorem f5_no {v1 v2 v3 v4 v5 : V} {m : Str} (h : decide (m ∈ ([("_net" : Str), "_queues", "_steps", "_workers", "_costs"] : List Str)) = false) : (f5 v1 v2 v3 v4 v5).lookup m = none := by
  have h := of_decide_eq_false h
  simp only [List.mem_cons, List.not_mem_nil, or_false, not_or] at h
  obtain ⟨h1, h2, h3, h4, h5⟩ := h
  unfold f5 f4 f3 f2 f1
  simp only [lookup_putF]
  rw [if_neg h5, if_neg h4, if_neg h3, if_neg h2, if_neg h1]
  rfl
theorem f2_at {v1 v2 : V} : (f1 v1).lookup ("_net" : Str) = some v1 ∧ (f2 v1 v2).lookup ("_net" : Str) = some v1 ∧ (f2 v1 v2).lookup ("_queues" : Str) = some v2 := by
  have ne : ∀ a b : Str, (decide (a = b)) = false → ¬ a = b := fun a b h => of_decide_eq_false h
  unfold f2 f1
  simp only [lookup_putF]
  refine ⟨?_, ?_, ?_⟩
  · rw [if_pos trivial]
  · rw [if_neg (ne _ _ (by decide +kernel)), if_pos trivial]
  · rw [if_pos trivial]
/-- a Way: from w over the marks ms, the workers behind w: us -/
structure WayAt (K : PySem.W.Frag) (C : Addr) (H : Hp) (x : Addr) (ws : List Str) (qs : List QD) (w : Str) (us : List Str) (ms : List Mk) : Prop where
  is : ∃ (dx : Addr) (v1 v2 v3 v4 v5 : V), H x = some (.ins C dx (f5 v1 v2 v3 v4 v5)) ∧ Dp K H v1 (netD true ws qs) ∧ Dp K H v2 (.tuple ((ms.map (nmQ qs)).map PyData.str)) ∧ Dp K H v3 (stepsD qs ms) ∧ Dp K H v4 (.tuple ((w :: us).map PyData.str)) ∧ Dp K H v5 (.tuple ((ms.map (prQ qs)).map PyData.int))
theorem WayAt.same {K : PySem.W.Frag} {C : Addr} {H H' : Hp} {x : Addr} {ws : List Str} {qs : List QD} {w : Str} {us : List Str} {ms : List Mk} (h : WayAt K C H x ws qs w us ms) (e : Same H H') : WayAt K C H' x ws qs w us ms := by
  obtain ⟨dx, v1, v2, v3, v4, v5, h0, h1, h2, h3, h4, h5⟩ := h.is
  exact ⟨dx, v1, v2, v3, v4, v5, e _ _ h0, e.dp h1, e.dp h2, e.dp h3, e.dp h4, e.dp h5⟩
structure TWay (K : PySem.W.Frag) (C : Addr) : Prop where
  cl : Cls K C
  n1 : NoAttr K C "_net"
  n2 : NoAttr K C "_queues"
  n3 : NoAttr K C "_steps"
  n4 : NoAttr K C "_workers"
  n5 : NoAttr K C "_costs"
section
variable {P : Program} {w : World} {K : PySem.W.Frag} {mg : Str → Option Value} {base : Heap}
def spCost (K : PySem.W.Frag) (C : Addr) : Sp := fun vs H Q _ => ∃ (x : Addr) (ws : List Str) (qs : List QD) (w : Str) (us : List Str) (ms : List Mk), vs = [.ref x] ∧ WayAt K C H x ws qs w us ms ∧ Q (.int (costQ qs ms)) H
theorem ok_Way_cost {f C : Addr} {fd : FuncData} {k : Nat} (F : Fun K "cost" "Way.cost" s_Way_cost f fd) (T_Way : TWay K C) (m_sum : mg "sum" = none) : FnOk P w K mg base CX0 (k + 1) f fd ["self"] (spCost K C) := by
  refine F.ok sc_Way_cost (fun vs H Q E h => ?_) (fun cdv A outer s0 H vs Q E hr h => ?_)
  · obtain ⟨x, ws, qs, w, us, ms, rfl, _⟩ := h
    rfl
  · obtain ⟨x, ws, qs, w, us, ms, rfl, hw, q⟩ := h
    refine ⟨_, (pss_one (ps_ret (pe_callB (cr_sumT rfl) (by rfl) m_sum (by decide +kernel) (pa_cons (pe_fld (pv 0) rfl) pa_nil)))), ?_⟩
    obtain ⟨dx, v1, v2, v3, v4, v5, h0, h1, h2, h3, h4, h5⟩ := hw.is
    obtain ⟨a, xs, rfl, ha, hx⟩ := Dp.seq_of (f := true) (show Dp K H v5 (seqD true _) from h5)
    have e := dpa_ints_of hx
    subst e
    exact ⟨_, rfl, x, C, dx, _, _, rfl, h0, T_Way.cl, T_Way.n5, f5_at.2.2.2.2, a, _, rfl, ha, q⟩
end
end Jl

set_option Elab.async false
set_option linter.all false
set_option maxRecDepth 100000
set_option maxHeartbeats 1000000
set_option pp.maxSteps 300
namespace Jl
open PySem PySem.Spec PyProof.Rows L2
open Evl (sz_of sz_lt)
local macro_rules | `(tactic| walk_at "at") => `(tactic| first | exact box0 | exact box1 | exact box2)
local macro_rules | `(tactic| walk_at "sq") => `(tactic| first | (show SqL _ _ _ _; assumption) | (show SqT _ _ _ _; assumption) | (show _ = some _; assumption))
local macro_rules | `(tactic| walk_at "side") => `(tactic| first
  | (show (0 : Int) < _; decide)
  | (show (0 : Int) < _; omega)
  | exact ⟨by decide, by decide, by decide⟩
  | exact sz_of (Nat.le_of_ble_eq_true rfl)
  | exact rfl
  | exact Or.inl (by decide)
  | exact Or.inr (by decide)
  | exact Or.inr ⟨by omega, by omega⟩
  | exact Or.inl ⟨by omega, by omega⟩
  | exact ⟨by decide, by decide +kernel⟩)
local macro_rules | `(tactic| walk_at "ev1") => `(tactic| first
  | refine ⟨_, rfl, ?_⟩
  | refine ⟨_, _, rfl, rfl, ?_⟩
  | refine ⟨_, _, _, _, rfl, rfl, (by walk_at "sq"), (by walk_at "at"), ?_⟩
  | refine ⟨_, _, rfl, (by walk_at "sq"), ?_⟩
  | refine ⟨_, _, rfl, Or.inl (by walk_at "sq"), ?_⟩
  | refine ⟨_, _, rfl, Or.inr (by walk_at "sq"), ?_⟩
  | refine Or.inl ⟨_, rfl, ?_⟩
  | refine Or.inr ⟨_, rfl, ?_⟩
  | refine ⟨(by walk_at "side"), ?_⟩
  | refine ⟨.inl ⟨rfl, _, (by walk_at "sq")⟩, ?_⟩
  | refine ⟨_, _, rfl, ?_⟩)
local macro_rules | `(tactic| walk_at "nrm") => `(tactic| dsimp only [tNil, tCons, tC, tCB])
local macro_rules | `(tactic| walk_at "ev") => `(tactic| repeat (walk_at "ev1"))
theorem okD_up : ∀ {n : Nat} {d : PyData}, okD n d → okD (n + 1) d
  | 0, _, h => absurd h id
  | n + 1, .list ds, h => ⟨h.1, fun d hd => okD_up (h.2 d hd)⟩
  | n + 1, .tuple ds, h => ⟨h.1, fun d hd => okD_up (h.2 d hd)⟩
  | n + 1, .none, _ => trivial
  | n + 1, .bool _, _ => trivial
  | n + 1, .int _, _ => trivial
  | n + 1, .str _, _ => trivial
theorem asg_of0 {te : TE} {i : Nat} {u : TS} {D : Ends} {σ : L2.St} {H : Hp} (h : te σ H fun v H1 => u D (σ.set i (some v)) H1) : tSeq (tAsg te (gName i)) u D σ H := h
/-- the lists of a Way that is being made -/
structure WSI (K : PySem.W.Frag) (H5 : Hp) (ls lw lc x : Addr) (qs : List QD) (vs : List Str) (ms : List Mk) (i : Nat) (H : Hp) (sv : List V) : Prop where
  hs : H ls = some (.lst sv)
  hw : H lw = some (.lst ((vs.take (i + 1)).map V.str))
  hc : H lc = some (.lst (((ms.take i).map (prQ qs)).map V.int))
  ds : DpAll K (cutS [ls, lw, lc, x] H) sv ((ms.take i).map (stD qs))
  sS : Same (cutS [x] H5) (cutS [ls, lw, lc, x] H)
  xx : ∀ o, H5 x = some o → H x = some o
theorem WSI.same {K : PySem.W.Frag} {H5 : Hp} {ls lw lc x : Addr} {qs : List QD} {vs : List Str} {ms : List Mk} {i : Nat} {H H' : Hp} {sv : List V} (w : WSI K H5 ls lw lc x qs vs ms i H sv) (e : Same H H') : WSI K H5 ls lw lc x qs vs ms i H' sv :=
  ⟨e _ _ w.hs, e _ _ w.hw, e _ _ w.hc, (cutS_mono e).dpa w.ds, w.sS.trans (cutS_mono e), fun o h => e _ _ (w.xx o h)⟩
theorem WSI.next {K : PySem.W.Frag} {H5 : Hp} {ls lw lc x : Addr} {qs : List QD} {vs : List Str} {ms : List Mk} {i : Nat} {H : Hp} {sv : List V} {m : Mk} {b : Str} {v1 : V} (w : WSI K H5 ls lw lc x qs vs ms i H sv) (n1 : lw ≠ ls) (n2 : lc ≠ lw) (n3 : lc ≠ ls) (hx : ls ≠ x ∧ lw ≠ x ∧ lc ≠ x) (hm : ms[i]? = some m) (hb : vs[i + 1]? = some b) (hd : Dp K (cutS [ls, lw, lc, x] H) v1 (stD qs m)) :
    WSI K H5 ls lw lc x qs vs ms (i + 1) (upd (upd (upd H ls (.lst (sv ++ [v1]))) lw (.lst ((vs.take (i + 1)).map V.str ++ [.str b]))) lc (.lst (((ms.take i).map (prQ qs)).map V.int ++ [.int (prQ qs m)]))) (sv ++ [v1]) := by
  have c : ∀ {H : Hp} {a : Addr} {o : HO}, a ∈ [ls, lw, lc, x] → cutS [ls, lw, lc, x] (upd H a o) = cutS [ls, lw, lc, x] H := fun h => cutS_upd h
  have e : cutS [ls, lw, lc, x] (upd (upd (upd H ls (.lst (sv ++ [v1]))) lw (.lst ((vs.take (i + 1)).map V.str ++ [.str b]))) lc (.lst (((ms.take i).map (prQ qs)).map V.int ++ [.int (prQ qs m)]))) = cutS [ls, lw, lc, x] H := by
    rw [c (by simp), c (by simp), c (by simp)]
  refine ⟨?_, ?_, ?_, ?_, ?_, fun o h => ?_⟩
  · rw [upd_ne n3.symm, upd_ne n1.symm, upd_same]
  · rw [upd_ne n2.symm, upd_same, List.take_add_one (l := vs) (i := i + 1), hb, List.map_append]
    rfl
  · rw [upd_same, List.take_add_one (l := ms) (i := i), hm, List.map_append, List.map_append]
    rfl
  · rw [e, List.take_add_one, hm, List.map_append]
    exact dpa_app w.ds (dpa_one hd)
  · rw [e]
    exact w.sS
  · rw [upd_ne hx.2.2.symm, upd_ne hx.2.1.symm, upd_ne hx.1.symm]
    exact w.xx o h
theorem sqt_mut {K : PySem.W.Frag} {H : Hp} {a t : Addr} {fv fv2 xs : List V} (h1 : H a = some (.lst fv)) (h : SqT K H t xs) : SqT K (upd H a (.lst fv2)) t xs := by
  rcases h with (h | ⟨o, h⟩) | h
  · refine .inl (.inl ?_)
    rw [upd_ne (fun z => by rw [z, h1] at h; cases h)]
    exact h
  · refine .inl (.inr ⟨o, ?_⟩)
    rw [upd_ne (fun z => by rw [z, h1] at h; cases h)]
    exact h
  · exact .inr h
section
variable {P : Program} {w : World} {K : PySem.W.Frag} {mg : Str → Option Value} {base : Heap}
def spInit (K : PySem.W.Frag) (C : Addr) : Sp := fun vs H Q _ => ∃ (H0 : Hp) (x dx : Addr) (v qv : V) (fb fq : Bool) (ws : List Str) (qs : List QD) (w : Str) (us : List Str) (ms : List Mk), vs = [.ref x, v, .str w, qv] ∧ Same H0 H ∧ H0 x = none ∧ H x = some (.ins C dx []) ∧ Dp K H0 v (netD fb ws qs) ∧ Dp K H0 qv (seqD fq ((ms.map (nmQ qs)).map PyData.str)) ∧
  NetG ws qs ∧ w ∈ ws ∧ path qs (w :: us) ms ∧ ws.length ≤ 60 ∧ qs.length ≤ 60 ∧ ms.length ≤ 100000 ∧ ∀ H', Same H0 H' → WayAt K C H' x ws qs w us ms → Q .non H'
theorem ok_Way_init {f C fF fC fS : Addr} {fd fdF fdC fdS : FuncData} {k : Nat} (F : Fun K "__init__" "Way.__init__" s_Way_init f fd) (T_Way : TWay K C)
    (G_frozen : FnOk P w K mg base CX0 k fF fdF ["thing"] (spFrozen K 5)) (g_frozen : mg "frozen" = some (.ref fF)) (F_frozen : Fun K "frozen" "frozen" s_frozen fF fdF) (b_frozen : Binds K fdF ["thing"] [])
    (G_check_worker : FnOk P w K mg base CX0 k fC fdC ["net", "worker"] (spCheck K)) (g_check_worker : mg "check_worker" = some (.ref fC)) (F_check_worker : Fun K "check_worker" "check_worker" s_check_worker fC fdC) (b_check_worker : Binds K fdC ["net", "worker"] [])
    (G_step_over : FnOk P w K mg base CX0 k fS fdS ["queue", "place"] (spStep K)) (g_step_over : mg "step_over" = some (.ref fS)) (F_step_over : Fun K "step_over" "step_over" s_step_over fS fdS) (b_step_over : Binds K fdS ["queue", "place"] [])
    (m_tuple : mg "tuple" = none) (m_enumerate : mg "enumerate" = none) : FnOk P w K mg base CX0 (k + 1) f fd ["self", "net", "start", "queues"] (spInit K C) := by
  refine F.ok sc_Way_init (fun vs H Q E h => ?_) (fun cdv A outer s0 H vs Q E hr h => ?_)
  · obtain ⟨H0, x, dx, v, qv, fb, fq, ws, qs, w, us, ms, rfl, _⟩ := h
    rfl
  · obtain ⟨H0, x, dx, v, qv, fb, fq, ws, qs, w, us, ms, rfl, s00, hx0, hx, hD, hQv, hG, hw, hp, w6, q6, m6, q⟩ := h
    have hu := hu_of hr
    refine ⟨_, (pss_cons (ps_fld (pv 0) (pe_call G_frozen hr (by rfl) g_frozen F_frozen.kp b_frozen .nil pass0 (pa_cons (pv 1) pa_nil)) rfl) 
    (pss_cons (ps_fld (pv 0) (pe_callTy call_tuple_of (by rfl) m_tuple (by decide +kernel) (pa_cons (pv 3) pa_nil)) rfl) 
    (pss_cons (ps_expr (pe_call G_check_worker hr (by rfl) g_check_worker F_check_worker.kp b_check_worker .nil pass0 (pa_cons (pe_fld (pv 0) rfl) (pa_cons (pv 2) pa_nil)))) 
    (pss_cons (ps_setDcX (ps_setDc (i := 4) (own := [("queue", 11)]) (g := gName 11) (tt := tYes) (tk := tOp (rIxF K) (tVar 11) (tC (.int 0))) rfl sc_Way_init.nd rfl rfl (swd_true rfl rfl rfl (by decide +kernel)) (pi_seq (pe_ix ix_lt (pe_fld (pv 0) rfl) pe_int (fun _ _ => rfl))) (blkOk_by (own := [("queue", 11)]) (N := sc_Way_init_N) (sc := defScope s_Way_init) (by decide +kernel)) (fun _ _ _ _ _ => pg_name (i := 11) sc_Way_init.nd rfl (Or.inl rfl)) (fun _ _ _ _ _ => pts_nil) (fun _ _ _ _ _ => (pe_ix ix_lt (pv 11) pe_int (fun _ _ => rfl))) (fun _ _ _ _ _ => (pv 11)))) 
    (pss_cons (ps_set (i := 5) sc_Way_init.nd rfl (Or.inl rfl) (pe_lst pa_nil)) 
    (pss_cons (ps_set (i := 6) sc_Way_init.nd rfl (Or.inl rfl) (pe_lst (pa_cons (pv 2) pa_nil))) 
    (pss_cons (ps_set (i := 7) sc_Way_init.nd rfl (Or.inl rfl) (pe_lst pa_nil)) 
    (pss_cons (ps_forX (ps_for PassesOwn.never rfl (pi_enumT (by rfl) m_enumerate (pa_cons (pe_fld (pv 0) rfl) pa_nil)) (pg_tup rfl (pgs_cons (pg_name (i := 8) sc_Way_init.nd rfl (Or.inl rfl)) (pgs_cons (pg_name (i := 9) sc_Way_init.nd rfl (Or.inl rfl)) pgs_nil))) 
      (pss_cons (ps_if (pt_cmp (pc_dnotin hu (pv 9) (pv 4))) (pss_one ps_no) pss_nil) 
      (pss_cons (ps_set (i := 10) sc_Way_init.nd rfl (Or.inl rfl) (pe_call G_step_over hr (by rfl) g_step_over F_step_over.kp b_step_over .nil pass0 (pa_cons (pe_dget hu (pv 4) (pv 9) (fun _ _ => rfl)) (pa_cons (pe_ix ix_list (pv 6) (pe_un un_neg pe_int) (fun _ _ => rfl)) pa_nil)))) 
      (pss_cons (ps_if (pt_cmpR op_isN (pv 10) pe_non (nomark _)) (pss_one ps_no) pss_nil) 
      (pss_cons (ps_expr (pe_bm PySem.F.plainAttrs_list PySem.F.slot_list_append PySem.F.type_list_append mt_append (pv 5) (pa_cons (pe_ix ix_lt (pv 10) pe_int (fun _ _ => rfl)) pa_nil))) 
      (pss_cons (ps_expr (pe_bm PySem.F.plainAttrs_list PySem.F.slot_list_append PySem.F.type_list_append mt_append (pv 6) (pa_cons (pe_ix ix_lt (pv 10) pe_int (fun _ _ => rfl)) pa_nil))) 
      (pss_one (ps_expr (pe_bm PySem.F.plainAttrs_list PySem.F.slot_list_append PySem.F.type_list_append mt_append (pv 7) (pa_cons (pe_ix ix_lt (pv 10) pe_int (fun _ _ => rfl)) pa_nil))))))))))) 
    (pss_cons (ps_fld (pv 0) (pe_callTy call_tuple_of (by rfl) m_tuple (by decide +kernel) (pa_cons (pv 5) pa_nil)) rfl) 
    (pss_cons (ps_fld (pv 0) (pe_callTy call_tuple_of (by rfl) m_tuple (by decide +kernel) (pa_cons (pv 6) pa_nil)) rfl) 
    (pss_one (ps_fld (pv 0) (pe_callTy call_tuple_of (by rfl) m_tuple (by decide +kernel) (pa_cons (pv 7) pa_nil)) rfl)))))))))))), ?_⟩
    have I0 : ISt H0 C x dx H [] := ⟨fun a o ha => by
      rw [cutS_out (not1 fun z => by rw [z, hx0] at ha; cases ha)]
      exact s00 _ _ ha, hx⟩
    have fin : ∀ {Hx fs}, ISt H0 C x dx Hx fs → Same H0 Hx := fun i => i.s.trans cutS_le
    refine ⟨_, rfl, v, netD fb ws qs, [x], rfl, Trk.cons Trk.nil hx, I0.s.dp hD, okD_up (net_okD w6 q6), fun H1 v1 s1 d1 => ?_⟩
    rw [frz_net] at d1
    have I1 := I0.same s1
    refine ⟨_, rfl, x, C, dx, _, rfl, I1.hx, T_Way.cl, T_Way.n1, by show 0 < 1000; decide, ?_⟩
    rw [← cut1 (x := x) (o := .ins C dx (f1 v1))] at d1
    have I2 := I1.put (fs' := f1 v1)
    rw [show upd H1 x (.ins C dx (putF ("_net" : Str) v1 [])) = upd H1 x (.ins C dx (f1 v1)) from rfl]
    generalize upd H1 x (.ins C dx (f1 v1)) = H2 at I2 d1 ⊢
    clear I0 I1 s1 hx s00
    obtain ⟨qa, qx, rfl, hqs, hqx⟩ := Dp.seq_of hQv
    have eqx := dpa_strs_of hqx
    subst eqx
    dsimp only
    refine seq_byC (fun σ H4 => σ = [some (.ref x), some v, some (.str w), some (.ref qa), none, none, none, none, none, none, none, none] ∧ ∃ v2, ISt H0 C x dx H4 (f2 v1 v2) ∧ Dp K (cutS [x] H4) v1 (netD true ws qs) ∧ Dp K (cutS [x] H4) v2 (.tuple ((ms.map (nmQ qs)).map PyData.str))) (fun σ H4 hh => ?_) (fun D' hD' => ?_)
    rotate_left
    · have put2 : ∀ H3 v2, Same H2 H3 → Dp K (cutS [x] H3) v2 (.tuple ((ms.map (nmQ qs)).map PyData.str)) → D'.nx [some (.ref x), some v, some (.str w), some (.ref qa), none, none, none, none, none, none, none, none] (upd H3 x (.ins C dx (f2 v1 v2))) := fun H3 v2 s3 d2 => hD' _ _ ⟨rfl, v2, (I2.same s3).put, by rw [cut1]; exact (cutS_mono s3).dp d1, by rw [cut1]; exact d2⟩
      refine ⟨_, rfl, ?_⟩
      have last : ∀ H3 v2, Same H2 H3 → Dp K (cutS [x] H3) v2 (.tuple ((ms.map (nmQ qs)).map PyData.str)) → ∃ a C2 dx2 fs, (V.ref x) = .ref a ∧ H3 a = some (.ins C2 dx2 fs) ∧ Cls K C2 ∧ NoAttr K C2 ("_queues" : Str) ∧ fs.length < 1000 ∧ D'.nx [some (.ref x), some v, some (.str w), some (.ref qa), none, none, none, none, none, none, none, none] (upd H3 a (.ins C2 dx2 (putF "_queues" v2 fs))) := fun H3 v2 s3 d2 =>
        ⟨x, C, dx, _, rfl, (I2.same s3).hx, T_Way.cl, T_Way.n2, Nat.lt_of_le_of_lt (f5_len (v2 := v2) (v3 := v2) (v4 := v2) (v5 := v2)).1 (by decide), put2 H3 v2 s3 d2⟩
      cases fq with
      | false =>
        refine ⟨qa, _, rfl, .inl ⟨(fin I2).sqF hqs, fun l hl => ⟨_, rfl, last _ _ (.upd hl) ?_⟩⟩⟩
        exact .tup (sqt_of (cutS_at upd_same (not1 fun z => by rw [z, I2.hx] at hl; cases hl))) dpa_strs
      | true => exact ⟨qa, _, rfl, .inr ⟨(fin I2).sqF hqs, _, rfl, last _ _ (fun _ _ e => e) (.tup (I2.s.sqF hqs) dpa_strs)⟩⟩
    obtain ⟨rfl, v2, I4, d1, d2⟩ := hh
    clear I2 hqs hqx
    obtain ⟨qb, qy, rfl, hq2, hqy⟩ := Dp.seq_of (f := true) d2
    have e := dpa_strs_of hqy
    subst e
    have hq2 : SqT K (cutS [x] H4) qb _ := hq2
    clear hqy
    obtain ⟨a0, a1, a2, xq, rfl, N4⟩ := netAt d1
    have i1 : atI [V.ref a1, V.ref a2] 1 = some (.ref a2) := atI_nat (j := 1) rfl
    have fld1 : ∀ {Hx : Hp} {Q : VK}, Same H4 Hx → Q (.ref a0) Hx → tFld K (tVar 0) ("_net" : Str) [some (.ref x), some v, some (.str w), some (.ref qa), none, none, none, none, none, none, none, none] Hx Q := fun e q => ⟨_, rfl, x, C, dx, _, _, rfl, e _ _ I4.hx, T_Way.cl, T_Way.n1, f2_at.2.1, q⟩
    refine ⟨_, rfl, x, C, dx, _, _, rfl, I4.hx, T_Way.cl, T_Way.n1, f2_at.2.1, ?_⟩
    refine ⟨_, rfl, .ref a0, true, ws, qs, w, rfl, cutS_le.dp d1, hw, ?_⟩
    obtain ⟨als, rfl, hal⟩ := refs_of N4.ll N4.hq
    refine asg_of0 ?_
    refine dc_rows (K := K) (als := als) (qs := qs) hal (by omega) hG.nn (fun R' r => fld1 (fun _ _ e => e) (rIxF_at (cutS_le.sqF N4.h0) i1 r)) (cutS_le.sqF N4.h2) (fun i v h => by
      obtain ⟨q, a, e1, e2, e3⟩ := N4.hq i v h
      exact ⟨q, a, e1, e2, cutS_le.sqF e3⟩) (fun _ => rfl) (fun _ => rfl) (fun D H5 s5 hD0 hD5 => ?_)
    have I5 := I4.same s5
    have s45 := cutS_mono (S := [x]) s5
    replace d1 := s45.dp d1
    replace d2 := s45.dp d2
    replace hq2 := s45.sqT hq2
    have N5 := N4.same s45
    have nD : D ≠ x := fun z => by
      rw [z, I5.hx] at hD5
      cases hD5
    have hDc : cutS [x] H5 D = some (.dK (kvl (qs.map QD.nm) als)) := cutS_at hD5 (not1 nD)
    clear I4 N4 fld1 s45 s5 hD0 hD5
    dsimp only [List.set]
    walk_at "ev"
    intro ls hls
    walk_at "ev"
    intro lw hlw
    walk_at "ev"
    intro lc hlc
    have n1 : lw ≠ ls := fun z => by
      rw [z, upd_same] at hlw
      cases hlw
    have n2 : lc ≠ lw := fun z => by
      rw [z, upd_same] at hlc
      cases hlc
    rw [upd_ne n1] at hlw
    have n3 : lc ≠ ls := fun z => by
      rw [upd_ne n2, z, upd_same] at hlc
      cases hlc
    rw [upd_ne n2, upd_ne n3] at hlc
    have nx : ∀ a, H5 a = none → a ≠ x := fun a h z => by
      rw [z, I5.hx] at h
      cases h
    have w0 : WSI K H5 ls lw lc x qs (w :: us) ms 0 (upd (upd (upd H5 ls (.lst [])) lw (.lst [V.str w])) lc (.lst [])) [] := by
      have up : ∀ b o, H5 b = some o → (upd (upd (upd H5 ls (.lst [])) lw (.lst [V.str w])) lc (.lst [])) b = some o := fun b o h => by
        rw [upd_ne (ne_of_none h hlc), upd_ne (ne_of_none h hlw), upd_ne (ne_of_none h hls)]
        exact h
      refine ⟨?_, ?_, upd_same, .nil, fun b o h => ?_, fun o h => up x o h⟩
      · rw [upd_ne n3.symm, upd_ne n1.symm]
        exact upd_same
      · rw [upd_ne n2.symm]
        exact upd_same
      · obtain ⟨h1, h2⟩ := cutS_some h
        rw [cutS_out (fun z => ?_)]
        · exact up b o h2
        · rcases List.mem_cons.mp z with z | z
          · rw [z, hls] at h2
            cases h2
          · rcases List.mem_cons.mp z with z | z
            · rw [z, hlw] at h2
              cases h2
            · rcases List.mem_cons.mp z with z | z
              · rw [z, hlc] at h2
                cases h2
              · exact h1 z
    generalize upd (upd (upd H5 ls (.lst [])) lw (.lst [V.str w])) lc (.lst []) = H8 at w0 ⊢
    have hpl := path_len hp
    have xd : ∀ {i Hx sv}, WSI K H5 ls lw lc x qs (w :: us) ms i Hx sv → Hx x = some (.ins C dx (f2 (.ref a0) (.ref qb))) := fun wx => wx.xx _ I5.hx
    have up : ∀ {i Hx sv}, WSI K H5 ls lw lc x qs (w :: us) ms i Hx sv → Same (cutS [x] H5) Hx := fun wx => wx.sS.trans cutS_le
    have tr4 : ∀ {i Hx sv}, WSI K H5 ls lw lc x qs (w :: us) ms i Hx sv → Trk [ls, lw, lc, x] Hx := fun wx => Trk.cons (Trk.cons (Trk.cons (Trk.cons Trk.nil (xd wx)) wx.hc) wx.hw) wx.hs
    dsimp only [gName]
    refine seq_byC (fun σ Hz => ∃ (y8 y9 y10 : Option V) (sv : List V), σ = [some (.ref x), some v, some (.str w), some (.ref qa), some (.ref D), some (.ref ls), some (.ref lw), some (.ref lc), y8, y9, y10, none] ∧ WSI K H5 ls lw lc x qs (w :: us) ms ms.length Hz sv) (fun σ Hz hh => ?_) (fun D' hD' => ?_)
    rotate_left
    · refine for_of ?_
      refine ⟨_, rfl, x, C, dx, _, _, rfl, xd w0, T_Way.cl, T_Way.n2, f2_at.2.2, ?_⟩
      refine ⟨qb, _, rfl, (up w0).sqT hq2, ?_⟩
      refine forR_it (walk_enumT (K := K) (a := qb) (xs := (ms.map (nmQ qs)).map V.str)) (fun i σ Hc => ∃ (y8 y9 y10 : Option V) (sv : List V), σ = [some (.ref x), some v, some (.str w), some (.ref qa), some (.ref D), some (.ref ls), some (.ref lw), some (.ref lc), y8, y9, y10, none] ∧ WSI K H5 ls lw lc x qs (w :: us) ms i Hc sv) ⟨_, _, _, _, rfl, w0⟩ (fun i σ Hc _ hh => ?_) (fun i vv σ Hc Hc' hi hh y => ?_) (fun σ Hc hh => ?_)
      · obtain ⟨y8, y9, y10, sv, rfl, wx⟩ := hh
        exact (up wx).sqT hq2
      · obtain ⟨y8, y9, y10, sv, rfl, wx⟩ := hh
        obtain ⟨T, x1, x2, rfl, hTn, rfl, g1, g2⟩ := y
        cases g1
        rw [List.length_map, List.length_map] at hi
        have hm := List.getElem?_eq_getElem hi
        generalize ms[i] = m at hm
        have g2 : ((ms.map (nmQ qs)).map V.str)[i]? = some x2 := g2
        rw [List.getElem?_map, List.getElem?_map, hm] at g2
        cases g2
        obtain ⟨a, b, ha, hb, hlk⟩ := path_get hp hm
        obtain ⟨qd, hqd, hor, hnm, hmv⟩ := link_at hlk
        have hne := (hG.q1 qd (List.mem_of_getElem? hqd)).2.2
        replace hmv := hmv hne
        have sT : Same Hc (upd Hc T (.tup [.int (i : Nat), .str (nmQ qs m)])) := .upd hTn
        have hT1 : SqT K (upd Hc T (.tup [.int (i : Nat), .str (nmQ qs m)])) T [.int (i : Nat), .str (nmQ qs m)] := sqt_of upd_same
        replace wx := wx.same sT
        generalize upd Hc T (.tup [.int (i : Nat), .str (nmQ qs m)]) = Hd at wx hT1 ⊢
        refine ⟨T, _, rfl, hT1, rfl, _, _, rfl, _, _, rfl, rfl, ?_⟩
        have hDd : Hd D = some (.dK (kvl (qs.map QD.nm) als)) := up wx _ _ hDc
        have hal2 : als[m.1]? = some als[m.1]! := by
          have : m.1 < als.length := by rw [hal]; exact (List.getElem?_eq_some_iff.mp hqd).1
          rw [List.getElem?_eq_getElem this, getElem!_pos als m.1 this]
        generalize als[m.1]! = aq at hal2
        have dg : DGet Hd D (.str (nmQ qs m)) (some (.ref aq)) := by
          rw [hnm]
          exact dget_kvl hG.nn (by rw [List.getElem?_map, hqd]; rfl) hal2 hDd
        have hrow : SqT K (cutS [x] H5) aq [.str qd.nm, .str qd.st, .str qd.en, .int qd.room, .int qd.gap] := by
          obtain ⟨q', a', e1, e2, e3⟩ := N5.hq m.1 (.ref aq) (by rw [List.getElem?_map, hal2]; rfl)
          rw [hqd] at e1
          cases e1
          cases e2
          exact e3
        refine ⟨_, rfl, _, rfl, D, _, rfl, dg, ?_⟩
        refine ⟨_, rfl, iteF ?_⟩
        have hal3 : ((w :: us).take (i + 1)).length = i + 1 := by rw [List.length_take]; omega
        have hat : atI (((w :: us).take (i + 1)).map V.str) (-1) = some (.str a) := atI_end (by rw [List.length_map, hal3]; omega) (by rw [List.length_map, hal3, List.getElem?_map, List.getElem?_take_of_lt (by omega), show i + 1 - 1 = i by omega, ha]; rfl)
        refine ⟨_, rfl, _, rfl, D, _, rfl, dg, ?_⟩
        walk_at "ev"
        refine ⟨lw, _, _, _, rfl, rfl, sql_of wx.hw, hat, ?_⟩
        refine ⟨aq, true, qd.nm, qd.st, qd.en, qd.room, qd.gap, a, [ls, lw, lc, x], rfl, (up wx).sqT hrow, tr4 wx, hne, hor, fun H9 mv s9 d9 => ?_⟩
        rw [hmv] at d9
        obtain ⟨t, xt, rfl, hts, hta⟩ := Dp.seq_of (f := true) d9
        have hts : SqT K H9 t xt := cutS_le.sqT hts
        cases hta with
        | cons k1 hta =>
          cases hta with
          | cons k2 hta =>
            cases hta with
            | cons k3 hta =>
              cases hta
              cases k2
              cases k3
              have w9 := wx.same s9
              have lsv := dpa_len w9.ds
              rw [List.length_map, List.length_take] at lsv
              have hx3 : ls ≠ x ∧ lw ≠ x ∧ lc ≠ x := ⟨nx _ hls, nx _ hlw, nx _ hlc⟩
              walk_at "ev"
              refine ⟨.inl ⟨rfl, _, sql_of w9.hs⟩, ?_⟩
              refine ⟨_, rfl, rIxF_at (f := true) hts (atI_nat (j := 0) rfl) ?_⟩
              refine ⟨ls, _, _, rfl, rfl, w9.hs, szL (by omega), ?_⟩
              have na : ∀ {o : HO}, (upd H9 ls o) lw = some (.lst (((w :: us).take (i + 1)).map V.str)) := fun {o} => by rw [upd_ne n1]; exact w9.hw
              refine ⟨_, rfl, .inl ⟨rfl, _, sql_of na⟩, ?_⟩
              refine ⟨_, rfl, rIxF_at (f := true) (sqt_mut w9.hs hts) (atI_nat (j := 1) rfl) ?_⟩
              refine ⟨lw, _, _, rfl, rfl, na, szL (by rw [List.length_map, hal3]; omega), ?_⟩
              have nb : ∀ {o o' : HO}, (upd (upd H9 ls o) lw o') lc = some (.lst (((ms.take i).map (prQ qs)).map V.int)) := fun {o o'} => by rw [upd_ne n2, upd_ne n3]; exact w9.hc
              refine ⟨_, rfl, .inl ⟨rfl, _, sql_of nb⟩, ?_⟩
              refine ⟨_, rfl, rIxF_at (f := true) (sqt_mut na (sqt_mut w9.hs hts)) (atI_nat (j := 2) rfl) ?_⟩
              refine ⟨lc, _, _, rfl, rfl, nb, szL (by rw [List.length_map, List.length_map, List.length_take]; omega), ?_⟩
              exact ⟨_, _, _, _, rfl, w9.next n1 n2 n3 hx3 hm hb k1⟩
      · obtain ⟨y8, y9, y10, sv, rfl, wx⟩ := hh
        rw [List.length_map, List.length_map] at wx
        exact hD' _ _ ⟨_, _, _, sv, rfl, wx⟩
    obtain ⟨y8, y9, y10, sv, rfl, wx⟩ := hh
    have hxx := xd wx
    refine ⟨_, rfl, ls, _, rfl, .inl ⟨sql_of wx.hs, fun p1 hp1 => ?_⟩⟩
    have wy := wx.same (.upd (o := .tup sv) hp1)
    have e1 : (upd Hz p1 (.tup sv)) p1 = some (.tup sv) := upd_same
    have d3 : DpAll K (cutS [ls, lw, lc, x] (upd Hz p1 (.tup sv))) sv ((ms.take ms.length).map (stD qs)) := wy.ds
    have c1 : cutS [ls, lw, lc, x] (upd Hz p1 (.tup sv)) p1 = some (.tup sv) := cutS_new (tr4 wx) hp1
    generalize upd Hz p1 (.tup sv) = Ha at wy e1 d3 c1 ⊢
    have lx : lw ≠ x ∧ lc ≠ x := ⟨nx _ hlw, nx _ hlc⟩
    have cu : ∀ {H : Hp} {o : HO}, cutS [ls, lw, lc, x] (upd H x o) = cutS [ls, lw, lc, x] H := cutS_upd (by simp)
    refine ⟨_, rfl, x, C, dx, _, rfl, xd wy, T_Way.cl, T_Way.n3, Nat.lt_of_le_of_lt (f5_len (v3 := V.non) (v4 := V.non) (v5 := V.non)).2.1 (by decide), ?_⟩
    have b1 : ∀ {o : HO}, (upd Ha x o) lw = some (.lst (((w :: us).take (ms.length + 1)).map V.str)) := fun {o} => by rw [upd_ne lx.1]; exact wy.hw
    have b2 : ∀ {o : HO}, (upd Ha x o) lc = some (.lst (((ms.take ms.length).map (prQ qs)).map V.int)) := fun {o} => by rw [upd_ne lx.2]; exact wy.hc
    have b3 : (upd Ha x (.ins C dx (f3 (.ref a0) (.ref qb) (.ref p1)))) x = some (.ins C dx (f3 (.ref a0) (.ref qb) (.ref p1))) := upd_same
    have b1 := b1 (o := .ins C dx (f3 (.ref a0) (.ref qb) (.ref p1)))
    have b2 := b2 (o := .ins C dx (f3 (.ref a0) (.ref qb) (.ref p1)))
    have b4 := wy.sS
    rw [← cu (o := .ins C dx (f3 (.ref a0) (.ref qb) (.ref p1)))] at b4 d3 c1
    have b5 : Trk [ls, lw, lc, x] (upd Ha x (.ins C dx (f3 (.ref a0) (.ref qb) (.ref p1)))) := (tr4 wy).upd
    rw [show upd Ha x (.ins C dx (putF ("_steps" : Str) (V.ref p1) (f2 (.ref a0) (.ref qb)))) = upd Ha x (.ins C dx (f3 (.ref a0) (.ref qb) (.ref p1))) from rfl]
    generalize upd Ha x (.ins C dx (f3 (.ref a0) (.ref qb) (.ref p1))) = Hb at b1 b2 b3 b4 b5 d3 c1 ⊢
    refine ⟨_, rfl, lw, _, rfl, .inl ⟨sql_of b1, fun p2 hp2 => ?_⟩⟩
    have eW : (w :: us).take (ms.length + 1) = w :: us := List.take_of_length_le (by omega)
    rw [eW]
    have s2 : Same Hb (upd Hb p2 (.tup ((w :: us).map V.str))) := .upd hp2
    have c2 : cutS [ls, lw, lc, x] (upd Hb p2 (.tup ((w :: us).map V.str))) p2 = some (.tup ((w :: us).map V.str)) := cutS_new b5 hp2
    generalize upd Hb p2 (.tup ((w :: us).map V.str)) = Hc at s2 c2 ⊢
    have s2c := cutS_mono (S := [ls, lw, lc, x]) s2
    refine ⟨_, rfl, x, C, dx, _, rfl, s2 _ _ b3, T_Way.cl, T_Way.n4, Nat.lt_of_le_of_lt (f5_len (v4 := V.non) (v5 := V.non)).2.2.1 (by decide), ?_⟩
    rw [show upd Hc x (.ins C dx (putF ("_workers" : Str) (V.ref p2) (f3 (.ref a0) (.ref qb) (.ref p1)))) = upd Hc x (.ins C dx (f4 (.ref a0) (.ref qb) (.ref p1) (.ref p2))) from rfl]
    have h2 : (upd Hc x (.ins C dx (f4 (.ref a0) (.ref qb) (.ref p1) (.ref p2)))) lc = _ := (upd_ne lx.2).trans (s2 _ _ b2)
    have h3 : (upd Hc x (.ins C dx (f4 (.ref a0) (.ref qb) (.ref p1) (.ref p2)))) x = some (.ins C dx (f4 (.ref a0) (.ref qb) (.ref p1) (.ref p2))) := upd_same
    have h5 : Trk [ls, lw, lc, x] (upd Hc x (.ins C dx (f4 (.ref a0) (.ref qb) (.ref p1) (.ref p2)))) := (b5.mono s2).upd
    rw [← cu (o := .ins C dx (f4 (.ref a0) (.ref qb) (.ref p1) (.ref p2)))] at c2
    replace s2c : Same (cutS [ls, lw, lc, x] Hb) (cutS [ls, lw, lc, x] (upd Hc x (.ins C dx (f4 (.ref a0) (.ref qb) (.ref p1) (.ref p2))))) := by
      rw [cu]
      exact s2c
    generalize upd Hc x (.ins C dx (f4 (.ref a0) (.ref qb) (.ref p1) (.ref p2))) = Hd at h2 h3 h5 c2 s2c ⊢
    refine ⟨_, rfl, lc, _, rfl, .inl ⟨sql_of h2, fun p3 hp3 => ?_⟩⟩
    rw [List.take_length]
    have s3 : Same Hd (upd Hd p3 (.tup ((ms.map (prQ qs)).map V.int))) := .upd hp3
    have c3 : cutS [ls, lw, lc, x] (upd Hd p3 (.tup ((ms.map (prQ qs)).map V.int))) p3 = some (.tup ((ms.map (prQ qs)).map V.int)) := cutS_new h5 hp3
    generalize upd Hd p3 (.tup ((ms.map (prQ qs)).map V.int)) = He at s3 c3 ⊢
    have s3c := cutS_mono (S := [ls, lw, lc, x]) s3
    refine ⟨_, rfl, x, C, dx, _, rfl, s3 _ _ h3, T_Way.cl, T_Way.n5, Nat.lt_of_le_of_lt (f5_len (v5 := V.non)).2.2.2.1 (by decide), ?_⟩
    rw [show upd He x (.ins C dx (putF ("_costs" : Str) (V.ref p3) (f4 (.ref a0) (.ref qb) (.ref p1) (.ref p2)))) = upd He x (.ins C dx (f5 (.ref a0) (.ref qb) (.ref p1) (.ref p2) (.ref p3))) from rfl]
    have k3 : (upd He x (.ins C dx (f5 (.ref a0) (.ref qb) (.ref p1) (.ref p2) (.ref p3)))) x = some (.ins C dx (f5 (.ref a0) (.ref qb) (.ref p1) (.ref p2) (.ref p3))) := upd_same
    rw [← cu (o := .ins C dx (f5 (.ref a0) (.ref qb) (.ref p1) (.ref p2) (.ref p3)))] at c3
    replace s3c : Same (cutS [ls, lw, lc, x] Hd) (cutS [ls, lw, lc, x] (upd He x (.ins C dx (f5 (.ref a0) (.ref qb) (.ref p1) (.ref p2) (.ref p3))))) := by
      rw [cu]
      exact s3c
    generalize upd He x (.ins C dx (f5 (.ref a0) (.ref qb) (.ref p1) (.ref p2) (.ref p3))) = Hf at k3 c3 s3c ⊢
    have sbd := s2c.trans s3c
    have sxf : Same (cutS [x] H5) Hf := (b4.trans sbd).trans cutS_le
    rw [List.take_length] at d3
    refine q Hf (fun a o h => sxf _ _ (I5.s _ _ h)) ⟨dx, _, _, _, _, _, k3, sxf.dp d1, sxf.dp d2, ?_, ?_, ?_⟩
    · exact .tup (sqt_of (cutS_le _ _ (sbd _ _ c1))) (cutS_le.dpa (sbd.dpa d3))
    · exact .tup (sqt_of (cutS_le _ _ (s3c _ _ c2))) dpa_strs
    · exact .tup (sqt_of (cutS_le _ _ c3)) (by
        have : ∀ (H : Hp) (is : List Int), DpAll K H (is.map V.int) (is.map PyData.int) := fun H is => by
          induction is with
          | nil => exact .nil
          | cons i is ih => exact .cons (.int i) ih
        exact this _ _)
end
end Jl

set_option linter.all false
set_option maxRecDepth 100000
set_option maxHeartbeats 1000000
set_option pp.maxSteps 900
namespace Jl
open PySem PySem.Spec PyProof.Rows L2
open Evl (sz_of sz_lt)
set_option maxHeartbeats 4000000 in
theorem call_setDT {prog : Program} {w : World} {A : Around} {E : Value → Shared → Prop} {s : Shared} {l : Addr} {items : Array Value} {xs : List Str} {Q : Value → Shared → Prop} (hh : A.handled = none) (hl : s.heap.IsTuple l items) (hx : xs.length = items.size) (hP : ∀ (i : Nat) (v : Value), items[i]? = some v → ∃ t, v = Value.str (xs.getD i Str.empty) t) (hb : items.size + 1 < scanBound)
    (q : ∀ (h' : Heap) (tk : Nat), Heap.SetOf (PySem.strKind prog w) h' s.heap.objs.size (fun k' => decide (k' ∈ dedS xs)) (dedS xs).length → (∀ (b : Nat) (o : Obj), b < s.heap.objs.size → s.heap.get? b = some o → h'.get? b = some o) → Q (Value.ref s.heap.objs.size) { s with heap := h', toks := tk }) :
    wpAny (model prog w) A (call (Value.type "set") [Value.ref l]) Q E s := by
  have ⟨_, _, m1⟩ := PySem.F.called_set.mro
  have m2 := PySem.F.called_set.made
  have m3 := PySem.F.called_set.sub
  have m4 := PySem.F.called_set.notType
  have m5 := PySem.F.called_set.canCreate
  have m6 := PySem.F.typeCall_set_1 (Value.ref l)
  refine wpAny_call <| codeAny_of_tree ?_
  show wpAny _ _ (callAny (Value.type "set") _) _ _ _
  refine wpAny_pure ⟨by exact Code.quiet_builtin _ (by decide +kernel), ?_⟩
  refine codeAny_builtin PySem.F.entry_type_call ?_
  rw [Around.under_plain (by exact weight_type_call_type "set" [Value.ref l] []) rfl]
  repeat any_goals first | assumption | wp_step
  refine codeAny_mono (code_set_new_1 (E := E) (Value.ref l) (Q₁ := fun y z => ∃ led : Bool, y = Value.ref s.heap.objs.size ∧ z = { s with heap := s.heap.push { cls := Value.type "set", data := Data.set #[] 0 (SetTable.fresh 0 0 led) } }) fun led => ⟨led, by rfl, by rfl⟩) fun r z hr => ?_
  match r, hr with
  | .error e, hr => exact hr
  | .ok (.ret y), hr =>
    obtain ⟨led, e1, e2⟩ := hr
    subst e1
    subst e2
    generalize ho : ({ cls := Value.type "set", data := Data.set #[] 0 (SetTable.fresh 0 0 led) } : Obj) = so
    have g0 : (s.heap.push so).get? s.heap.objs.size = some so := Heap.get?_push_size _ (by rw [← ho]; rfl)
    have hT : Shared.TypeIs { s with heap := s.heap.push so } (Value.ref s.heap.objs.size) "set" := ⟨so, g0, by rw [← ho]⟩
    have n1 := PySem.F.called_set.init.lookup
    have n2 := PySem.F.called_set.init.bind (Value.ref s.heap.objs.size)
    repeat any_goals first | assumption | wp_step
    refine codeAny_mono (codeAny_call_builtin (R := wants (fun y z => y = Value.none ∧ ∃ h' tk, z = { s with heap := h', toks := tk } ∧ Heap.SetOf (PySem.strKind prog w) h' s.heap.objs.size (fun k' => decide (k' ∈ dedS xs)) (dedS xs).length ∧ ∀ (b : Nat) (o : Obj), b < s.heap.objs.size → s.heap.get? b = some o → h'.get? b = some o) E) PySem.F.called_set.init.plain PySem.F.entry_set_init (check_set_init_1 hT ?_)) fun r z hr => ?_
    · have ⟨ol, o1, o2, nl, o3⟩ := hl
      match ol, o1, o2, o3 with
      | ⟨_, od, _, os⟩, o1, rfl, rfl =>
        have o4 := Heap.get?_push_of_some so o1
        have k1 := PySem.F.sub_tuple_set
        have k2 := PySem.F.sub_tuple_frozenset
        have k3 : (Value.type "tuple" == Value.type "dict") = false := by decide
        have hl1 : (s.heap.push so).IsTuple l items := ⟨_, o4, rfl, nl, rfl⟩
        subst ho
        unfold Builtin.«set.__init__» noKeywords Builtin.Frozenset.updateFrom
        generalize hit : pyIter = it
        wp_walk
        subst hit
        refine wpAny_pyIter_tuple hl1 ?_
        refine wpAny_bind <| wpAny_runValue ?_
        have lt1 : l < s.heap.objs.size := Heap.lt_size o1
        have sz1 : ∀ so, Array.size (Heap.objs (s.heap.push so)) = s.heap.objs.size + 1 := fun _ => Heap.size_push _ _
        have hne1 : ∀ so, l ≠ Array.size (Heap.objs (s.heap.push so)) := fun so => by rw [sz1]; exact Nat.ne_of_lt (Nat.lt_succ_of_lt lt1)
        have hin3 : A.in1.in1.in1.handled = none := by simp [hh]
        have hnf : ∀ so, s.heap.objs.size ∉ [Array.size (Heap.objs (s.heap.push so)), l] := by
          intro so z
          rw [sz1] at z
          rcases List.mem_cons.mp z with z | z
          · exact absurd z (Nat.ne_of_lt (Nat.lt_succ_self _))
          · rcases List.mem_cons.mp z with z | z
            · exact absurd z (Nat.ne_of_gt lt1)
            · cases z
        refine loopStrD (Walks.tuple hin3 _ l (hne1 _) items).toS s.heap.objs.size (hnf _) xs hx hb (fun i v z => hP i v z) (items.size - 0) 0 _ (by omega) (Nat.zero_le _) ⟨⟨_, Heap.get?_push_size _ rfl, rfl, rfl⟩, hl1.push _⟩ ?_ ?_
        · have g1 := Heap.get?_push_of_some { cls := Value.type "tuple_iterator", data := Data.fields #[Value.ref l, Value.int 0 0] } g0
          exact PyProof.Rows.SetOf_congr ((PyProof.Rows.setObjOf_fresh (knd := PySem.strKind prog w) led).setOf g1 (by unfold scanBound; omega)) (fun _ => rfl) rfl
        · rintro ⟨h', g', d', tk', os'⟩ hm hS
          have eg : g' = s.gens := hm.gens
          have ed : d' = s.drawn := hm.drawn
          have eo : os' = s.os := hm.os
          subst eg
          subst ed
          subst eo
          show wpAny _ _ _ _ _ _
          refine wpAny_pure ?_
          show wpAny _ _ (ret Value.none) _ _ _
          refine wpAny_pure ⟨rfl, h', tk', rfl, hS, fun b o lt e => ?_⟩
          refine hm.heap b o (fun z => ?_) (Heap.get?_push_of_some _ (Heap.get?_push_of_some _ e))
          rw [sz1] at z
          rcases List.mem_cons.mp z with z | z
          · exact absurd z (Nat.ne_of_lt lt)
          · rcases List.mem_cons.mp z with z | z
            · exact absurd z (Nat.ne_of_lt (Nat.lt_succ_of_lt lt))
            · cases z
    · match r, hr with
      | .error e, hr => exact hr
      | .ok (.ret y), hr =>
        obtain ⟨rfl, h', tk, rfl, hS, hk⟩ := hr
        repeat any_goals first | assumption | wp_step
        exact q h' tk hS hk

/-- how many different texts a tuple has -/
def tLenSetT (K : PySem.W.Frag) (ta : TE) : TE := fun σ H Q => ta σ H fun x H1 => ∃ (l : Addr) (ys : List Str), x = .ref l ∧ SqT K H1 l (ys.map V.str) ∧ ys.length ≤ 4000 ∧ Q (.int ((dedS ys).length : Nat)) H1
theorem pe_lenSetT {X : Cx} {a : Expr} {ta : TE} {p p2 q pos : Pos} (hg : Gl X "len") (hm : X.mg "len" = none) (hg2 : Gl X "set") (hm2 : X.mg "set" = none) (ha : PE X a ta) (hc : X.calm = true := by rfl)
    (na : starEach [a] X.env = (false, eval a X.env) :: starEach [] X.env := by rfl) : PE X (.Call (.Name "len" p) [.Call (.Name "set" p2) [a] [] q] [] pos) (tLenSetT X.K ta) := by
  constructor
  intro pins s σ H Q I hQ
  refine Call_ <| ld_blt I hg hm boot_len ?_
  refine callWith_builtin1 (args_cons ?_ rfl) rfl rfl
  refine Call_ <| ld_blt I hg2 hm2 boot_set ?_
  refine callWith_type1 (args_cons (thn (ha.run pins s σ H _ I hQ) ?_) na) na rfl
  rintro v s1 ⟨x, H1, I1, r1, l, ys, rfl, hq, hsz, q1⟩
  refine args_nil ?_
  cases r1
  have ⟨its, r, pl, _⟩ := I1.tuple hq
  have hlen : its.toArray.size = ys.length := by rw [List.size_toArray, ← r.length, List.length_map]
  refine call_setDT (I1.ok.hd hc) pl hlen.symm (fun i v e => strs_of_vals r i v (by simpa using e)) (by rw [hlen]; unfold scanBound; omega) ?_
  intro h' tk hS hk
  refine args_nil ?_
  have ⟨o, es, ep, t, ho, hex, hd, _, _, _, hf, hn⟩ := hS
  have I2 : L2.Inv X pins σ H1 { s1 with heap := h', toks := tk } := I1.kept fun b o e => hk b o (Heap.lt_size e) e
  have := dedS_len ys
  exact call_len_set ho hex hd hf (by rw [hn]; omega) ⟨.int (dedS ys).length, H1, I2.tok _, ⟨_, by rw [hn]⟩, q1⟩
section
open HT
variable {prog : Program} {w : World} {A : Around} {E : Value → Shared → Prop} {s : Shared}
theorem places_rev (n : Nat) : Builtin.Slice.slicePlaces ((n : Int) - 1) (-1) (-1) = n := by
  unfold Builtin.Slice.slicePlaces
  rw [if_neg (by decide)]
  by_cases h : (n : Int) - 1 > -1
  · rw [if_pos h, show (-(-1) : Int) = 1 from rfl, Int.ediv_one]
    omega
  · rw [if_neg h]
    omega
theorem sliceApplied_rev {sl : Addr} {vs : Value} {n : Nat} {Q : Int × Int × Nat → Shared → Prop} (hs : s.heap.IsSliceOf sl .none .none vs) (ps : IsPart vs (some (-1)))
    (h : Q ((n : Int) - 1, -1, n) s) : wpAny (model prog w) A (Builtin.Slice.sliceApplied (.ref sl) (pure (n : Int))) Q E s := by
  obtain ⟨os, hos, hcs, hds⟩ := id hs
  unfold Builtin.Slice.sliceApplied Builtin.Slice.sliceFields
  refine wpAny_bind (wpAny_bind (wpAny_field hos hds (x := .none) rfl (wpAny_bind (wpAny_field hos hds (x := .none) rfl (wpAny_bind (wpAny_field hos hds (x := vs) rfl (wpAny_pure ?_)))))))
  refine wpAny_bind (slicePart_ ps ?_)
  show wpAny _ _ (if ((-1 : Int) == 0) = true then _ else _) _ _ s
  rw [if_neg (by decide)]
  refine wpAny_bind (slicePart_none (wpAny_bind (slicePart_none (wpAny_bind (wpAny_pure ?_)))))
  show wpAny _ _ (pure ((n : Int) - 1, (-1 : Int), Builtin.Slice.slicePlaces ((n : Int) - 1) (-1) (-1))) _ _ s
  rw [places_rev]
  exact wpAny_pure h
theorem pick_rev (xs : Array Value) : ((List.range xs.size).filterMap fun (m : Nat) => xs[(((xs.size : Nat) : Int) - 1 + (m : Int) * (-1)).toNat]?).toArray = xs.toList.reverse.toArray := by
  congr 1
  have e : (fun (m : Nat) => xs[(((xs.size : Nat) : Int) - 1 + (m : Int) * (-1)).toNat]?) = (fun (i : Nat) => xs[i]?) ∘ fun (m : Nat) => (((xs.size : Nat) : Int) - 1 + (m : Int) * (-1)).toNat := rfl
  rw [e, ← List.filterMap_map]
  have e2 : (List.range xs.size).map (fun (m : Nat) => (((xs.size : Nat) : Int) - 1 + (m : Int) * (-1)).toNat) = (List.range xs.size).map fun k => xs.size - 1 - k := List.map_congr_left fun k hk => by omega
  rw [e2]
  have e3 := PySem.W.krv_range xs.size
  rw [e3, List.filterMap_reverse, PySem.W.krv_all]
theorem getItem_tuple_rev {t sl : Addr} {items : Array Value} {vs : Value} {Q : Value → Shared → Prop} (ht : IsTup s.heap t items) (hs : s.heap.IsSliceOf sl .none .none vs) (ps : IsPart vs (some (-1)))
    (h : Q (.ref s.heap.objs.size) { s with heap := s.heap.push { cls := .type "tuple", data := .seq items.toList.reverse.toArray } })
    (hsz : items.size ≤ sizeLine) : wpAny (model prog w) A (getItem (.ref t) (.ref sl)) Q E s := by
  have htake : sizeOk (.seq items.toList.reverse.toArray) := by
    show items.toList.reverse.toArray.size ≤ sizeLine
    rw [List.size_toArray, List.length_reverse, Array.length_toList]
    exact hsz
  obtain ⟨os, hos, hcs, hds⟩ := id hs
  have hTs : s.TypeIs (.ref sl) "slice" := ⟨os, hos, hcs⟩
  unfold getItem
  try with_reducible refine wpAny_holding ?_
  first | refine wpAny_bind (wpAny_pure ?_) | skip
  refine wpAny_bind (wpAny_sequenceKey ht.typeIs (by decide) ?_)
  refine wpAny_bind (wpAny_callSpecial?_slot (name := Str.ofString "__getitem__") ht.typeIs PyProof.Rows.slot_tuple_getitem
    (wpAny_call_entry PyProof.Rows.slot_tuple_getitem ht.typeIs entry_tuple_getitem ?_ (args_tuple_getitem _ _)))
  show wpAny _ _ (Builtin.Tuple.tupleItemsOf (.ref t) >>= _) _ _ s
  refine wpAny_bind (tupleItemsOf_ ht ?_)
  refine wpAny_bind (wpAny_typeOf hTs ?_)
  rw [if_pos (by decide)]
  refine wpAny_bind (sliceApplied_rev hs ps ?_)
  have hno : ¬ (((((items.size : Nat) : Int) - 1) == 0 && (-1 : Int) == 1 && items.size == items.size) = true) := by
    intro q
    rw [Bool.and_eq_true, Bool.and_eq_true] at q
    exact absurd q.1.2 (by decide)
  show wpAny _ _ (if ((((items.size : Nat) : Int) - 1) == 0 && (-1 : Int) == 1 && items.size == items.size) = true then _ else _) _ _ s
  rw [if_neg hno, pick_rev]
  first
    | exact wpAny_bind (m := Builtin.Tuple.tupleExact _) (wpAny_newObj_type (wpAny_pure ⟨_, rfl, wpAny_pure h⟩) htake)
    | exact wpAny_bind (m := Builtin.Tuple.tupleExact _) (wpAny_newObj_type (wpAny_bind (wpAny_pure (wpAny_pure ⟨_, rfl, wpAny_pure h⟩))) htake)
    | exact wpAny_bind (wpAny_bind (m := Builtin.Tuple.tupleExact _) (wpAny_newObj_type (wpAny_pure (wpAny_pure ⟨_, rfl, wpAny_pure h⟩)) htake))
    | exact wpAny_bind (wpAny_bind (m := Builtin.Tuple.tupleExact _) (wpAny_newObj_type (wpAny_pure ⟨_, rfl, wpAny_pure h⟩) htake))
end
section
variable {X : Cx}
def tRevT (K : PySem.W.Frag) (te : TE) : TE := fun σ H Q => te σ H fun x H1 => ∃ a xs, x = .ref a ∧ SqT K H1 a xs ∧ ∀ p, H1 p = none → Q (.ref p) (upd H1 p (.tup xs.reverse))
theorem pe_revT {e : Expr} {te : TE} {k : Nat} {p1 p2 p3 pos : Pos} (he : PE X e te) : PE X (.Subscript e (.Slice none none (some (.UnaryOp .USub (.Constant (.int 1) k p1) p2)) p3) pos) (tRevT X.K te) := by
  refine ⟨fun pins s σ H Q I h => ?_⟩
  refine Subscript_ (thn (he.run pins s σ H _ I h) fun v s1 ⟨x, H1, I1, r1, q1⟩ => ?_)
  obtain ⟨a, xs, ex, hx, q⟩ := q1
  subst ex
  cases r1
  have hst : PO X (some (.UnaryOp .USub (.Constant (.int 1) k p1) p2)) (tPart (tUn (rU fun i => .int (-i)) (tC (.int 1)))) := po_some (pe_un un_neg pe_int)
  refine wpAny_Slice (thn (po_none.run pins s1 σ H1 (fun o H2 => o = none ∧ H2 = H1) I1 ⟨rfl, rfl⟩) fun vl s2 ⟨l, H2, I2, pl, el, e2⟩ => ?_)
  subst el e2
  refine thn (po_none.run pins s2 σ H2 (fun o H3 => o = none ∧ H3 = H2) I2 ⟨rfl, rfl⟩) fun vu s3 ⟨u, H3, I3, pu, eu, e3⟩ => ?_
  subst eu e3
  refine thn (hst.run pins s3 σ H3 (fun o H4 => o = some (-1) ∧ H4 = H3) I3 ⟨1, rfl, -1, rfl, rfl, rfl⟩) fun vs s4 ⟨o, H4, I4, ps, eo, e4⟩ => ?_
  subst eo e4
  cases pl
  cases pu
  have I5 : L2.Inv X pins σ H4 { s4 with heap := s4.heap.push { cls := .type "slice", data := .fields #[.none, .none, vs] } } := I4.kept (t' := s4.toks) fun b ob q => Heap.get?_push_of_some _ q
  obtain ⟨its, r, ht, hz⟩ := I5.tuple hx
  have hlen := r.length
  show wpAny (model X.prog X.w) X.A (subscriptTail e (.Slice none none (some (.UnaryOp .USub (.Constant (.int 1) k p1) p2)) p3) (.ref a) (.ref s4.heap.objs.size)) (EP X pins σ Q) X.xe { s4 with heap := s4.heap.push { cls := .type "slice", data := .fields #[.none, .none, vs] } }
  refine tail_any (ops := [.ref a, .ref s4.heap.objs.size]) ht.typeIs PyProof.Rows.slot_tuple_getitem.lookup ?_ (by with_unfolding_all rfl)
  refine getItem_tuple_rev ht (Heap.IsSliceOf.new _ .none .none vs) ps ?_ (by rw [List.size_toArray]; omega)
  refine ⟨.ref _, _, I5.laid (t' := s4.toks) (o := .tup xs.reverse) (fun b ob q => Heap.get?_push_of_some _ q) (Nat.le_refl _) ?_, rfl, q _ (I5.hok.fresh (Nat.le_refl _))⟩
  exact ⟨by rw [List.length_reverse]; exact hz, _, r.reverse, IsTup.new _ _⟩
end
/-! ### operators that an own class defines -/
section
variable {X : Cx} {CX : CXT} {C f : Addr} {fd : FuncData} {ps : List Str} {k : Nat} {sp : Sp}
/-- x op y, both of the class at C -/
def rOwn (C : Addr) (sp : Sp) : R2 := fun x y H Q => ∃ (a dx : Addr) (fs : List (Str × V)) (b dy : Addr) (gs : List (Str × V)), x = .ref a ∧ y = .ref b ∧ H a = some (.ins C dx fs) ∧ H b = some (.ins C dy gs) ∧ sp [x, y] H (fun v H' => (∃ c, v = .ref c) ∧ Q v H') E0
def rOwnI (C : Addr) (sp : Sp) : R2 := fun x y H Q => ∃ (a dx : Addr) (fs : List (Str × V)) (i : Int), x = .ref a ∧ y = .int i ∧ H a = some (.ins C dx fs) ∧ sp [x, y] H (fun v H' => (∃ c, v = .ref c) ∧ Q v H') E0
def rOwn1 (C : Addr) (sp : Sp) : V → Hp → VK → Prop := fun x H Q => ∃ (a dx : Addr) (fs : List (Str × V)), x = .ref a ∧ H a = some (.ins C dx fs) ∧ sp [x] H Q E0
theorem back_ref {pins : List (Addr × Obj)} {σ : L2.St} {Q : VK} {v : Value} {s : Shared} (h : EP X pins σ (fun v H' => (∃ c, v = .ref c) ∧ Q v H') v s) : PySem.W.CmpBack (EP X pins σ Q) v s := by
  obtain ⟨z, H', I', rz, ⟨c, rfl⟩, q⟩ := h
  obtain rfl : v = Value.ref c := rz
  exact ⟨.ref c, H', I', rfl, q⟩
theorem op_own {op : Operator} (F : FnOk X.prog X.w X.K X.mg X.base CX k f fd ps sp) (hr : Room k X.A) (hs : Meth X.K C (PySem.dunder op.info.2) f) (hc : PySem.W.selfFirst X.K C = true) (hb : Binds X.K fd ps []) (hx : Passes CX X E0) : OpR X (binaryOp op) (rOwn C sp) := by
  intro pins s σ H x y v u Q I rx ry h
  obtain ⟨a, dx, fs, b, dy, gs, rfl, rfl, ha, hb', q⟩ := h
  cases rx
  cases ry
  obtain ⟨mA, J, _⟩ := ins_get I.hok ha
  obtain ⟨mB, J', _⟩ := ins_get I.hok hb'
  obtain ⟨od, J, _⟩ := J.look
  obtain ⟨od', J', _⟩ := J'.look
  obtain ⟨m, hF⟩ := I.fr
  refine PySem.W.binop_K (op := op) hF I.ok.mod.kin J J'.type hc hs.at_ hs.fn ?_
  exact wpAny_mono (run_fn (us := [.ref a, .ref b]) (vs := [.ref a, .ref b]) F hr hb .nil hx I (.cons rfl (.cons rfl .nil)) q) (fun _ _ z => back_ref z) fun _ _ z => z
theorem op_ownI {op : Operator} {fo ro : Option Value} (F : FnOk X.prog X.w X.K X.mg X.base CX k f fd ps sp) (hr : Room k X.A) (hs : Meth X.K C (PySem.dunder op.info.2) f) (hc : PySem.W.selfFirst X.K C = true) (hrc : PySem.W.findIn X.K (.ref C) (dunderR op.info.2) = some none)
    (h1 : PySem.W.findIn X.K (.type "int") (PySem.dunder op.info.2) = some fo) (h2 : PySem.W.findIn X.K (.type "int") (dunderR op.info.2) = some ro) (hsub : PySem.W.subIn X.K (.type "int") (.ref C) = some false) (hb : Binds X.K fd ps []) (hx : Passes CX X E0) : OpR X (binaryOp op) (rOwnI C sp) := by
  intro pins s σ H x y v u Q I rx ry h
  obtain ⟨a, dx, fs, i, rfl, rfl, ha, q⟩ := h
  cases rx
  obtain ⟨t, rfl⟩ := ry
  obtain ⟨mA, J, _⟩ := ins_get I.hok ha
  obtain ⟨od, J, _⟩ := J.look
  obtain ⟨m, hF⟩ := I.fr
  refine PySem.W.ksp_binT (op := op) (T := "int") hF I.ok.mod.kin J rfl hc hs.at_ hs.fn hrc (.inl rfl) h1 h2 hsub ?_
  exact wpAny_mono (run_fn (us := [.ref a, .int i t]) (vs := [.ref a, .int i]) F hr hb .nil hx I (.cons rfl (.cons ⟨t, rfl⟩ .nil)) q) (fun _ _ z => back_ref z) fun _ _ z => z
theorem un_own (F : FnOk X.prog X.w X.K X.mg X.base CX k f fd ps sp) (hr : Room k X.A) (hs : Meth X.K C "__neg__" f) (hb : Binds X.K fd ps []) (hx : Passes CX X E0) : UnR X (unaryOp .USub) (rOwn1 C sp) := by
  intro pins s σ H x v Q I rx h
  obtain ⟨a, dx, fs, rfl, ha, q⟩ := h
  cases rx
  obtain ⟨mA, J, _⟩ := ins_get I.hok ha
  obtain ⟨od, J, _⟩ := J.look
  obtain ⟨m, hF⟩ := I.fr
  refine PySem.W.ksp_neg hF I.ok.mod.kin J hs.at_ hs.fn ?_
  exact run_fn (us := [.ref a]) (vs := [.ref a]) F hr hb .nil hx I (.cons rfl .nil) q
end
end Jl

set_option linter.all false
set_option maxRecDepth 100000
set_option maxHeartbeats 1000000
set_option pp.maxSteps 900
namespace Jl
open PySem PySem.Spec PyProof.Rows L2
open Evl (sz_of sz_lt)
/-! ### tuple * int, any small int -/
section
open AutoSeq1 (wpAny_loadPart')
theorem tuple_mul1 (l : Addr) (items : Array Value) (n : Nat) (dd : Option Addr) (sl : Array (Option Value)) (u : Tok) (hne : items.isEmpty = false) :
    Meets (Builtin.«tuple.__mul__» ⟨[.ref l, .int 1 u], []⟩) (fun _ R s => s.heap.get? l = some { cls := .type "tuple", dict := dd, data := .seq items n, slots := sl } ∧ R (.ok (.ret (Value.ref l))) s) :=
  .of_wp fun prog w A R s h => by
    obtain ⟨hp, g, d, tk, os⟩ := s
    obtain ⟨hl, h⟩ := h
    have f1 := AutoSeq1.idx_int
    wp_walk using wpAny_loadPart' hl
    repeat (first
      | (refine wpAny_ite_false (decide_eq_false (by decide)) ?_; wp_walk using wpAny_loadPart' hl)
      | (refine wpAny_ite_true (decide_eq_true (by simp)) ?_; wp_walk using wpAny_loadPart' hl))
    exact ⟨_, rfl, h⟩
theorem tuple_mul0 (l : Addr) (items : Array Value) (n : Nat) (dd : Option Addr) (sl : Array (Option Value)) (x : Int) (u : Tok) (c0 : (decide (x < -(2 ^ 63)) || decide (x ≥ 2 ^ 63)) = false) (c1 : (items.isEmpty || x == 1) = false) (c2 : (decide (x ≤ 0) || items.isEmpty) = true) :
    Meets (Builtin.«tuple.__mul__» ⟨[.ref l, .int x u], []⟩) (fun _ R s => s.heap.get? l = some { cls := .type "tuple", dict := dd, data := .seq items n, slots := sl } ∧
      R (.ok (.ret (Value.ref s.heap.objs.size))) { s with heap := s.heap.push { cls := Value.type "tuple", data := Data.seq #[] }, toks := s.toks }) :=
  .of_wp fun prog w A R s h => by
    obtain ⟨hp, g, d, tk, os⟩ := s
    obtain ⟨hl, h⟩ := h
    have f1 := AutoSeq1.idx_int
    wp_walk using wpAny_loadPart' hl
    repeat (first
      | (refine wpAny_ite_false (decide_eq_false (by rw [c0]; exact Bool.false_ne_true)) ?_; wp_walk using wpAny_loadPart' hl)
      | (refine wpAny_ite_false (decide_eq_false (by rw [c1]; exact Bool.false_ne_true)) ?_; wp_walk using wpAny_loadPart' hl)
      | (refine wpAny_ite_true (decide_eq_true c2) ?_; wp_walk using wpAny_loadPart' hl))
    exact ⟨_, rfl, h⟩
end
/-- t * k, t not empty -/
def rRepW (K : PySem.W.Frag) : R2 := fun x y H Q => ∃ (l : Addr) (k : Int) (xs : List V), x = .ref l ∧ y = .int k ∧ SqT K H l xs ∧ xs ≠ [] ∧ -1000 ≤ k ∧ k ≤ 1000 ∧ xs.length ≤ 1000 ∧ (k = 1 → Q (.ref l) H) ∧ (k ≤ 0 → ∀ p, H p = none → Q (.ref p) (upd H p (.tup []))) ∧ (2 ≤ k → ∀ p, H p = none → Q (.ref p) (upd H p (.tup (List.replicate k.toNat xs).flatten)))
section
variable {X : Cx}
theorem op_repW : OpR X (binaryOp .Mult) (rRepW X.K) := by
  intro pins s σ H x y v u Q I rx ry h
  obtain ⟨l, k, xs, rfl, rfl, hT, hne, hlo, hhi, hz, q1, q0, q2⟩ := h
  by_cases hk2 : 2 ≤ k
  · exact op_repT pins s σ H _ _ v u Q I rx ry ⟨l, k, xs, rfl, rfl, hT, hne, hk2, hhi, hz, q2 hk2⟩
  · cases rx
    obtain ⟨t, rfl⟩ := ry
    obtain ⟨its, r, ⟨⟨cls, dd, data, sl⟩, ho, hc, n, hd⟩, hs⟩ := I.tuple hT
    simp only at hc hd
    subst hc hd
    have hle : its.length = xs.length := r.length.symm
    have hi : its.toArray.isEmpty = false := by
      cases its with
      | nil => exact absurd (List.eq_nil_of_length_eq_zero hle.symm) hne
      | cons a b => rfl
    by_cases hk1 : k = 1
    · subst hk1
      exact wpAny_binaryOp_repeat_ref (T := "tuple") (U := "int") (by decide) ⟨_, ho, rfl⟩ (fun s' => typeIs_int s' 1 t) noFill_tuple_mul F.fills_int_mul F.slot_int_rmul repeat_tuple F.slot_int_index.lookup
        (call_meets F.slot_int_rmul (typeIs_int s 1 t) F.entry_int_rmul (F.args_int_rmul_2 _ _) (int_rmul_tuple 1 t l its.toArray n dd sl)
          ⟨ho, rfl, ⟨_, ho, rfl⟩, call_meets F.slot_tuple_mul ⟨_, ho, rfl⟩ F.entry_tuple_mul (F.args_tuple_mul_2 _ _) (tuple_mul1 l its.toArray n dd sl t hi) ⟨ho, .ref l, H, I, rfl, q1 rfl⟩⟩)
    · have c0 : (decide (k < -(2 ^ 63)) || decide (k ≥ 2 ^ 63)) = false := by
        rw [decide_eq_false (by omega), decide_eq_false (by omega)] <;> rfl
      have c1 : (its.toArray.isEmpty || k == 1) = false := by
        rw [hi, Bool.false_or]
        exact beq_eq_false_iff_ne.mpr hk1
      have c2 : (decide (k ≤ 0) || its.toArray.isEmpty) = true := by
        rw [decide_eq_true (by omega)]
        rfl
      refine wpAny_binaryOp_repeat_ref (T := "tuple") (U := "int") (by decide) ⟨_, ho, rfl⟩ (fun s' => typeIs_int s' k t) noFill_tuple_mul F.fills_int_mul F.slot_int_rmul repeat_tuple F.slot_int_index.lookup
        (call_meets F.slot_int_rmul (typeIs_int s k t) F.entry_int_rmul (F.args_int_rmul_2 _ _) (int_rmul_tuple k t l its.toArray n dd sl)
          ⟨ho, rfl, ⟨_, ho, rfl⟩, call_meets F.slot_tuple_mul ⟨_, ho, rfl⟩ F.entry_tuple_mul (F.args_tuple_mul_2 _ _) (tuple_mul0 l its.toArray n dd sl k t c0 c1 c2) ⟨ho, ?_⟩⟩)
      refine ⟨.ref s.heap.objs.size, _, I.laid (t' := s.toks) (o := .tup []) (fun b ob q => Heap.get?_push_of_some _ q) (Nat.le_refl _) ?_, rfl, q0 (by omega) _ (I.hok.fresh (Nat.le_refl _))⟩
      exact ⟨Nat.zero_le _, _, .nil, IsTup.new _ _⟩
end
end Jl

set_option Elab.async false
set_option linter.all false
set_option maxRecDepth 100000
set_option maxHeartbeats 1000000
set_option pp.maxSteps 300
namespace Jl
open PySem PySem.Spec PyProof.Rows L2
open Evl (sz_of sz_lt)
local macro_rules | `(tactic| walk_at "at") => `(tactic| first | exact box0 | exact box1 | exact box2)
local macro_rules | `(tactic| walk_at "sq") => `(tactic| first | (show SqL _ _ _ _; assumption) | (show SqT _ _ _ _; assumption) | (show _ = some _; assumption))
local macro_rules | `(tactic| walk_at "side") => `(tactic| first
  | (show (0 : Int) < _; decide)
  | (show (0 : Int) < _; omega)
  | exact ⟨by decide, by decide, by decide⟩
  | exact sz_of (Nat.le_of_ble_eq_true rfl)
  | exact rfl
  | exact Or.inl (by decide)
  | exact Or.inr (by decide)
  | exact Or.inr ⟨by omega, by omega⟩
  | exact Or.inl ⟨by omega, by omega⟩
  | exact ⟨by decide, by decide +kernel⟩)
local macro_rules | `(tactic| walk_at "ev1") => `(tactic| first
  | refine ⟨_, rfl, ?_⟩
  | refine ⟨_, _, rfl, rfl, ?_⟩
  | refine ⟨_, _, _, _, rfl, rfl, (by walk_at "sq"), (by walk_at "at"), ?_⟩
  | refine ⟨_, _, rfl, (by walk_at "sq"), ?_⟩
  | refine ⟨_, _, rfl, Or.inl (by walk_at "sq"), ?_⟩
  | refine ⟨_, _, rfl, Or.inr (by walk_at "sq"), ?_⟩
  | refine Or.inl ⟨_, rfl, ?_⟩
  | refine Or.inr ⟨_, rfl, ?_⟩
  | refine ⟨(by walk_at "side"), ?_⟩
  | refine ⟨.inl ⟨rfl, _, (by walk_at "sq")⟩, ?_⟩
  | refine ⟨_, _, rfl, ?_⟩)
local macro_rules | `(tactic| walk_at "nrm") => `(tactic| dsimp only [tNil, tCons, tC, tCB])
local macro_rules | `(tactic| walk_at "ev") => `(tactic| repeat (walk_at "ev1"))
abbrev sc_Way_workers_N : List Str := ["self"]
abbrev s_Way_workers : Stmt := inClass (topS 9) 2
theorem sc_Way_workers : FnScope ["self"] ["self"] (defScope s_Way_workers) := ⟨rfl, rfl, rfl, by decide +kernel, rfl, by decide +kernel, by decide +kernel⟩
abbrev sc_Way_is_ring_N : List Str := ["self", "many"]
abbrev s_Way_is_ring : Stmt := inClass (topS 9) 5
theorem sc_Way_is_ring : FnScope ["self", "many"] ["self"] (defScope s_Way_is_ring) := ⟨rfl, rfl, rfl, by decide +kernel, rfl, by decide +kernel, by decide +kernel⟩
abbrev sc_Way_is_bad_N : List Str := ["self"]
abbrev s_Way_is_bad : Stmt := inClass (topS 9) 6
theorem sc_Way_is_bad : FnScope ["self"] ["self"] (defScope s_Way_is_bad) := ⟨rfl, rfl, rfl, by decide +kernel, rfl, by decide +kernel, by decide +kernel⟩
abbrev sc_Way_add_N : List Str := ["self", "other"]
abbrev s_Way_add : Stmt := inClass (topS 9) 9
theorem sc_Way_add : FnScope ["self", "other"] ["self", "other"] (defScope s_Way_add) := ⟨rfl, rfl, rfl, by decide +kernel, rfl, by decide +kernel, by decide +kernel⟩
abbrev sc_Way_neg_N : List Str := ["self"]
abbrev s_Way_neg : Stmt := inClass (topS 9) 10
theorem sc_Way_neg : FnScope ["self"] ["self"] (defScope s_Way_neg) := ⟨rfl, rfl, rfl, by decide +kernel, rfl, by decide +kernel, by decide +kernel⟩
abbrev sc_Way_mul_N : List Str := ["self", "many", "queues"]
abbrev s_Way_mul : Stmt := inClass (topS 9) 11
theorem sc_Way_mul : FnScope ["self", "many", "queues"] ["self", "many"] (defScope s_Way_mul) := ⟨rfl, rfl, rfl, by decide +kernel, rfl, by decide +kernel, by decide +kernel⟩
/-! ### what a Way tells, and Ways put together -/
/-- what the head says of the class's operators -/
structure OWay (K : PySem.W.Frag) (C : Addr) : Prop where
  sf : PySem.W.selfFirst K C = true
  rm : PySem.W.findIn K (.ref C) (dunderR Operator.Mult.info.2) = some none
  im : ∃ fo, PySem.W.findIn K (.type "int") (PySem.dunder Operator.Mult.info.2) = some fo
  ir : ∃ fo, PySem.W.findIn K (.type "int") (dunderR Operator.Mult.info.2) = some fo
  ns : PySem.W.subIn K (.type "int") (.ref C) = some false
theorem last_get {α : Type} : ∀ {us : List α} {w : α}, (w :: us)[us.length]? = some (us.getLastD w)
  | [], w => rfl
  | u :: us, w => by
    rw [List.length_cons, List.getElem?_cons_succ, List.getLastD_cons]
    exact last_get
theorem at_last {w : Str} {us : List Str} : atI ((w :: us).map V.str) (-1) = some (.str (us.getLastD w)) := by
  refine atI_end (by rw [List.length_map, List.length_cons]; omega) ?_
  rw [List.length_map, List.length_cons, Nat.add_sub_cancel, List.getElem?_map, last_get]
  rfl
theorem at_first {w : Str} {us : List Str} : atI ((w :: us).map V.str) 0 = some (.str w) := atI_nat (j := 0) rfl
theorem decI {a b : Int} : decide (V.int a = V.int b) = decide (a = b) := decide_eq_decide.mpr ⟨V.int.inj, congrArg _⟩
theorem decS' {a b : Str} : decide (V.str a = V.str b) = decide (a = b) := decide_eq_decide.mpr ⟨V.str.inj, congrArg _⟩
/-- is_ring of a way -/
def ringF (qs : List QD) (w : Str) (us : List Str) (ms : List Mk) : Bool := decide (w = us.getLastD w) && (decide ((dedS (w :: us)).length = ms.length) && decide ((dedS (ms.map (nmQ qs))).length = ms.length))
theorem path_last {qs : List QD} {w : Str} {us : List Str} : (w :: us) = (w :: us).dropLast ++ [us.getLastD w] := by
  cases h : us.reverse with
  | nil =>
    rw [List.reverse_eq_nil_iff.mp h]
    rfl
  | cons x xs =>
    have e : us = xs.reverse ++ [x] := by
      have := congrArg List.reverse h
      rw [List.reverse_reverse, List.reverse_cons] at this
      exact this
    rw [e, ← List.cons_append, List.dropLast_concat, List.getLastD_concat]
theorem path_cat {qs : List QD} : ∀ {us : List Str} {w : Str} {ms : List Mk} {us2 : List Str} {ms2 : List Mk}, path qs (w :: us) ms → path qs (us.getLastD w :: us2) ms2 → path qs (w :: (us ++ us2)) (ms ++ ms2)
  | [], w, [], us2, ms2, _, h => h
  | u :: us, w, m :: ms, us2, ms2, h1, h2 => by
    rw [List.getLastD_cons] at h2
    exact ⟨h1.1, path_cat h1.2 h2⟩
  | [], _, _ :: _, _, _, h, _ => absurd h id
  | _ :: _, _, [], _, _, h, _ => absurd h id
theorem nm_fl {qs : List QD} {m : Mk} : nmQ qs (fl m) = nmQ qs m := rfl
theorem nms_rev {qs : List QD} {ms : List Mk} : (ms.map fl).reverse.map (nmQ qs) = (ms.map (nmQ qs)).reverse := by
  rw [List.map_reverse, List.map_map]
  rfl
/-- a Way's making, its arguments told -/
theorem make_way {K : PySem.W.Frag} {C : Addr} {H1 : Hp} {x dx : Addr} {v qv : V} {fb fq : Bool} {ws : List Str} {qs : List QD} {w : Str} {us : List Str} {ms : List Mk} {Q : VK} (hx : H1 x = none) (hdx : H1 dx = none) (ne : dx ≠ x) (hD : Dp K H1 v (netD fb ws qs)) (hQ : Dp K H1 qv (seqD fq ((ms.map (nmQ qs)).map PyData.str)))
    (hG : NetG ws qs) (hw : w ∈ ws) (hp : path qs (w :: us) ms) (w6 : ws.length ≤ 60) (q6 : qs.length ≤ 60) (m6 : ms.length ≤ 100000) (q : ∀ H', Same H1 H' → WayAt K C H' x ws qs w us ms → Q (.ref x) H') :
    spInit K C [.ref x, v, .str w, qv] (upd (upd H1 dx (.own x)) x (.ins C dx [])) (fun v H2 => v = .non ∧ Q (.ref x) H2) E0 :=
  ⟨H1, x, dx, v, qv, fb, fq, ws, qs, w, us, ms, rfl, fun a o ha => by
    rw [upd_ne (ne_of_none ha hx), upd_ne (ne_of_none ha hdx)]
    exact ha, hx, upd_same, hD, hQ, hG, hw, hp, w6, q6, m6, fun H7 s7 hway => ⟨rfl, q H7 s7 hway⟩⟩
theorem last_mem {ws : List Str} {qs : List QD} (g : NetG ws qs) : ∀ {us : List Str} {w : Str} {ms : List Mk}, w ∈ ws → path qs (w :: us) ms → us.getLastD w ∈ ws
  | [], _, [], h, _ => h
  | u :: us, w, m :: ms, h, hp => by
    rw [List.getLastD_cons]
    exact last_mem g (far_mem g hp.1).1 hp.2
  | [], _, _ :: _, _, h => absurd h id
  | _ :: _, _, [], _, h => absurd h id
section
variable {P : Program} {w : World} {K : PySem.W.Frag} {mg : Str → Option Value} {base : Heap}
def spWorkers (K : PySem.W.Frag) (C : Addr) : Sp := fun vs H Q _ => ∃ (x : Addr) (ws : List Str) (qs : List QD) (w : Str) (us : List Str) (ms : List Mk), vs = [.ref x] ∧ WayAt K C H x ws qs w us ms ∧ ∀ v, Dp K H v (.tuple ((w :: us).map PyData.str)) → Q v H
theorem ok_Way_workers {f C : Addr} {fd : FuncData} {k : Nat} (F : Fun K "workers" "Way.workers" s_Way_workers f fd) (T_Way : TWay K C) : FnOk P w K mg base CX0 (k + 1) f fd ["self"] (spWorkers K C) := by
  refine F.ok sc_Way_workers (fun vs H Q E h => ?_) (fun cdv A outer s0 H vs Q E hr h => ?_)
  · obtain ⟨x, ws, qs, w, us, ms, rfl, _⟩ := h
    rfl
  · obtain ⟨x, ws, qs, w, us, ms, rfl, hw, q⟩ := h
    refine ⟨_, (pss_one (ps_ret (pe_fld (pv 0) rfl))), ?_⟩
    obtain ⟨dx, v1, v2, v3, v4, v5, h0, h1, h2, h3, h4, h5⟩ := hw.is
    exact ⟨_, rfl, x, C, dx, _, _, rfl, h0, T_Way.cl, T_Way.n4, f5_at.2.2.2.1, q v4 h4⟩
def spIsRing (K : PySem.W.Frag) (C : Addr) : Sp := fun vs H Q _ => ∃ (x : Addr) (ws : List Str) (qs : List QD) (w : Str) (us : List Str) (ms : List Mk), vs = [.ref x] ∧ WayAt K C H x ws qs w us ms ∧ us.length ≤ 1000 ∧ ms.length ≤ 1000 ∧ ∀ H', Same H H' → Q (.bl (ringF qs w us ms)) H'
theorem ok_Way_is_ring {f C : Addr} {fd : FuncData} {k : Nat} (F : Fun K "is_ring" "Way.is_ring" s_Way_is_ring f fd) (T_Way : TWay K C) (m_len : mg "len" = none) (m_set : mg "set" = none) : FnOk P w K mg base CX0 (k + 1) f fd ["self"] (spIsRing K C) := by
  refine F.ok sc_Way_is_ring (fun vs H Q E h => ?_) (fun cdv A outer s0 H vs Q E hr h => ?_)
  · obtain ⟨x, ws, qs, w, us, ms, rfl, _⟩ := h
    rfl
  · obtain ⟨x, ws, qs, w, us, ms, rfl, hw, lu, lm, q⟩ := h
    refine ⟨_, (pss_cons (ps_if (pt_cmpR op_ne (pe_ix ix_tup (pe_fld (pv 0) rfl) pe_int (fun _ _ => rfl)) (pe_ix ix_tup (pe_fld (pv 0) rfl) (pe_un un_neg pe_int) (fun _ _ => rfl)) (nomark _)) (pss_one (ps_ret pe_bl)) pss_nil) 
    (pss_cons (ps_set (i := 1) sc_Way_is_ring.nd rfl (Or.inl rfl) (pe_callB call_len_seq (by rfl) m_len PySem.boot_len (pa_cons (pe_fld (pv 0) rfl) pa_nil))) 
    (pss_one (ps_ret (pe_and (pe_cmpR op_eq (pe_lenSetT (by rfl) m_len (by rfl) m_set (pe_fld (pv 0) rfl)) (pv 1) (nomark _)) (pe_one (pe_cmpR op_eq (pe_lenSetT (by rfl) m_len (by rfl) m_set (pe_fld (pv 0) rfl)) (pv 1) (nomark _)))))))), ?_⟩
    obtain ⟨dx, v1, v2, v3, v4, v5, h0, h1, h2, h3, h4, h5⟩ := hw.is
    obtain ⟨a4, x4, rfl, ha4, hx4⟩ := Dp.seq_of (f := true) (show Dp K H v4 (seqD true _) from h4)
    have e4 := dpa_strs_of hx4
    subst e4
    obtain ⟨a2, x2, rfl, ha2, hx2⟩ := Dp.seq_of (f := true) (show Dp K H v2 (seqD true _) from h2)
    have e2 := dpa_strs_of hx2
    subst e2
    obtain ⟨a3, x3, rfl, ha3, hx3⟩ := Dp.seq_of (f := true) (show Dp K H v3 (seqD true (ms.map (stD qs))) from h3)
    have l3 := dpa_len hx3
    rw [List.length_map] at l3
    refine ⟨_, rfl, x, C, dx, _, _, rfl, h0, T_Way.cl, T_Way.n4, f5_at.2.2.2.1, ?_⟩
    refine ⟨a4, _, _, _, rfl, rfl, ha4, at_first, ?_⟩
    refine ⟨_, rfl, x, C, dx, _, _, rfl, h0, T_Way.cl, T_Way.n4, f5_at.2.2.2.1, ?_⟩
    refine ⟨1, rfl, a4, _, _, _, rfl, rfl, ha4, at_last, rfl, _, rfl, ?_⟩
    rw [decS']
    by_cases hl : w = us.getLastD w
    · rw [decide_eq_true hl]
      refine iteF ?_
      refine ⟨_, rfl, x, C, dx, _, _, rfl, h0, T_Way.cl, T_Way.n3, f5_at.2.2.1, ?_⟩
      refine ⟨a3, x3, rfl, .inr ha3, ?_⟩
      refine ⟨_, rfl, x, C, dx, _, _, rfl, h0, T_Way.cl, T_Way.n4, f5_at.2.2.2.1, ?_⟩
      refine ⟨a4, _, rfl, ha4, by rw [List.length_cons]; omega, _, rfl, rfl, ?_⟩
      have en : decide (V.int ((dedS (w :: us)).length : Nat) = V.int (x3.length : Nat)) = decide ((dedS (w :: us)).length = ms.length) := by
        rw [decI, l3]
        exact decide_eq_decide.mpr ⟨fun z => by omega, fun z => by omega⟩
      rw [en]
      refine ⟨_, rfl, ?_⟩
      by_cases hd : (dedS (w :: us)).length = ms.length
      · rw [decide_eq_true hd]
        refine iteT ?_
        refine ⟨_, rfl, x, C, dx, _, _, rfl, h0, T_Way.cl, T_Way.n2, f5_at.2.1, ?_⟩
        refine ⟨a2, _, rfl, ha2, by rw [List.length_map]; omega, _, rfl, rfl, ?_⟩
        have en2 : decide (V.int ((dedS (ms.map (nmQ qs))).length : Nat) = V.int (x3.length : Nat)) = ringF qs w us ms := by
          unfold ringF
          rw [decI, l3, decide_eq_true hl, decide_eq_true hd]
          show _ = decide _
          exact decide_eq_decide.mpr ⟨fun z => by omega, fun z => by omega⟩
        rw [en2]
        exact q H fun _ _ e => e
      · rw [decide_eq_false hd]
        refine iteF ?_
        have e : ringF qs w us ms = false := by
          unfold ringF
          rw [decide_eq_false hd, Bool.false_and, Bool.and_false]
        rw [e] at q
        exact q H fun _ _ e => e
    · rw [decide_eq_false hl]
      refine iteT ?_
      have e : ringF qs w us ms = false := by
        unfold ringF
        rw [decide_eq_false hl]
        rfl
      rw [e] at q
      exact q H fun _ _ e => e
def spIsBad (K : PySem.W.Frag) (C : Addr) : Sp := fun vs H Q _ => ∃ (x : Addr) (ws : List Str) (qs : List QD) (w : Str) (us : List Str) (ms : List Mk), vs = [.ref x] ∧ WayAt K C H x ws qs w us ms ∧ us.length ≤ 1000 ∧ ms.length ≤ 1000 ∧ ∀ H', Same H H' → Q (.bl (ringF qs w us ms && decide (costQ qs ms ≤ 0))) H'
theorem ok_Way_is_bad {f fR fC C : Addr} {fd fdR fdC : FuncData} {k : Nat} (F : Fun K "is_bad" "Way.is_bad" s_Way_is_bad f fd) (T_Way : TWay K C) (mt_Way_is_ring : Meth K C "is_ring" fR) (mt_Way_cost : Meth K C "cost" fC)
    (G_Way_is_ring : FnOk P w K mg base CX0 k fR fdR ["self"] (spIsRing K C)) (b_Way_is_ring : Binds K fdR ["self"] [])
    (G_Way_cost : FnOk P w K mg base CX0 k fC fdC ["self"] (spCost K C)) (b_Way_cost : Binds K fdC ["self"] []) : FnOk P w K mg base CX0 (k + 1) f fd ["self"] (spIsBad K C) := by
  refine F.ok sc_Way_is_bad (fun vs H Q E h => ?_) (fun cdv A outer s0 H vs Q E hr h => ?_)
  · obtain ⟨x, ws, qs, w, us, ms, rfl, _⟩ := h
    rfl
  · obtain ⟨x, ws, qs, w, us, ms, rfl, hw, lu, lm, q⟩ := h
    refine ⟨_, (pss_one (ps_ret (pe_and (pe_meth0 (pv 0) T_Way.cl mt_Way_is_ring G_Way_is_ring hr b_Way_is_ring .nil pass0) (pe_one (pe_cmpR op_le (pe_meth0 (pv 0) T_Way.cl mt_Way_cost G_Way_cost hr b_Way_cost .nil pass0) pe_int (nomark _)))))), ?_⟩
    obtain ⟨dx, v1, v2, v3, v4, v5, h0, h1, h2, h3, h4, h5⟩ := id hw.is
    refine ⟨_, rfl, x, dx, _, rfl, h0, f5_no (by decide +kernel), x, ws, qs, w, us, ms, rfl, hw, lu, lm, fun H1 s1 => ⟨_, rfl, ?_⟩⟩
    cases hr1 : ringF qs w us ms with
    | false =>
      refine iteF ?_
      rw [hr1] at q
      exact q H1 s1
    | true =>
      refine iteT ?_
      rw [hr1] at q
      exact ⟨_, rfl, x, dx, _, rfl, s1 _ _ h0, f5_no (by decide +kernel), x, ws, qs, w, us, ms, rfl, hw.same s1, _, _, rfl, rfl, q H1 s1⟩
def spAdd (K : PySem.W.Frag) (C : Addr) : Sp := fun vs H Q _ => ∃ (x y : Addr) (ws : List Str) (qs : List QD) (w : Str) (us us2 : List Str) (ms ms2 : List Mk), vs = [.ref x, .ref y] ∧ WayAt K C H x ws qs w us ms ∧ WayAt K C H y ws qs (us.getLastD w) us2 ms2 ∧
  NetG ws qs ∧ w ∈ ws ∧ path qs (w :: us) ms ∧ path qs (us.getLastD w :: us2) ms2 ∧ ws.length ≤ 60 ∧ qs.length ≤ 60 ∧ ms.length ≤ 1000 ∧ ms2.length ≤ 1000 ∧ (∀ x ∈ ws, PyData.strOk x = true) ∧ (∀ q ∈ qs, PyData.strOk q.nm = true) ∧
  ∀ H' z, Same H H' → WayAt K C H' z ws qs w (us ++ us2) (ms ++ ms2) → Q (.ref z) H'
theorem okE_net {ws : List Str} {qs : List QD} (g : NetG ws qs) (h1 : ∀ x ∈ ws, PyData.strOk x = true) (h2 : ∀ q ∈ qs, PyData.strOk q.nm = true) : SeqAt.shaped (netD true ws qs) = true := by
  refine shaped_of (can_seq (f := true) fun d hd => ?_) (Nat.le_trans (dep_seq (f := true) (n := 31) fun d hd => ?_) (by decide))
  · rcases List.mem_cons.mp hd with rfl | hd
    · refine can_seq (f := true) fun d hd => ?_
      obtain ⟨x, hx, rfl⟩ := List.mem_map.mp hd
      rw [PyData.canLay0]
      exact h1 x hx
    · rw [List.mem_singleton.mp hd]
      refine can_seq (f := true) fun d hd => ?_
      obtain ⟨x, hx, rfl⟩ := List.mem_map.mp hd
      exact (okE_q (h2 x hx) (h1 _ (g.q1 x hx).1) (h1 _ (g.q1 x hx).2.1)).1
  · rcases List.mem_cons.mp hd with rfl | hd
    · refine Nat.le_trans (dep_seq (f := true) (n := 0) fun d hd => ?_) (by decide)
      obtain ⟨x, hx, rfl⟩ := List.mem_map.mp hd
      simp [PyData.depth]
    · rw [List.mem_singleton.mp hd]
      refine dep_seq (f := true) (n := 30) fun d hd => ?_
      obtain ⟨x, hx, rfl⟩ := List.mem_map.mp hd
      exact (okE_q (h2 x hx) (h1 _ (g.q1 x hx).1) (h1 _ (g.q1 x hx).2.1)).2
theorem eqv_of {d : PyData} (h : SeqAt.shaped d = true) : PyData.eqv d d = true := PySem.SeqAt.eqv_refl d (by
  unfold SeqAt.shaped at h
  exact ((Bool.and_eq_true _ _).mp h).1)
theorem ok_Way_add {f fI C : Addr} {fd fdI : FuncData} {k : Nat} (F : Fun K "__add__" "Way.__add__" s_Way_add f fd) (T_Way : TWay K C) (M_Way : L2.Mk K C fI) (mg_Way : mg "Way" = some (.ref C)) (IC_Way : C8.InsC K C)
    (G_Way_init : FnOk P w K mg base CX0 k fI fdI ["self", "net", "start", "queues"] (spInit K C)) (b_Way_init : Binds K fdI ["self", "net", "start", "queues"] [])
    (m_isinstance : mg "isinstance" = none) : FnOk P w K mg base CX0 (k + 1 + 1) f fd ["self", "other"] (spAdd K C) := by
  refine F.ok sc_Way_add (fun vs H Q E h => ?_) (fun cdv A outer s0 H vs Q E hr2 h => ?_)
  · obtain ⟨x, y, ws, qs, w, us, us2, ms, ms2, rfl, _⟩ := h
    rfl
  · obtain ⟨x, y, ws, qs, w, us, us2, ms, ms2, rfl, hx, hy, hG, hw, hp, hp2, w6, q6, lm, lm2, o1, o2, q⟩ := h
    have hr := hr2.mono (Nat.le_succ k)
    refine ⟨_, (pss_cons (ps_if (pt_not (pt_val (pe_callB (C8.call_isC IC_Way) (by rfl) m_isinstance (by decide +kernel) (pa_cons (pv 1) (pa_cons (pe_glob (v := .ref _) rfl mg_Way rfl) pa_nil))))) (pss_one ps_no) pss_nil) 
    (pss_cons (ps_if (PW.pt (pw_or (pt_cmpR (op_neD hr.units) (pe_fld (pv 0) rfl) (pe_fld (pv 1) rfl) (nomark _)) (pw_or1 (pt_cmpR op_ne (pe_ix ix_tup (pe_fld (pv 0) rfl) (pe_un un_neg pe_int) (fun _ _ => rfl)) (pe_ix ix_tup (pe_fld (pv 1) rfl) pe_int (fun _ _ => rfl)) (nomark _))))) (pss_one ps_no) pss_nil) 
    (pss_one (ps_ret (pe_make M_Way G_Way_init hr2 (by rfl) mg_Way b_Way_init .nil pass0 (pa_cons (pe_fld (pv 0) rfl) (pa_cons (pe_ix ix_tup (pe_fld (pv 0) rfl) pe_int (fun _ _ => rfl)) (pa_cons (pe_op op_catA (pe_fld (pv 0) rfl) (pe_fld (pv 1) rfl)) pa_nil)))))))), ?_⟩
    obtain ⟨dx, v1, v2, v3, v4, v5, h0, h1, h2, h3, h4, h5⟩ := id hx.is
    obtain ⟨dy, u1, u2, u3, u4, u5, g0, g1, g2, g3, g4, g5⟩ := id hy.is
    obtain ⟨a4, x4, rfl, ha4, hx4⟩ := Dp.seq_of (f := true) (show Dp K H v4 (seqD true _) from h4)
    have e4 := dpa_strs_of hx4
    subst e4
    obtain ⟨b4, y4, rfl, hb4, hy4⟩ := Dp.seq_of (f := true) (show Dp K H u4 (seqD true _) from g4)
    have e4 := dpa_strs_of hy4
    subst e4
    obtain ⟨a2, x2, rfl, ha2, hx2⟩ := Dp.seq_of (f := true) (show Dp K H v2 (seqD true _) from h2)
    have e2 := dpa_strs_of hx2
    subst e2
    obtain ⟨b2, y2, rfl, hb2, hy2⟩ := Dp.seq_of (f := true) (show Dp K H u2 (seqD true _) from g2)
    have e2 := dpa_strs_of hy2
    subst e2
    have sh := okE_net hG o1 o2
    refine ⟨_, rfl, y, dy, _, rfl, g0, ⟨_, rfl, iteF ?_⟩⟩
    dsimp only [tNext]
    refine ⟨_, rfl, x, C, dx, _, _, rfl, h0, T_Way.cl, T_Way.n1, f5_at.1, _, rfl, y, C, dy, _, _, rfl, g0, T_Way.cl, T_Way.n1, f5_at.1, netD true ws qs, netD true ws qs, h1, g1, sh, sh, ?_⟩
    rw [eqv_of sh]
    refine ⟨_, rfl, iteF ?_⟩
    refine ⟨_, rfl, x, C, dx, _, _, rfl, h0, T_Way.cl, T_Way.n4, f5_at.2.2.2.1, 1, rfl, a4, _, _, _, rfl, rfl, ha4, at_last, ?_⟩
    refine ⟨_, rfl, y, C, dy, _, _, rfl, g0, T_Way.cl, T_Way.n4, f5_at.2.2.2.1, b4, _, _, _, rfl, rfl, hb4, at_first, rfl, _, rfl, ?_⟩
    rw [decide_eq_true rfl]
    refine iteF ?_
    dsimp only [tNext]
    refine ⟨_, rfl, x, C, dx, _, _, rfl, h0, T_Way.cl, T_Way.n1, f5_at.1, ?_⟩
    refine ⟨_, rfl, x, C, dx, _, _, rfl, h0, T_Way.cl, T_Way.n4, f5_at.2.2.2.1, a4, _, _, _, rfl, rfl, ha4, at_first, ?_⟩
    refine ⟨_, rfl, x, C, dx, _, _, rfl, h0, T_Way.cl, T_Way.n2, f5_at.2.1, _, rfl, y, C, dy, _, _, rfl, g0, T_Way.cl, T_Way.n2, f5_at.2.1, ?_⟩
    have lz : (((ms.map (nmQ qs)).map V.str).length + ((ms2.map (nmQ qs)).map V.str).length) ≤ sizeLine := by
      simp only [List.length_map]
      exact Nat.le_trans (show ms.length + ms2.length ≤ 2000 by omega) (by decide)
    have hcat : path qs (w :: (us ++ us2)) (ms ++ ms2) := path_cat hp hp2
    have fin : ∀ {H1 : Hp} {p : Addr}, Same H H1 → SqT K H1 p (((ms ++ ms2).map (nmQ qs)).map V.str) → ∀ (z dz : Addr), H1 z = none → H1 dz = none → dz ≠ z → spInit K C [.ref z, v1, .str w, .ref p] (upd (upd H1 dz (.own z)) z (.ins C dz [])) (fun v H2 => v = .non ∧ Q (.ref z) H2) E0 := fun {H1 p} s1 hp1 z dz hz hdz ne =>
      make_way (fq := true) hz hdz ne (s1.dp h1) (.tup hp1 dpa_strs) hG hw hcat w6 q6 (by rw [List.length_append]; omega) fun H' s' hway => q H' z (s1.trans s') hway
    have ecat : ((ms ++ ms2).map (nmQ qs)).map V.str = (ms.map (nmQ qs)).map V.str ++ (ms2.map (nmQ qs)).map V.str := by
      rw [List.map_append, List.map_append]
    rw [ecat] at fin
    refine ⟨a2, b2, _, _, rfl, rfl, ha2, hb2, lz, fun e => ?_, fun _ e => ?_, fun _ _ p hp0 => ?_⟩
    · rw [e] at fin
      exact fin (fun _ _ e => e) hb2
    · rw [e, List.append_nil] at fin
      exact fin (fun _ _ e => e) ha2
    · exact fin (.upd hp0) (sqt_of upd_same)
def spNeg (K : PySem.W.Frag) (C : Addr) : Sp := fun vs H Q _ => ∃ (x : Addr) (ws : List Str) (qs : List QD) (w : Str) (us : List Str) (ms : List Mk), vs = [.ref x] ∧ WayAt K C H x ws qs w us ms ∧ NetG ws qs ∧ w ∈ ws ∧ path qs (w :: us) ms ∧ ws.length ≤ 60 ∧ qs.length ≤ 60 ∧ ms.length ≤ 1000 ∧
  ∀ H' z, Same H H' → WayAt K C H' z ws qs (us.getLastD w) ((w :: us).dropLast.reverse) (revR ms) → Q (.ref z) H'
theorem path_back {qs : List QD} {w : Str} {us : List Str} {ms : List Mk} (h : path qs (w :: us) ms) : path qs (us.getLastD w :: (w :: us).dropLast.reverse) (revR ms) := by
  have e := path_rev h
  rw [path_last (qs := qs), List.reverse_append] at e
  exact e
theorem revR_len {ms : List Mk} : (revR ms).length = ms.length := by
  unfold revR
  rw [List.length_reverse, List.length_map]
theorem ok_Way_neg {f fI C : Addr} {fd fdI : FuncData} {k : Nat} (F : Fun K "__neg__" "Way.__neg__" s_Way_neg f fd) (T_Way : TWay K C) (M_Way : L2.Mk K C fI) (mg_Way : mg "Way" = some (.ref C))
    (G_Way_init : FnOk P w K mg base CX0 k fI fdI ["self", "net", "start", "queues"] (spInit K C)) (b_Way_init : Binds K fdI ["self", "net", "start", "queues"] []) : FnOk P w K mg base CX0 (k + 1 + 1) f fd ["self"] (spNeg K C) := by
  refine F.ok sc_Way_neg (fun vs H Q E h => ?_) (fun cdv A outer s0 H vs Q E hr2 h => ?_)
  · obtain ⟨x, ws, qs, w, us, ms, rfl, _⟩ := h
    rfl
  · obtain ⟨x, ws, qs, w, us, ms, rfl, hx, hG, hw, hp, w6, q6, lm, q⟩ := h
    have hr := hr2.mono (Nat.le_succ k)
    refine ⟨_, (pss_one (ps_ret (pe_make M_Way G_Way_init hr2 (by rfl) mg_Way b_Way_init .nil pass0 (pa_cons (pe_fld (pv 0) rfl) (pa_cons (pe_ix ix_tup (pe_fld (pv 0) rfl) (pe_un un_neg pe_int) (fun _ _ => rfl)) (pa_cons (pe_revT (pe_fld (pv 0) rfl)) pa_nil)))))), ?_⟩
    obtain ⟨dx, v1, v2, v3, v4, v5, h0, h1, h2, h3, h4, h5⟩ := id hx.is
    obtain ⟨a4, x4, rfl, ha4, hx4⟩ := Dp.seq_of (f := true) (show Dp K H v4 (seqD true _) from h4)
    have e4 := dpa_strs_of hx4
    subst e4
    obtain ⟨a2, x2, rfl, ha2, hx2⟩ := Dp.seq_of (f := true) (show Dp K H v2 (seqD true _) from h2)
    have e2 := dpa_strs_of hx2
    subst e2
    refine ⟨_, rfl, x, C, dx, _, _, rfl, h0, T_Way.cl, T_Way.n1, f5_at.1, ?_⟩
    refine ⟨_, rfl, x, C, dx, _, _, rfl, h0, T_Way.cl, T_Way.n4, f5_at.2.2.2.1, 1, rfl, a4, _, _, _, rfl, rfl, ha4, at_last, ?_⟩
    refine ⟨_, rfl, x, C, dx, _, _, rfl, h0, T_Way.cl, T_Way.n2, f5_at.2.1, a2, _, rfl, ha2, fun p hp0 z dz hz hdz ne => ?_⟩
    have s1 : Same H (upd H p (.tup ((ms.map (nmQ qs)).map V.str).reverse)) := .upd hp0
    have hp1 : SqT K (upd H p (.tup ((ms.map (nmQ qs)).map V.str).reverse)) p (((revR ms).map (nmQ qs)).map V.str) := by
      unfold revR
      rw [nms_rev, List.map_reverse]
      exact sqt_of upd_same
    exact make_way (fq := true) hz hdz ne (s1.dp h1) (.tup hp1 dpa_strs) hG (last_mem hG hw hp) (path_back hp) w6 q6 (by rw [revR_len]; omega) fun H' s' hway => q H' z (s1.trans s') hway
theorem path_rep {qs : List QD} {w : Str} {us : List Str} {ms : List Mk} (h : path qs (w :: us) ms) : ∀ {k : Nat}, (1 < k → w = us.getLastD w) → path qs (w :: (List.replicate k us).flatten) (List.replicate k ms).flatten
  | 0, _ => True.intro
  | 1, _ => by
    show path qs (w :: (us ++ [])) (ms ++ [])
    rw [List.append_nil, List.append_nil]
    exact h
  | k + 2, hc => by
    have e := hc (by omega)
    rw [List.replicate_succ, List.replicate_succ (a := ms), List.flatten_cons, List.flatten_cons]
    refine path_cat h ?_
    rw [← e]
    exact path_rep h (k := k + 1) fun _ => e
def spMul (K : PySem.W.Frag) (C : Addr) : Sp := fun vs H Q _ => ∃ (x : Addr) (k : Nat) (ws : List Str) (qs : List QD) (w : Str) (us : List Str) (ms : List Mk), vs = [.ref x, .int (k : Nat)] ∧ WayAt K C H x ws qs w us ms ∧ NetG ws qs ∧ w ∈ ws ∧ path qs (w :: us) ms ∧ ws.length ≤ 60 ∧ qs.length ≤ 60 ∧ ms.length ≤ 1000 ∧ ms ≠ [] ∧ k ≤ 90 ∧ (1 < k → w = us.getLastD w) ∧
  ∀ H' z, Same H H' → WayAt K C H' z ws qs w (List.replicate k us).flatten (List.replicate k ms).flatten → Q (.ref z) H'
theorem ok_Way_mul {f fI C : Addr} {fd fdI : FuncData} {k : Nat} (F : Fun K "__mul__" "Way.__mul__" s_Way_mul f fd) (T_Way : TWay K C) (M_Way : L2.Mk K C fI) (mg_Way : mg "Way" = some (.ref C))
    (G_Way_init : FnOk P w K mg base CX0 k fI fdI ["self", "net", "start", "queues"] (spInit K C)) (b_Way_init : Binds K fdI ["self", "net", "start", "queues"] [])
    (m_len : mg "len" = none) : FnOk P w K mg base CX0 (k + 1 + 1) f fd ["self", "many"] (spMul K C) := by
  refine F.ok sc_Way_mul (fun vs H Q E h => ?_) (fun cdv A outer s0 H vs Q E hr2 h => ?_)
  · obtain ⟨x, k, ws, qs, w, us, ms, rfl, _⟩ := h
    rfl
  · obtain ⟨x, k, ws, qs, w, us, ms, rfl, hx, hG, hw, hp, w6, q6, lm, hm0, hk9, hcl, q⟩ := h
    have hr := hr2.mono (Nat.le_succ _)
    refine ⟨_, (pss_cons (ps_if (PW.pt (pw_and (pt_cmpR op_gt (pv 1) pe_int (nomark _)) (pw_and1 (pt_cmpR op_ne (pe_ix ix_tup (pe_fld (pv 0) rfl) pe_int (fun _ _ => rfl)) (pe_ix ix_tup (pe_fld (pv 0) rfl) (pe_un un_neg pe_int) (fun _ _ => rfl)) (nomark _))))) (pss_one ps_no) pss_nil) 
    (pss_cons (ps_set (i := 2) sc_Way_mul.nd rfl (Or.inl rfl) (pe_ifExp (pt_cmpR op_gt (pe_callB call_len_seq (by rfl) m_len PySem.boot_len (pa_cons (pe_fld (pv 0) rfl) pa_nil)) pe_int (nomark _)) (pe_op op_repW (pe_fld (pv 0) rfl) (pv 1)) (pe_tup pa_nil))) 
    (pss_one (ps_ret (pe_make M_Way G_Way_init hr2 (by rfl) mg_Way b_Way_init .nil pass0 (pa_cons (pe_fld (pv 0) rfl) (pa_cons (pe_ix ix_tup (pe_fld (pv 0) rfl) pe_int (fun _ _ => rfl)) (pa_cons (pv 2) pa_nil)))))))), ?_⟩
    obtain ⟨dx, v1, v2, v3, v4, v5, h0, h1, h2, h3, h4, h5⟩ := id hx.is
    obtain ⟨a4, x4, rfl, ha4, hx4⟩ := Dp.seq_of (f := true) (show Dp K H v4 (seqD true _) from h4)
    have e4 := dpa_strs_of hx4
    subst e4
    obtain ⟨a2, x2, rfl, ha2, hx2⟩ := Dp.seq_of (f := true) (show Dp K H v2 (seqD true _) from h2)
    have e2 := dpa_strs_of hx2
    subst e2
    have hpos : (0 : Int) < (((ms.map (nmQ qs)).map V.str).length : Nat) := by
      rw [List.length_map, List.length_map]
      have := List.length_pos_iff.mpr hm0
      omega
    have hne : (ms.map (nmQ qs)).map V.str ≠ [] := fun z => by
      rw [z] at hpos
      exact absurd hpos (by decide)
    have hl2 : ((ms.map (nmQ qs)).map V.str).length ≤ 1000 := by
      rw [List.length_map, List.length_map]
      exact lm
    have hrep := path_rep hp hcl
    have erep : (((List.replicate k ms).flatten.map (nmQ qs)).map V.str) = (List.replicate k ((ms.map (nmQ qs)).map V.str)).flatten := by
      rw [List.map_flatten, List.map_flatten, List.map_replicate, List.map_replicate]
    have flen : (List.replicate k ms).flatten.length ≤ 100000 := by
      rw [PyProof.Rows.lm_len_rep_flat]
      have a1 : k * ms.length ≤ 90 * 1000 := Nat.mul_le_mul hk9 lm
      omega
    have fin : ∀ {H1 : Hp} {p : Addr}, Same H H1 → SqT K H1 p (List.replicate k ((ms.map (nmQ qs)).map V.str)).flatten → ∀ (z dz : Addr), H1 z = none → H1 dz = none → dz ≠ z → spInit K C [.ref z, v1, .str w, .ref p] (upd (upd H1 dz (.own z)) z (.ins C dz [])) (fun v H2 => v = .non ∧ Q (.ref z) H2) E0 := fun {H1 p} s1 hp1 z dz hz hdz ne =>
      make_way (fq := true) hz hdz ne (s1.dp h1) (.tup (by rw [erep]; exact hp1) dpa_strs) hG hw hrep w6 q6 flen fun H' s' hway => q H' z (s1.trans s') hway
    refine ⟨_, rfl, _, _, rfl, rfl, ⟨_, rfl, ?_⟩⟩
    by_cases hk : (1 : Int) < (k : Nat)
    · rw [decide_eq_true hk]
      refine iteT ?_
      refine ⟨_, rfl, x, C, dx, _, _, rfl, h0, T_Way.cl, T_Way.n4, f5_at.2.2.2.1, a4, _, _, _, rfl, rfl, ha4, at_first, ?_⟩
      refine ⟨_, rfl, x, C, dx, _, _, rfl, h0, T_Way.cl, T_Way.n4, f5_at.2.2.2.1, 1, rfl, a4, _, _, _, rfl, rfl, ha4, at_last, rfl, _, rfl, ?_⟩
      rw [decS', decide_eq_true (hcl (by omega))]
      refine iteF ?_
      dsimp only [tNext]
      refine asg_of ?_
      refine ⟨_, rfl, x, C, dx, _, _, rfl, h0, T_Way.cl, T_Way.n2, f5_at.2.1, a2, _, rfl, .inr ha2, _, _, rfl, rfl, ?_⟩
      refine ⟨_, rfl, ?_⟩
      rw [decide_eq_true hpos]
      refine iteT ?_
      refine ⟨_, rfl, x, C, dx, _, _, rfl, h0, T_Way.cl, T_Way.n2, f5_at.2.1, _, rfl, ?_⟩
      refine ⟨a2, _, _, rfl, rfl, ha2, hne, by omega, by omega, hl2, fun e1 => ?_, fun e0 p hp0 => ?_, fun e2 p hp0 => ?_⟩
      · exfalso; omega
      · exfalso; omega
      · rw [Int.toNat_natCast]
        have s1 : Same H (upd H p (.tup (List.replicate k ((ms.map (nmQ qs)).map V.str)).flatten)) := .upd hp0
        have h0' := s1 _ _ h0
        have ha4' := s1.sqF ha4
        dsimp only [List.set]
        refine ⟨_, rfl, x, C, dx, _, _, rfl, h0', T_Way.cl, T_Way.n1, f5_at.1, ?_⟩
        refine ⟨_, rfl, x, C, dx, _, _, rfl, h0', T_Way.cl, T_Way.n4, f5_at.2.2.2.1, a4, _, _, _, rfl, rfl, ha4', at_first, ?_⟩
        refine ⟨_, rfl, ?_⟩
        exact fin s1 (sqt_of upd_same)
    · rw [decide_eq_false hk]
      refine iteF ?_
      refine iteF ?_
      dsimp only [tNext]
      refine asg_of ?_
      refine ⟨_, rfl, x, C, dx, _, _, rfl, h0, T_Way.cl, T_Way.n2, f5_at.2.1, a2, _, rfl, .inr ha2, _, _, rfl, rfl, ?_⟩
      refine ⟨_, rfl, ?_⟩
      rw [decide_eq_true hpos]
      refine iteT ?_
      refine ⟨_, rfl, x, C, dx, _, _, rfl, h0, T_Way.cl, T_Way.n2, f5_at.2.1, _, rfl, ?_⟩
      refine ⟨a2, _, _, rfl, rfl, ha2, hne, by omega, by omega, hl2, fun e1 => ?_, fun e0 p hp0 => ?_, fun e2 p hp0 => ?_⟩
      · dsimp only [List.set]
        refine ⟨_, rfl, x, C, dx, _, _, rfl, h0, T_Way.cl, T_Way.n1, f5_at.1, ?_⟩
        refine ⟨_, rfl, x, C, dx, _, _, rfl, h0, T_Way.cl, T_Way.n4, f5_at.2.2.2.1, a4, _, _, _, rfl, rfl, ha4, at_first, ?_⟩
        refine ⟨_, rfl, ?_⟩
        obtain rfl : k = 1 := by omega
        exact fin (fun _ _ e => e) (by rw [List.replicate_one, List.flatten_cons, List.flatten_nil, List.append_nil]; exact ha2)
      · have h0' := Same.upd (o := .tup []) hp0 _ _ h0
        have ha4' := (Same.upd (o := .tup []) hp0).sqF ha4
        dsimp only [List.set]
        refine ⟨_, rfl, x, C, dx, _, _, rfl, h0', T_Way.cl, T_Way.n1, f5_at.1, ?_⟩
        refine ⟨_, rfl, x, C, dx, _, _, rfl, h0', T_Way.cl, T_Way.n4, f5_at.2.2.2.1, a4, _, _, _, rfl, rfl, ha4', at_first, ?_⟩
        refine ⟨_, rfl, ?_⟩
        obtain rfl : k = 0 := by omega
        exact fin (.upd hp0) (sqt_of upd_same)
      · exfalso; omega
end
end Jl

set_option Elab.async false
set_option linter.all false
set_option maxRecDepth 100000
set_option maxHeartbeats 1000000
set_option pp.maxSteps 300
namespace Jl
open PySem PySem.Spec PyProof.Rows L2
open Evl (sz_of sz_lt)
local macro_rules | `(tactic| walk_at "at") => `(tactic| first | exact box0 | exact box1 | exact box2)
local macro_rules | `(tactic| walk_at "sq") => `(tactic| first | (show SqL _ _ _ _; assumption) | (show SqT _ _ _ _; assumption) | (show _ = some _; assumption))
local macro_rules | `(tactic| walk_at "side") => `(tactic| first
  | (show (0 : Int) < _; decide)
  | (show (0 : Int) < _; omega)
  | exact ⟨by decide, by decide, by decide⟩
  | exact sz_of (Nat.le_of_ble_eq_true rfl)
  | exact rfl
  | exact Or.inl (by decide)
  | exact Or.inr (by decide)
  | exact Or.inr ⟨by omega, by omega⟩
  | exact Or.inl ⟨by omega, by omega⟩
  | exact ⟨by decide, by decide +kernel⟩)
local macro_rules | `(tactic| walk_at "ev1") => `(tactic| first
  | refine ⟨_, rfl, ?_⟩
  | refine ⟨_, _, rfl, rfl, ?_⟩
  | refine ⟨_, _, _, _, rfl, rfl, (by walk_at "sq"), (by walk_at "at"), ?_⟩
  | refine ⟨_, _, rfl, (by walk_at "sq"), ?_⟩
  | refine ⟨_, _, rfl, Or.inl (by walk_at "sq"), ?_⟩
  | refine ⟨_, _, rfl, Or.inr (by walk_at "sq"), ?_⟩
  | refine Or.inl ⟨_, rfl, ?_⟩
  | refine Or.inr ⟨_, rfl, ?_⟩
  | refine ⟨(by walk_at "side"), ?_⟩
  | refine ⟨.inl ⟨rfl, _, (by walk_at "sq")⟩, ?_⟩
  | refine ⟨_, _, rfl, ?_⟩)
local macro_rules | `(tactic| walk_at "nrm") => `(tactic| dsimp only [tNil, tCons, tC, tCB])
local macro_rules | `(tactic| walk_at "ev") => `(tactic| repeat (walk_at "ev1"))
/-! ### rings turned -/
theorem stepD_mem {acc : List Str} {x y : Str} : y ∈ stepD acc x ↔ y ∈ acc ∨ y = x := by
  unfold stepD
  split
  · rename_i h
    exact ⟨.inl, fun z => z.elim id fun e => by rw [e]; exact h⟩
  · rw [List.mem_append, List.mem_singleton]
theorem stepD_nd {acc : List Str} {x : Str} (h : acc.Nodup) : (stepD acc x).Nodup := by
  unfold stepD
  split
  · exact h
  · rename_i hx
    refine List.nodup_append.mpr ⟨h, List.nodup_cons.mpr ⟨List.not_mem_nil, List.nodup_nil⟩, fun a ha b hb e => hx ?_⟩
    rw [← List.mem_singleton.mp hb, ← e]
    exact ha
theorem dedF : ∀ {xs acc : List Str}, acc.Nodup → (xs.foldl stepD acc).Nodup ∧ ∀ y, y ∈ xs.foldl stepD acc ↔ y ∈ acc ∨ y ∈ xs
  | [], acc, h => ⟨h, fun y => by simp⟩
  | x :: xs, acc, h => by
    obtain ⟨h1, h2⟩ := dedF (xs := xs) (stepD_nd (x := x) h)
    refine ⟨h1, fun y => ?_⟩
    rw [List.foldl_cons, h2 y, stepD_mem, List.mem_cons, or_assoc]
theorem dedS_nd {xs : List Str} : (dedS xs).Nodup := (dedF List.nodup_nil).1
theorem mem_dedS {xs : List Str} {y : Str} : y ∈ dedS xs ↔ y ∈ xs := by
  have := (dedF (xs := xs) List.nodup_nil).2 y
  rw [show (y ∈ ([] : List Str) ∨ y ∈ xs) ↔ y ∈ xs by simp] at this
  exact this
theorem ded_le {xs U : List Str} (h : ∀ x ∈ xs, x ∈ U) : (dedS xs).length ≤ U.length := List.Nodup.length_le_of_subset dedS_nd fun x hx => h x (mem_dedS.mp hx)
theorem ded_ge {xs U : List Str} (hn : U.Nodup) (h : ∀ x ∈ U, x ∈ xs) : U.length ≤ (dedS xs).length := List.Nodup.length_le_of_subset hn fun x hx => mem_dedS.mpr (h x hx)
theorem cost_cons {qs : List QD} {m : Mk} {r : List Mk} : costQ qs (m :: r) = prQ qs m + costQ qs r := by
  unfold costQ
  rw [List.map_cons, List.sum_cons]
theorem cost_perm {qs : List QD} {a b : List Mk} (h : a.Perm b) : costQ qs a = costQ qs b := by
  induction h with
  | nil => rfl
  | cons x _ ih => rw [cost_cons, cost_cons, ih]
  | swap x y l => rw [cost_cons, cost_cons, cost_cons, cost_cons]; omega
  | trans _ _ i1 i2 => rw [i1, i2]
theorem path_app {qs : List QD} : ∀ {p : List Mk} {vs : List Str} {q : List Mk}, path qs vs (p ++ q) → path qs (vs.take (p.length + 1)) p ∧ path qs (vs.drop p.length) q
  | [], v :: vs, q, h => ⟨by show path qs [v] []; exact True.intro, h⟩
  | [], [], q, h => absurd h id
  | m :: p, v :: u :: vs, q, h => by
    have h : link qs m v u ∧ path qs (u :: vs) (p ++ q) := h
    obtain ⟨h1, h2⟩ := path_app h.2
    refine ⟨?_, h2⟩
    show path qs (v :: (u :: vs).take (p.length + 1)) (m :: p)
    rw [List.take_succ_cons] at h1 ⊢
    exact ⟨h.1, h1⟩
  | m :: p, [v], q, h => absurd h id
  | m :: p, [], q, h => absurd h id
/-- a closed row, begun anywhere: the workers behind x are U -/
structure Turned (qs : List QD) (x : Str) (U : List Str) (R : List Mk) : Prop where
  pa : path qs (x :: U) R
  la : U.getLastD x = x
  nd : U.Nodup
  mx : (R.map (·.1)).Nodup
  l2 : 2 ≤ R.length
theorem Turned.ln {qs : List QD} {x : Str} {U : List Str} {R : List Mk} (t : Turned qs x U R) : U.length = R.length := by
  have := path_len t.pa
  rw [List.length_cons] at this
  omega
theorem ring_marks {qs : List QD} {w : Str} {us : List Str} {r : List Mk} (h : RingW qs w us r) : (r.map (·.1)).Nodup := by
  have hl := path_len h.pa
  rw [List.length_append, List.length_cons, List.length_singleton] at hl
  have hwn : (w :: us).Nodup := List.nodup_cons.mpr ⟨fun z => (h.gt w z).1 rfl, h.nd⟩
  refine List.pairwise_iff_getElem.mpr fun i j hi hj hij e => ?_
  rw [List.length_map] at hi hj
  rw [List.getElem_map, List.getElem_map] at e
  obtain ⟨a, b, h1, h2, h3⟩ := path_get h.pa (List.getElem?_eq_getElem hi)
  obtain ⟨c, d, g1, g2, g3⟩ := path_get h.pa (List.getElem?_eq_getElem hj)
  have inn : ∀ {k : Nat} {z : Str}, k ≤ us.length → (w :: us ++ [w])[k]? = some z → (w :: us)[k]? = some z := fun {k z} hk e => by
    rw [List.getElem?_append_left (by rw [List.length_cons]; omega)] at e
    exact e
  have k1 := inn (by omega) h1
  have k2 := inn (by omega) h2
  have k3 := inn (by omega) g1
  rcases link_same e h3 g3 with ⟨e1, _⟩ | ⟨e1, e2⟩
  · rw [e1] at k1
    have := nodup_ix hwn k1 k3
    omega
  · rw [e2] at k2
    have e3 := nodup_ix hwn k2 k3
    by_cases hj2 : j + 1 ≤ us.length
    · have k4 := inn hj2 g2
      rw [e1] at k1
      have := nodup_ix hwn k1 k4
      omega
    · have ej : j = us.length := by omega
      have hd : d = w := by
        rw [List.getElem?_append_right (by rw [List.length_cons]; omega), ej, List.length_cons, Nat.sub_self] at g2
        exact (Option.some.inj g2).symm
      have k0 : (w :: us)[0]? = some w := rfl
      rw [e1, hd] at k1
      have e0 := nodup_ix hwn k1 k0
      have hr : r = [r[i]] ++ [r[j]] := by
        refine List.ext_getElem (by simp; omega) fun n n1 n2 => ?_
        match n, n1 with
        | 0, _ => simp [e0]
        | 1, _ => simp [show j = 1 by omega]
        | n + 2, n1 => omega
      exact h.la _ _ hr (by rw [List.map_singleton, List.mem_singleton]; exact e.symm)
theorem turned_of {qs : List QD} {w : Str} {us : List Str} {r : List Mk} (h : RingW qs w us r) {k : Nat} (hk : k < r.length) : ∃ x U, Turned qs x U (r.drop k ++ r.take k) := by
  have hl := path_len h.pa
  rw [List.length_append, List.length_cons, List.length_singleton] at hl
  have hu := List.length_pos_iff.mpr h.ne
  have hwn : (w :: us).Nodup := List.nodup_cons.mpr ⟨fun z => (h.gt w z).1 rfl, h.nd⟩
  have hpa : path qs (w :: (us ++ [w])) (r.take k ++ r.drop k) := by
    rw [List.take_append_drop]
    exact h.pa
  obtain ⟨p1, p2⟩ := path_app hpa
  have lk : (r.take k).length = k := by rw [List.length_take]; omega
  rw [lk] at p1 p2
  have hkl : k < (w :: (us ++ [w])).length := by simp; omega
  rw [List.take_succ_cons, List.take_append_of_le_length (by omega)] at p1
  rw [List.drop_eq_getElem_cons hkl, List.drop_succ_cons, List.drop_append_of_le_length (by omega)] at p2
  refine ⟨(w :: (us ++ [w]))[k], us.drop k ++ [w] ++ us.take k, path_cat p2 (by rw [List.getLastD_concat]; exact p1), ?_, ?_, ?_, ?_⟩
  · match k, hkl with
    | 0, _ =>
      rw [List.take_zero, List.append_nil, List.getLastD_concat]
      rfl
    | k + 1, hkl =>
      have hku : k < us.length := by omega
      rw [List.take_add_one, List.getElem?_eq_getElem hku]
      show (us.drop (k + 1) ++ [w] ++ (us.take k ++ [us[k]])).getLastD _ = _
      rw [← List.append_assoc, List.getLastD_concat, List.getElem_cons_succ, List.getElem_append_left hku]
  · refine (List.Perm.nodup_iff ?_).mpr hwn
    rw [List.append_assoc]
    refine List.perm_append_comm.trans ?_
    rw [List.append_assoc, List.take_append_drop]
    exact List.Perm.refl _
  · refine (List.Perm.nodup_iff ?_).mpr (ring_marks h)
    refine List.Perm.map _ ?_
    have : (r.drop k ++ r.take k).Perm (r.take k ++ r.drop k) := List.perm_append_comm
    rw [List.take_append_drop] at this
    exact this
  · rw [List.length_append, List.length_drop, List.length_take]
    omega
theorem turn_perm {r : List Mk} {k : Nat} : (r.drop k ++ r.take k).Perm r := by
  have : (r.drop k ++ r.take k).Perm (r.take k ++ r.drop k) := List.perm_append_comm
  rw [List.take_append_drop] at this
  exact this
theorem Turned.mem {qs : List QD} {x : Str} {U : List Str} {R : List Mk} (t : Turned qs x U R) : x ∈ U := by
  have h := t.la
  have hn : U ≠ [] := fun z => by
    have a := t.ln
    have b := t.l2
    rw [z] at a
    simp at a
    omega
  have g : (x :: U)[U.length]? = some (U.getLastD x) := last_get
  rw [h] at g
  obtain ⟨u, us, rfl⟩ : ∃ u us, U = u :: us := by
    cases U with
    | nil => exact absurd rfl hn
    | cons u us => exact ⟨u, us, rfl⟩
  rw [List.length_cons, List.getElem?_cons_succ] at g
  exact List.mem_of_getElem? g
theorem nms_nd {ws : List Str} {qs : List QD} (g : NetG ws qs) : ∀ {R : List Mk}, (R.map (·.1)).Nodup → (∀ m ∈ R, m.1 < qs.length) → (R.map (nmQ qs)).Nodup
  | [], _, _ => List.nodup_nil
  | m :: R, h, hl => by
    rw [List.map_cons, List.nodup_cons] at h ⊢
    refine ⟨fun z => h.1 ?_, nms_nd g h.2 fun x hx => hl x (List.mem_cons_of_mem _ hx)⟩
    obtain ⟨m2, hm2, e⟩ := List.mem_map.mp z
    exact List.mem_map.mpr ⟨m2, hm2, (nm_inj g (hl m2 (List.mem_cons_of_mem _ hm2)) (hl m List.mem_cons_self)).mp e⟩
theorem path_lt {qs : List QD} {vs : List Str} {ms : List Mk} (h : path qs vs ms) : ∀ m ∈ ms, m.1 < qs.length := fun m hm => by
  obtain ⟨x, y, hl, _⟩ := path_in h hm
  exact link_lt hl
theorem ring_yes {ws : List Str} {qs : List QD} {x : Str} {U : List Str} {R : List Mk} (g : NetG ws qs) (t : Turned qs x U R) : ringF qs x U R = true := by
  unfold ringF
  have h1 : (dedS (x :: U)).length = R.length := by
    have a := ded_le (xs := x :: U) (U := U) fun y hy => by
      rcases List.mem_cons.mp hy with rfl | hy
      · exact t.mem
      · exact hy
    have b := ded_ge (xs := x :: U) t.nd fun y hy => List.mem_cons_of_mem _ hy
    rw [← t.ln]
    omega
  have h2 : (dedS (R.map (nmQ qs))).length = R.length := by
    have a := dedS_len (R.map (nmQ qs))
    have b := ded_ge (xs := R.map (nmQ qs)) (nms_nd g t.mx (path_lt t.pa)) fun y hy => hy
    rw [List.length_map] at a b
    omega
  rw [t.la, decide_eq_true rfl, decide_eq_true h1, decide_eq_true h2]
  rfl
/-- more steps than workers -/
theorem ring_long {qs : List QD} {x : Str} {us U : List Str} {ms : List Mk} (h : ∀ y ∈ x :: us, y ∈ U) (hl : U.length < ms.length) : ringF qs x us ms = false := by
  unfold ringF
  have a := ded_le h
  rw [decide_eq_false (show ¬ (dedS (x :: us)).length = ms.length by omega), Bool.false_and, Bool.and_false]
theorem ring_open {qs : List QD} {x : Str} {us : List Str} {ms : List Mk} (h : x ≠ us.getLastD x) : ringF qs x us ms = false := by
  unfold ringF
  rw [decide_eq_false h, Bool.false_and]
theorem ring_none {qs : List QD} {x : Str} : ringF qs x [] [] = false := by
  unfold ringF
  rw [decide_eq_false (show ¬ (dedS [x]).length = ([] : List Mk).length from fun z => nomatch z), Bool.false_and, Bool.and_false]
theorem ring_twice {qs : List QD} {x : Str} {us : List Str} {m m' : Mk} (h : nmQ qs m = nmQ qs m') : ringF qs x us [m, m'] = false := by
  unfold ringF
  have e : (dedS ([m, m'].map (nmQ qs))).length = 1 := by
    show (dedS [nmQ qs m, nmQ qs m']).length = 1
    rw [h]
    show (stepD (stepD [] _) _).length = 1
    unfold stepD
    simp
  rw [e, decide_eq_false (show ¬ 1 = [m, m'].length from fun z => nomatch z), Bool.and_false, Bool.and_false]
end Jl

set_option Elab.async false
set_option linter.all false
set_option maxRecDepth 100000
set_option maxHeartbeats 1000000
set_option pp.maxSteps 300
namespace Jl
open PySem PySem.Spec PyProof.Rows L2
open Evl (sz_of sz_lt)
local macro_rules | `(tactic| walk_at "at") => `(tactic| first | exact box0 | exact box1 | exact box2)
local macro_rules | `(tactic| walk_at "sq") => `(tactic| first | (show SqL _ _ _ _; assumption) | (show SqT _ _ _ _; assumption) | (show _ = some _; assumption))
local macro_rules | `(tactic| walk_at "side") => `(tactic| first
  | (show (0 : Int) < _; decide)
  | (show (0 : Int) < _; omega)
  | exact ⟨by decide, by decide, by decide⟩
  | exact sz_of (Nat.le_of_ble_eq_true rfl)
  | exact rfl
  | exact Or.inl (by decide)
  | exact Or.inr (by decide)
  | exact Or.inr ⟨by omega, by omega⟩
  | exact Or.inl ⟨by omega, by omega⟩
  | exact ⟨by decide, by decide +kernel⟩)
local macro_rules | `(tactic| walk_at "ev1") => `(tactic| first
  | refine ⟨_, rfl, ?_⟩
  | refine ⟨_, _, rfl, rfl, ?_⟩
  | refine ⟨_, _, _, _, rfl, rfl, (by walk_at "sq"), (by walk_at "at"), ?_⟩
  | refine ⟨_, _, rfl, (by walk_at "sq"), ?_⟩
  | refine ⟨_, _, rfl, Or.inl (by walk_at "sq"), ?_⟩
  | refine ⟨_, _, rfl, Or.inr (by walk_at "sq"), ?_⟩
  | refine Or.inl ⟨_, rfl, ?_⟩
  | refine Or.inr ⟨_, rfl, ?_⟩
  | refine ⟨(by walk_at "side"), ?_⟩
  | refine ⟨.inl ⟨rfl, _, (by walk_at "sq")⟩, ?_⟩
  | refine ⟨_, _, rfl, ?_⟩)
local macro_rules | `(tactic| walk_at "nrm") => `(tactic| dsimp only [tNil, tCons, tC, tCB])
local macro_rules | `(tactic| walk_at "ev") => `(tactic| repeat (walk_at "ev1"))
abbrev sc_w_from_N : List Str := ["_law_web_here", "_law_row", "_law_k", "_law_turned", "_law_at_so", "_law_sign", "_law_place_so", "_law_mark"]
abbrev s_w_from : Stmt := topS 20
theorem sc_w_from : FnScope ["_law_web_here", "_law_row", "_law_k", "_law_turned", "_law_at_so", "_law_sign", "_law_place_so", "_law_mark"] ["_law_web_here", "_law_row", "_law_k"] (defScope s_w_from) := ⟨rfl, rfl, rfl, by decide +kernel, rfl, by decide +kernel, by decide +kernel⟩
theorem cut_to {xs : List V} {k : Nat} : cutV xs none (some (k : Int)) = xs.take k := by
  have := cutV_map (f := id) (xs := xs) (k := k)
  rwa [List.map_id, List.map_id] at this
theorem cut_from {xs : List V} {k : Nat} : cutV xs (some (k : Int)) none = xs.drop k := by
  unfold cutV
  rw [show HT.sIx xs.length xs.length none = xs.length from HT.sIx_none _ _, show HT.sIx xs.length 0 (some (k : Int)) = min k xs.length from HT.sIx_nat _ _ _]
  by_cases h : k ≤ xs.length
  · rw [Nat.min_eq_left h]
    exact List.take_of_length_le (by rw [List.length_drop]; omega)
  · rw [Nat.min_eq_right (by omega), Nat.sub_self, List.take_zero, List.drop_of_length_le (by omega)]
theorem dpa_drop {K : PySem.W.Frag} {H : Hp} : ∀ {vs : List V} {ds : List PyData}, DpAll K H vs ds → ∀ k, DpAll K H (vs.drop k) (ds.drop k)
  | _, _, h, 0 => h
  | _, _, .nil, k + 1 => .nil
  | _, _, .cons _ h, k + 1 => dpa_drop h k
theorem dpa_take {K : PySem.W.Frag} {H : Hp} : ∀ {vs : List V} {ds : List PyData}, DpAll K H vs ds → ∀ k, DpAll K H (vs.take k) (ds.take k)
  | _, _, _, 0 => .nil
  | _, _, .nil, k + 1 => .nil
  | _, _, .cons h1 h, k + 1 => .cons h1 (dpa_take h k)
section
variable {P : Program} {w : World} {K : PySem.W.Frag} {mg : Str → Option Value} {base : Heap}
def spFrom (K : PySem.W.Frag) : Sp := fun vs H Q _ => ∃ (v u : V) (k : Nat) (ws : List Str) (qs : List QD) (r : List Mk) (x : Str) (U : List Str), vs = [v, u, .int (k : Nat)] ∧ Dp K H v (netD true ws qs) ∧ Dp K H u (rowL r) ∧ path qs (x :: U) (r.drop k ++ r.take k) ∧ k < r.length ∧ r.length ≤ 1000 ∧
  ∀ H' p D, Same H H' → H p = none → H D = none → D ≠ p → H' p = some (.tup [.str x, .ref D]) → H' D = some (.lst (((r.drop k ++ r.take k).map (nmQ qs)).map V.str)) → Q (.ref p) H'
theorem ok_w_from {f : Addr} {fd : FuncData} {k : Nat} (F : Fun K "_law_from" "_law_from" s_w_from f fd) : FnOk P w K mg base CX0 (k + 1) f fd ["_law_web_here", "_law_row", "_law_k"] (spFrom K) := by
  refine F.ok sc_w_from (fun vs H Q E h => ?_) (fun cdv A outer s0 H vs Q E hr h => ?_)
  · obtain ⟨v, u, k, ws, qs, r, x, U, rfl, _⟩ := h
    rfl
  · obtain ⟨v, u, k, ws, qs, r, x, U, rfl, hD, hU, hp, hk, hl, q⟩ := h
    refine ⟨_, (pss_cons (ps_set (i := 3) sc_w_from.nd rfl (Or.inl rfl) (pe_op op_cat (pe_slice sl_list (pv 1) (po_some (pv 2)) po_none) (pe_slice sl_list (pv 1) po_none (po_some (pv 2))))) 
    (pss_cons (ps_asg (pe_ix ix_lt (pv 3) pe_int (fun _ _ => rfl)) (pg_tup rfl (pgs_cons (pg_name (i := 4) sc_w_from.nd rfl (Or.inl rfl)) (pgs_cons (pg_name (i := 5) sc_w_from.nd rfl (Or.inl rfl)) pgs_nil)))) 
    (pss_one (ps_ret (pe_tup (pa_cons (pe_ix ix_lt (pe_ix ix_lt (pe_ix ix_lt (pv 0) pe_int (fun _ _ => rfl)) (pv 4) (fun _ _ => rfl)) (pe_ifExp (pt_cmpR op_eq (pv 5) pe_int (nomark _)) pe_int pe_int) (fun _ _ => rfl)) (pa_cons (pe_lcX (pe_lc (own := [("_law_place_so", 6), ("_law_mark", 7)]) (g := gTup K 2 (gCons (gName 6) (gCons (gName 7) gNil))) (tt := tYes) (te := (tOp (rIxF K) (tOp (rIxF K) (tOp (rIxF K) (tVar 0) (tC (.int 1))) (tVar 6)) (tC (.int 0)))) (by rfl) sc_w_from.nd (pi_seq (pv 3)) (blkOk_by (own := [("_law_place_so", 6), ("_law_mark", 7)]) (N := sc_w_from_N) (sc := defScope s_w_from) (by decide +kernel)) (fun _ _ _ _ _ => pg_tup rfl (pgs_cons (pg_name (i := 6) sc_w_from.nd rfl (Or.inl rfl)) (pgs_cons (pg_name (i := 7) sc_w_from.nd rfl (Or.inl rfl)) pgs_nil))) (fun _ _ _ _ _ => pts_nil) (fun _ _ _ _ _ => (pe_ix ix_lt (pe_ix ix_lt (pe_ix ix_lt (pv 0) pe_int (fun _ _ => rfl)) (pv 6) (fun _ _ => rfl)) pe_int (fun _ _ => rfl))))) pa_nil))))))), ?_⟩
    obtain ⟨a0, a1, a2, xq, rfl, N0⟩ := netAt hD
    have i1 : atI [V.ref a1, V.ref a2] 1 = some (.ref a2) := atI_nat (j := 1) rfl
    obtain ⟨rr, xr, rfl, hrr, hxr⟩ := Dp.seq_of (f := false) hU
    refine asg_of ?_
    have lx : xr.length = r.length := by
      have := dpa_len hxr
      rwa [List.length_map] at this
    refine ⟨_, rfl, _, rfl, _, rfl, rr, _, rfl, hrr, fun p1 hp1 => ?_⟩
    rw [cut_from]
    have s1 : Same H (upd H p1 (.lst (xr.drop k))) := .upd hp1
    refine ⟨_, rfl, _, rfl, _, rfl, rr, _, rfl, s1.sqF hrr, fun p2 hp2 => ?_⟩
    rw [cut_to]
    have s2 : Same (upd H p1 (.lst (xr.drop k))) (upd (upd H p1 (.lst (xr.drop k))) p2 (.lst (xr.take k))) := .upd hp2
    refine ⟨p1, p2, _, _, rfl, rfl, s2 _ _ upd_same, upd_same, Nat.le_trans (by rw [List.length_drop, List.length_take]; omega) (show 1000 ≤ sizeLine by decide), fun p3 hp3 => ?_⟩
    have s3 := (s1.trans s2).trans (.upd (o := .lst (xr.drop k ++ xr.take k)) hp3)
    have h3 : (upd (upd (upd H p1 (.lst (xr.drop k))) p2 (.lst (xr.take k))) p3 (.lst (xr.drop k ++ xr.take k))) p3 = some (.lst (xr.drop k ++ xr.take k)) := upd_same
    have hda : DpAll K H (xr.drop k ++ xr.take k) ((r.drop k ++ r.take k).map mkL) := by
      rw [List.map_append, List.map_drop, List.map_take]
      exact dpa_app (dpa_drop hxr k) (dpa_take hxr k)
    have n3 : H p3 = none := by
      cases hh : H p3 with
      | none => rfl
      | some o =>
        rw [(s1.trans s2) _ _ hh] at hp3
        cases hp3
    generalize upd (upd (upd H p1 (.lst (xr.drop k))) p2 (.lst (xr.take k))) p3 (.lst (xr.drop k ++ xr.take k)) = H3 at s3 h3 ⊢
    clear hp1 hp2 hp3 s1 s2
    have lR : (r.drop k ++ r.take k).length = r.length := by rw [List.length_append, List.length_drop, List.length_take]; omega
    generalize r.drop k ++ r.take k = R at hp hda lR q
    generalize xr.drop k ++ xr.take k = xR at h3 hda
    cases R with
    | nil =>
      rw [← lR] at hk
      exact absurd hk (Nat.not_lt_zero _)
    | cons m R =>
    obtain ⟨y, U, rfl, hlk, _⟩ : ∃ y U', U = y :: U' ∧ link qs m x y ∧ path qs (y :: U') R := by
      cases U with
      | nil => exact absurd hp id
      | cons y U => exact ⟨y, U, rfl, hp.1, hp.2⟩
    have hda3 := s3.dpa hda
    dsimp only [List.set]
    have hlt := path_lt hp
    have N3 := N0.same s3
    cases hda with
    | @cons vm dm xR' _ dm1 dm2 =>
      obtain ⟨am, ym, rfl, hm1, hm2⟩ := Dp.seq_of (f := true) (show Dp K H vm (seqD true [.int (m.1 : Int), .int (sgI m.2)]) from dm1)
      cases hm2 with
      | cons k1 hm2 =>
        cases hm2 with
        | cons k2 hm2 =>
          cases hm2
          cases k1
          cases k2
          refine ⟨_, rfl, rIxF_at (f := false) (sql_of h3) (atI_nat (j := 0) rfl) ?_⟩
          refine ⟨am, _, rfl, s3.sqF hm1, rfl, _, _, rfl, _, _, rfl, rfl, ?_⟩
          dsimp only [List.set]
          obtain ⟨qd, aq, g1, g2, g3⟩ := web_at N3 (hlt m List.mem_cons_self)
          have sel : ∀ {Q' : VK}, Q' (.str x) H3 → tOp (rIxF K) (tOp (rIxF K) (tOp (rIxF K) (tVar 0) (tC (.int 1))) (tVar 4)) (tIf (tTest (tOp rEq (tVar 5) (tC (.int 1)))) (tC (.int 1)) (tC (.int 2))) [some (.ref a0), some (.ref rr), some (.int (k : Nat)), some (.ref p3), some (.int (m.1 : Int)), some (.int (sgI m.2)), none, none] H3 Q' := fun {Q'} q' => by
            refine ⟨_, rfl, rIxF_at N3.h0 i1 ⟨_, rfl, rIxF_at N3.h2 g2 ?_⟩⟩
            obtain ⟨qd', g1', hc⟩ := hlk
            rw [g1] at g1'
            cases g1'
            refine ⟨_, rfl, rfl, _, rfl, ?_⟩
            rcases hc with ⟨hb, e1, _⟩ | ⟨hb, e1, _⟩
            · rw [hb, show decide (V.int (sgI true) = V.int 1) = true from rfl]
              refine iteT ?_
              rw [← e1] at q'
              exact rIxF_at (f := true) g3 (atI_nat (j := 1) rfl) q'
            · rw [hb, show decide (V.int (sgI false) = V.int 1) = false from rfl]
              refine iteF ?_
              rw [← e1] at q'
              exact rIxF_at (f := true) g3 (atI_nat (j := 2) rfl) q'
          refine sel ?_
          refine lc_pairF (fb := false) (m :: R) (fun m => .int (m.1 : Int)) (fun m => .int (sgI m.2)) (fun m => .str (nmQ qs m)) (fun _ => true) (fun R' q' => ⟨_, rfl, q'⟩) (sql_of h3) hda3 (by omega) (fun x y => rfl) (fun x y m H1 hm e1 hx hy Q' q' => q') (fun x y m H1 T hm hb e1 tr hx hy Q' q' => ?_) (fun D ys H4 s4 hD0 h5 h6 => ?_)
          · cases hx
            cases hy
            obtain ⟨qd, aq, g1, g2, g3⟩ := web_at (m := m) (N3.same e1) (hlt m hm)
            have er : nmQ qs m = qd.nm := by unfold nmQ; rw [g1]
            rw [er] at q'
            exact ⟨_, rfl, rIxF_at (N3.same e1).h0 i1 ⟨_, rfl, rIxF_at (N3.same e1).h2 g2 (rIxF_at (f := true) g3 (atI_nat (j := 0) rfl) (q' H1 _ (fun _ _ e => e) (.str _)))⟩⟩
          · have h7 : DpAll K (cutS [D] H4) ys (((m :: R).map (nmQ qs)).map PyData.str) := by
              rw [List.map_map]
              rw [List.filter_eq_self.mpr fun _ _ => rfl] at h6
              exact h6
            have ey := dpa_strs_of h7
            subst ey
            refine ⟨by show 2 ≤ sizeLine; decide, fun p hp0 => ?_⟩
            have hDp : D ≠ p := fun z => by
              rw [← z, h5] at hp0
              cases hp0
            have np : H p = none := by
              cases hh : H p with
              | none => rfl
              | some o =>
                rw [(s3.trans s4) _ _ hh] at hp0
                cases hp0
            have nD : H D = none := by
              cases hh : H D with
              | none => rfl
              | some o =>
                rw [s3 _ _ hh] at hD0
                cases hD0
            exact q _ p D ((s3.trans s4).trans (.upd hp0)) np nD hDp upd_same (by rw [upd_ne hDp]; exact h5)
end
end Jl

set_option Elab.async false
set_option linter.all false
set_option maxRecDepth 100000
set_option maxHeartbeats 1000000
set_option pp.maxSteps 300
namespace Jl
open PySem PySem.Spec PyProof.Rows L2
open Evl (sz_of sz_lt)
local macro_rules | `(tactic| walk_at "at") => `(tactic| first | exact box0 | exact box1 | exact box2)
local macro_rules | `(tactic| walk_at "sq") => `(tactic| first | (show SqL _ _ _ _; assumption) | (show SqT _ _ _ _; assumption) | (show _ = some _; assumption))
local macro_rules | `(tactic| walk_at "side") => `(tactic| first
  | (show (0 : Int) < _; decide)
  | (show (0 : Int) < _; omega)
  | exact ⟨by decide, by decide, by decide⟩
  | exact sz_of (Nat.le_of_ble_eq_true rfl)
  | exact rfl
  | exact Or.inl (by decide)
  | exact Or.inr (by decide)
  | exact Or.inr ⟨by omega, by omega⟩
  | exact Or.inl ⟨by omega, by omega⟩
  | exact ⟨by decide, by decide +kernel⟩)
local macro_rules | `(tactic| walk_at "ev1") => `(tactic| first
  | refine ⟨_, rfl, ?_⟩
  | refine ⟨_, _, rfl, rfl, ?_⟩
  | refine ⟨_, _, _, _, rfl, rfl, (by walk_at "sq"), (by walk_at "at"), ?_⟩
  | refine ⟨_, _, rfl, (by walk_at "sq"), ?_⟩
  | refine ⟨_, _, rfl, Or.inl (by walk_at "sq"), ?_⟩
  | refine ⟨_, _, rfl, Or.inr (by walk_at "sq"), ?_⟩
  | refine Or.inl ⟨_, rfl, ?_⟩
  | refine Or.inr ⟨_, rfl, ?_⟩
  | refine ⟨(by walk_at "side"), ?_⟩
  | refine ⟨.inl ⟨rfl, _, (by walk_at "sq")⟩, ?_⟩
  | refine ⟨_, _, rfl, ?_⟩)
local macro_rules | `(tactic| walk_at "nrm") => `(tactic| dsimp only [tNil, tCons, tC, tCB])
local macro_rules | `(tactic| walk_at "ev") => `(tactic| repeat (walk_at "ev1"))
abbrev sc_w_ring_right_N : List Str := ["_law_web_here", "_law_row", "_law_k", "_law_first", "_law_marks", "_law_paid", "_law_quiet", "_law_road", "_law_told", "_law_half", "_law_one", "_law_both", "_law_again", "_law_back", "_law_some", "_law_own", "_law_at_so", "_law_sign"]
abbrev s_w_ring_right : Stmt := topS 21
theorem sc_w_ring_right : FnScope ["_law_web_here", "_law_row", "_law_k", "_law_first", "_law_marks", "_law_paid", "_law_quiet", "_law_road", "_law_told", "_law_half", "_law_one", "_law_both", "_law_again", "_law_back", "_law_some", "_law_own", "_law_at_so", "_law_sign"] ["_law_web_here", "_law_row", "_law_k"] (defScope s_w_ring_right) := ⟨rfl, rfl, rfl, by decide +kernel, rfl, by decide +kernel, by decide +kernel⟩
theorem link_mem {ws : List Str} {qs : List QD} {m : Mk} {x y : Str} (g : NetG ws qs) (h : link qs m x y) : x ∈ ws ∧ y ∈ ws := by
  obtain ⟨q, hq, h⟩ := h
  obtain ⟨g1, g2, _⟩ := g.q1 q (List.mem_of_getElem? hq)
  rcases h with ⟨_, rfl, rfl⟩ | ⟨_, rfl, rfl⟩
  · exact ⟨g1, g2⟩
  · exact ⟨g2, g1⟩
theorem path_cut {qs : List QD} : ∀ {p : List Mk} {x : Str} {U : List Str} {q : List Mk}, path qs (x :: U) (p ++ q) → path qs (x :: U.take p.length) p ∧ path qs ((U.take p.length).getLastD x :: U.drop p.length) q
  | [], x, U, q, h => ⟨True.intro, h⟩
  | m :: p, x, u :: U, q, h => by
    have h : link qs m x u ∧ path qs (u :: U) (p ++ q) := h
    obtain ⟨h1, h2⟩ := path_cut h.2
    rw [List.length_cons, List.take_succ_cons, List.drop_succ_cons, List.getLastD_cons]
    exact ⟨⟨h.1, h1⟩, h2⟩
  | m :: p, x, [], q, h => absurd h id
theorem last_in {α : Type} : ∀ {l : List α} {x : α}, l ≠ [] → l.getLastD x ∈ l
  | [], _, h => absurd rfl h
  | [a], x, _ => by rw [List.getLastD_cons]; exact List.mem_cons_self
  | a :: b :: l, x, _ => by
    rw [List.getLastD_cons]
    exact List.mem_cons_of_mem _ (last_in (l := b :: l) (fun z => nomatch z))
theorem Turned.split {qs : List QD} {x : Str} {U : List Str} {R : List Mk} (t : Turned qs x U R) : ∃ V, U = V ++ [x] ∧ x ∉ V ∧ V ≠ [] := by
  have h := path_last (qs := qs) (w := x) (us := U)
  rw [t.la] at h
  have l2 := t.l2
  have ln := t.ln
  obtain ⟨u, us, rfl⟩ : ∃ u us, U = u :: us := by
    cases U with
    | nil => rw [List.length_nil] at ln; omega
    | cons u us => exact ⟨u, us, rfl⟩
  rw [List.dropLast_cons₂] at h
  have h2 : u :: us = (u :: us).dropLast ++ [x] := (List.cons.inj h).2
  refine ⟨(u :: us).dropLast, h2, fun z => ?_, fun z => ?_⟩
  · have nd := t.nd
    rw [h2, List.nodup_append] at nd
    exact nd.2.2 x z x List.mem_cons_self rfl
  · have : ((u :: us).dropLast).length = 0 := by rw [z]; rfl
    rw [List.length_dropLast] at this
    omega
theorem nd_rev {α : Type} {l : List α} : l.reverse.Nodup ↔ l.Nodup := (List.reverse_perm l).nodup_iff
theorem Turned.rev {qs : List QD} {x : Str} {U : List Str} {R : List Mk} (t : Turned qs x U R) : Turned qs x ((x :: U).dropLast.reverse) (revR R) := by
  obtain ⟨V, hV, hx, hn⟩ := t.split
  have e : (x :: U).dropLast = x :: V := by
    rw [hV, ← List.cons_append, List.dropLast_concat]
  refine ⟨?_, ?_, ?_, ?_, ?_⟩
  · have := path_back t.pa
    rwa [t.la] at this
  · rw [e, List.reverse_cons, List.getLastD_concat]
  · rw [e, nd_rev, List.nodup_cons]
    refine ⟨hx, ?_⟩
    have nd := t.nd
    rw [hV, List.nodup_append] at nd
    exact nd.1
  · have h := t.mx
    unfold revR
    rw [List.map_reverse, List.map_map, nd_rev]
    exact h
  · rw [revR_len]
    exact t.l2
theorem rev_perm {R r : List Mk} (h : R.Perm r) : (revR R).Perm (r.map fl) := (List.reverse_perm _).trans (h.map fl)
theorem make_way2 {K : PySem.W.Frag} {C : Addr} {H1 : Hp} {x dx : Addr} {v qv : V} {fb fq : Bool} {ws : List Str} {qs : List QD} {w : Str} {us : List Str} {ms : List Mk} {Q : VK} {E : XK} (hx : H1 x = none) (hdx : H1 dx = none) (ne : dx ≠ x) (hD : Dp K H1 v (netD fb ws qs)) (hQ : Dp K H1 qv (seqD fq ((ms.map (nmQ qs)).map PyData.str)))
    (hG : NetG ws qs) (hw : w ∈ ws) (hp : path qs (w :: us) ms) (w6 : ws.length ≤ 60) (q6 : qs.length ≤ 60) (m6 : ms.length ≤ 100000) (q : ∀ H', Same H1 H' → WayAt K C H' x ws qs w us ms → Q .non H') :
    spInit K C [.ref x, v, .str w, qv] (upd (upd H1 dx (.own x)) x (.ins C dx [])) Q E :=
  ⟨H1, x, dx, v, qv, fb, fq, ws, qs, w, us, ms, rfl, fun a o ha => by
    rw [upd_ne (ne_of_none ha hx), upd_ne (ne_of_none ha hdx)]
    exact ha, hx, upd_same, hD, hQ, hG, hw, hp, w6, q6, m6, q⟩
theorem mt_add {K : PySem.W.Frag} {C f : Addr} (h : Meth K C "__add__" f) : Meth K C (PySem.dunder Operator.Add.info.2) f := by
  have e : PySem.dunder Operator.Add.info.2 = ("__add__" : Str) := by decide +kernel
  rw [e]
  exact h
theorem mt_mul {K : PySem.W.Frag} {C f : Addr} (h : Meth K C "__mul__" f) : Meth K C (PySem.dunder Operator.Mult.info.2) f := by
  have e : PySem.dunder Operator.Mult.info.2 = ("__mul__" : Str) := by decide +kernel
  rw [e]
  exact h
section
variable {K : PySem.W.Frag} {C x : Addr} {H0 : Hp} {σ : L2.St} {ws : List Str} {qs : List QD} {w : Str} {us : List Str} {ms : List Mk} {i : Nat}
theorem ic_isring (hi : σ[i]? = some (some (.ref x))) (hw : WayAt K C H0 x ws qs w us ms) (lu : us.length ≤ 1000) (lm : ms.length ≤ 1000) : IsC K [] H0 (tMeth C "is_ring" (spIsRing K C) [] E0 (tVar i) tNil) (.bool (ringF qs w us ms)) σ := fun H Q e tr q => by
  obtain ⟨dx, v1, v2, v3, v4, v5, h0, _⟩ := (hw.same e).is
  exact ⟨_, hi, x, dx, _, rfl, h0, f5_no (by decide +kernel), x, ws, qs, w, us, ms, rfl, hw.same e, lu, lm, fun H1 s1 => q H1 _ s1 (.bl _)⟩
theorem ic_isbad (hi : σ[i]? = some (some (.ref x))) (hw : WayAt K C H0 x ws qs w us ms) (lu : us.length ≤ 1000) (lm : ms.length ≤ 1000) : IsC K [] H0 (tMeth C "is_bad" (spIsBad K C) [] E0 (tVar i) tNil) (.bool (ringF qs w us ms && decide (costQ qs ms ≤ 0))) σ := fun H Q e tr q => by
  obtain ⟨dx, v1, v2, v3, v4, v5, h0, _⟩ := (hw.same e).is
  exact ⟨_, hi, x, dx, _, rfl, h0, f5_no (by decide +kernel), x, ws, qs, w, us, ms, rfl, hw.same e, lu, lm, fun H1 s1 => q H1 _ s1 (.bl _)⟩
theorem ic_cost (hi : σ[i]? = some (some (.ref x))) (hw : WayAt K C H0 x ws qs w us ms) : IsC K [] H0 (tMeth C "cost" (spCost K C) [] E0 (tVar i) tNil) (.int (costQ qs ms)) σ := fun H Q e tr q => by
  obtain ⟨dx, v1, v2, v3, v4, v5, h0, _⟩ := (hw.same e).is
  exact ⟨_, hi, x, dx, _, rfl, h0, f5_no (by decide +kernel), x, ws, qs, w, us, ms, rfl, hw.same e, q H _ (fun _ _ e => e) (.int _)⟩
theorem wk_at {H : Hp} {Q : VK} {j : Int} {te : TE} {y : Str} (hi : σ[i]? = some (some (.ref x))) (hw : WayAt K C H x ws qs w us ms) (hy : atI ((w :: us).map V.str) j = some (.str y)) (hte : ∀ R : VK, R (.int j) H → te σ H R) (q : Q (.str y) H) : tOp (rIxF K) (tMeth C "workers" (spWorkers K C) [] E0 (tVar i) tNil) te σ H Q := by
  obtain ⟨dx, v1, v2, v3, v4, v5, h0, _⟩ := id hw.is
  refine ⟨_, hi, x, dx, _, rfl, h0, f5_no (by decide +kernel), x, ws, qs, w, us, ms, rfl, hw, fun v hv => hte _ ?_⟩
  obtain ⟨a4, x4, rfl, ha4, hx4⟩ := Dp.seq_of (f := true) (show Dp K H v (seqD true _) from hv)
  have e4 := dpa_strs_of hx4
  subst e4
  exact rIxF_at (f := true) ha4 hy q
theorem ic_ends (hi : σ[i]? = some (some (.ref x))) (hw : WayAt K C H0 x ws qs w us ms) (hc : us.getLastD w = w) : IsC K [] H0 (tOp rEq (tOp (rIxF K) (tMeth C "workers" (spWorkers K C) [] E0 (tVar i) tNil) (tC (.int 0))) (tOp (rIxF K) (tMeth C "workers" (spWorkers K C) [] E0 (tVar i) tNil) (tUn (rU fun i => .int (-i)) (tC (.int 1))))) (.bool true) σ := fun H Q e tr q => by
  refine wk_at hi (hw.same e) at_first (fun R r => r) (wk_at hi (hw.same e) at_last (fun R r => ⟨1, rfl, r⟩) ⟨rfl, ?_⟩)
  rw [decS', hc, decide_eq_true rfl]
  exact q H _ (fun _ _ e => e) (.bl _)
theorem ic_sub9 {ta tb : TE} {i j : Int} {S : List Addr} (h1 : IsC K S H0 ta (.int i) σ) (h2 : IsC K S H0 tb (.int j) σ) : IsC K S H0 (tOp (rI0 fun i j => .int (i - j)) ta tb) (.int (i - j)) σ := fun H Q e tr k =>
  h1 H _ e tr fun H1 v s1 d1 => h2 H1 _ (e.trans s1) (tr.mono s1) fun H2 u s2 d2 => by
    cases d1
    cases d2
    exact ⟨_, _, rfl, rfl, k H2 _ (s1.trans s2) (.int _)⟩
theorem ic_le9 {ta tb : TE} {i j : Int} {S : List Addr} (h1 : IsC K S H0 ta (.int i) σ) (h2 : IsC K S H0 tb (.int j) σ) : IsC K S H0 (tOp (rI0 fun i j => .bl (decide (i ≤ j))) ta tb) (.bool (decide (i ≤ j))) σ := fun H Q e tr k =>
  h1 H _ e tr fun H1 v s1 d1 => h2 H1 _ (e.trans s1) (tr.mono s1) fun H2 u s2 d2 => by
    cases d1
    cases d2
    exact ⟨_, _, rfl, rfl, k H2 _ (s1.trans s2) (.bl _)⟩
theorem okD_few {ds : List PyData} (hl : ds.length ≤ 1000) (h : ∀ d ∈ ds, okD 4 d) : okD 5 (.list ds) := (okD_seq (f := false)).mpr ⟨Nat.le_trans hl (by decide), h⟩
theorem dpa_rep {H : Hp} {vs : List V} {ds : List PyData} (h : DpAll K H vs ds) : ∀ n : Nat, DpAll K H (List.replicate n vs).flatten (List.replicate n ds).flatten
  | 0 => .nil
  | n + 1 => by
    rw [List.replicate_succ, List.replicate_succ, List.flatten_cons, List.flatten_cons]
    exact dpa_app h (dpa_rep h n)
theorem ic_rep {t : TA} {ds : List PyData} {n : Nat} (h : AreC K [] H0 t ds σ) (hl : ds.length ≤ 1000) (hn : n ≤ 1000) : IsC K [] H0 (tOp rRep (tLst t) (tC (.int (n : Nat)))) (.list (List.replicate n ds).flatten) σ := fun H Q e tr q =>
  h H _ e tr fun H1 vs s1 d1 => by
    have ll := dpa_len d1
    refine ⟨Nat.le_trans (show vs.length ≤ 1000 by omega) (by decide), fun p hp => ?_⟩
    refine ⟨p, _, vs, rfl, rfl, upd_same, by omega, by omega, ?_, fun p2 hp2 => ?_⟩
    · rw [Int.toNat_natCast]
      have a1 : vs.length * n ≤ 1000 * 1000 := Nat.mul_le_mul (by omega) hn
      exact Nat.le_trans a1 (by decide)
    · rw [Int.toNat_natCast]
      have s2 : Same H1 (upd (upd H1 p (.lst vs)) p2 (.lst (List.replicate n vs).flatten)) := Same.trans (.upd hp) (.upd hp2)
      refine q _ _ (s1.trans s2) ?_
      rw [cutS_nil]
      rw [cutS_nil] at d1
      exact .lst (sql_of upd_same) (dpa_rep (s2.dpa d1) n)
end
theorem cut_m1 {xs : List V} : cutV xs none (some (-1)) = xs.take (xs.length - 1) := by
  unfold cutV
  have e : HT.sIx xs.length xs.length (some (-1)) = xs.length - 1 := by
    show (if (-1 : Int) < 0 then ((-1 : Int) + (xs.length : Int)).toNat else min (-1 : Int).toNat xs.length) = xs.length - 1
    rw [if_pos (by decide)]
    omega
  rw [e, show HT.sIx xs.length 0 none = 0 from HT.sIx_none _ _, List.drop_zero, Nat.sub_zero]
theorem cut_1 {xs : List V} : cutV xs none (some 1) = xs.take 1 := cut_to (k := 1)
/-- a comprehension over instances, each turn False -/
theorem lc_false {K : PySem.W.Frag} {te : TE} {i j : Nat} {vs : List Nat} {σ : L2.St} {H0 : Hp} {Q : VK} {a : Addr} {xs : List V} (hi : σ[i]? = some (some (.ref a))) (ha : H0 a = some (.lst xs)) (hl : xs.length ≤ 1000)
    (hw : ∀ x, wipe ((wipe σ vs).set j (some x)) vs = wipe σ vs)
    (he : ∀ z ∈ xs, ∀ H2, Same H0 H2 → ∀ Q' : VK, (∀ H3, Same H2 H3 → Q' (.bl false) H3) → te ((wipe σ vs).set j (some z)) H2 Q')
    (q : ∀ D ys H', Same H0 H' → H' D = some (.lst ys) → DpAll K H' ys (List.replicate xs.length (.bool false)) → Q (.ref D) H') : tLcX (iSeq K (tVar i)) (gName j) tYes te vs σ H0 Q := by
  refine lcs (K := K) (fb := false) xs (fun x z => x = z) (fun H u _ => Dp K H u (.bool false)) (fun _ => true) (fun R' r => ⟨_, hi, r⟩) (sql_of ha) (fun i x z g1 g2 => Option.some.inj (g1.symm.trans g2)) rfl (by omega) (fun _ _ _ _ e h => e.dp h) hw (fun x z H1 _ _ _ Q' q' => q' H1 fun _ _ e => e) (fun x z H2 T hz _ e1 _ _ hx _ Q' q' => ?_) (fun D ys H' s1 hD0 hD1 hA => q D ys H' s1 hD1 ?_)
  · obtain rfl : x = z := hx
    exact he x hz H2 e1 Q' fun H3 s3 => q' H3 _ s3 (.bl _)
  · have h := a2_dpa (h := fun _ => PyData.bool false) hA
    rw [List.filter_eq_self.mpr fun _ _ => rfl, List.map_const'] at h
    exact cutS_le.dpa h
section
variable {P : Program} {w : World} {K : PySem.W.Frag} {mg : Str → Option Value} {base : Heap}
def spRR (K : PySem.W.Frag) : Sp := fun vs H Q _ => ∃ (v u : V) (k : Nat) (ws : List Str) (qs : List QD) (r : List Mk) (w : Str) (us : List Str), vs = [v, u, .int (k : Nat)] ∧ Dp K H v (netD true ws qs) ∧ Dp K H u (rowL r) ∧ NetG ws qs ∧ RingW qs w us r ∧ k < r.length ∧ r.length ≤ 40 ∧
  ws.length ≤ 60 ∧ qs.length ≤ 60 ∧ (∀ x ∈ ws, PyData.strOk x = true) ∧ (∀ q ∈ qs, PyData.strOk q.nm = true) ∧ ∀ H', Same H H' → Q (.bl true) H'
theorem ok_w_ring_right {f fF fU fE fI fA fN fM fC fW fR fB C : Addr} {fd fdF fdU fdE fdI fdA fdN fdM fdC fdW fdR fdB : FuncData} {k : Nat} (F : Fun K "_law_ring_right" "_law_ring_right" s_w_ring_right f fd) (T_Way : TWay K C) (O_Way : OWay K C) (M_Way : L2.Mk K C fI) (mg_Way : mg "Way" = some (.ref C))
    (mt_Way_cost : Meth K C "cost" fC) (mt_Way_workers : Meth K C "workers" fW) (mt_Way_is_ring : Meth K C "is_ring" fR) (mt_Way_is_bad : Meth K C "is_bad" fB) (mt_Way_add : Meth K C "__add__" fA) (mt_Way_neg : Meth K C "__neg__" fN) (mt_Way_mul : Meth K C "__mul__" fM)
    (G_w_from : FnOk P w K mg base CX0 k fF fdF ["_law_web_here", "_law_row", "_law_k"] (spFrom K)) (g_w_from : mg "_law_from" = some (.ref fF)) (F_w_from : Fun K "_law_from" "_law_from" s_w_from fF fdF) (b_w_from : Binds K fdF ["_law_web_here", "_law_row", "_law_k"] [])
    (G_w_ring_sums : FnOk P w K mg base CX0 k fU fdU ["_law_web_here", "_law_row"] (spSums K)) (g_w_ring_sums : mg "_law_ring_sums" = some (.ref fU)) (F_w_ring_sums : Fun K "_law_ring_sums" "_law_ring_sums" s_w_ring_sums fU fdU) (b_w_ring_sums : Binds K fdU ["_law_web_here", "_law_row"] [])
    (G_w_same : FnOk P w K mg base CX0 k fE fdE ["_law_got", "_law_due"] (spSame K 5)) (g_w_same : mg "_law_same" = some (.ref fE)) (F_w_same : Fun K "_law_same" "_law_same" s_w_same fE fdE) (b_w_same : Binds K fdE ["_law_got", "_law_due"] [])
    (G_Way_init : FnOk P w K mg base CX0 k fI fdI ["self", "net", "start", "queues"] (spInit K C)) (b_Way_init : Binds K fdI ["self", "net", "start", "queues"] [])
    (G_Way_cost : FnOk P w K mg base CX0 k fC fdC ["self"] (spCost K C)) (b_Way_cost : Binds K fdC ["self"] [])
    (G_Way_workers : FnOk P w K mg base CX0 k fW fdW ["self"] (spWorkers K C)) (b_Way_workers : Binds K fdW ["self"] [])
    (G_Way_is_ring : FnOk P w K mg base CX0 k fR fdR ["self"] (spIsRing K C)) (b_Way_is_ring : Binds K fdR ["self"] [])
    (G_Way_is_bad : FnOk P w K mg base CX0 k fB fdB ["self"] (spIsBad K C)) (b_Way_is_bad : Binds K fdB ["self"] [])
    (G_Way_add : FnOk P w K mg base CX0 k fA fdA ["self", "other"] (spAdd K C)) (b_Way_add : Binds K fdA ["self", "other"] [])
    (G_Way_neg : FnOk P w K mg base CX0 k fN fdN ["self"] (spNeg K C)) (b_Way_neg : Binds K fdN ["self"] [])
    (G_Way_mul : FnOk P w K mg base CX0 k fM fdM ["self", "many"] (spMul K C)) (b_Way_mul : Binds K fdM ["self", "many"] [])
    (m_len : mg "len" = none) : FnOk P w K mg base CX0 (k + 1 + 1) f fd ["_law_web_here", "_law_row", "_law_k"] (spRR K) := by
  refine F.ok sc_w_ring_right (fun vs H Q E h => ?_) (fun cdv A outer s0 H vs Q E hr2 h => ?_)
  · obtain ⟨v, u, k, ws, qs, r, w, us, rfl, _⟩ := h
    rfl
  · obtain ⟨v, u, kk, ws, qs, r, w, us, rfl, hD, hU, hG, hRW, hk, lr, w6, q6, o1, o2, q⟩ := h
    have hr := hr2.mono (Nat.le_succ k)
    refine ⟨_, (pss_cons (ps_asg (pe_call G_w_from hr (by rfl) g_w_from F_w_from.kp b_w_from .nil pass0 (pa_cons (pv 0) (pa_cons (pv 1) (pa_cons (pv 2) pa_nil)))) (pg_tup rfl (pgs_cons (pg_name (i := 3) sc_w_ring_right.nd rfl (Or.inl rfl)) (pgs_cons (pg_name (i := 4) sc_w_ring_right.nd rfl (Or.inl rfl)) pgs_nil)))) 
    (pss_cons (ps_asg (pe_call G_w_ring_sums hr (by rfl) g_w_ring_sums F_w_ring_sums.kp b_w_ring_sums .nil pass0 (pa_cons (pv 0) (pa_cons (pv 1) pa_nil))) (pg_tup rfl (pgs_cons (pg_name (i := 5) sc_w_ring_right.nd rfl (Or.inl rfl)) (pgs_cons (pg_name (i := 6) sc_w_ring_right.nd rfl (Or.inl rfl)) pgs_nil)))) 
    (pss_cons (ps_set (i := 7) sc_w_ring_right.nd rfl (Or.inl rfl) (pe_make M_Way G_Way_init hr2 (by rfl) mg_Way b_Way_init .nil pass0 (pa_cons (pv 0) (pa_cons (pv 3) (pa_cons (pv 4) pa_nil))))) 
    (pss_cons (ps_set (i := 8) sc_w_ring_right.nd rfl (Or.inl rfl) (pe_lst (pa_cons (pe_meth0 (pv 7) T_Way.cl mt_Way_is_ring G_Way_is_ring hr b_Way_is_ring .nil pass0) (pa_cons (pe_meth0 (pv 7) T_Way.cl mt_Way_cost G_Way_cost hr b_Way_cost .nil pass0) (pa_cons (pe_meth0 (pv 7) T_Way.cl mt_Way_is_bad G_Way_is_bad hr b_Way_is_bad .nil pass0) (pa_cons (pe_cmpR op_eq (pe_ix ix_lt (pe_meth0 (pv 7) T_Way.cl mt_Way_workers G_Way_workers hr b_Way_workers .nil pass0) pe_int (fun _ _ => rfl)) (pe_ix ix_lt (pe_meth0 (pv 7) T_Way.cl mt_Way_workers G_Way_workers hr b_Way_workers .nil pass0) (pe_un un_neg pe_int) (fun _ _ => rfl)) (nomark _)) pa_nil)))))) 
    (pss_cons (ps_if (pt_not (pt_val (pe_call G_w_same hr (by rfl) g_w_same F_w_same.kp b_w_same .nil pass0 (pa_cons (pv 8) (pa_cons (pe_lst (pa_cons pe_bl (pa_cons (pe_op op_sub (pv 5) (pv 6)) (pa_cons (pe_cmpR op_le (pv 5) (pv 6) (nomark _)) (pa_cons pe_bl pa_nil))))) pa_nil))))) (pss_one (ps_ret pe_bl)) pss_nil) 
    (pss_cons (ps_set (i := 9) sc_w_ring_right.nd rfl (Or.inl rfl) (pe_op op_fdivW (pe_callB call_len_seq (by rfl) m_len PySem.boot_len (pa_cons (pv 4) pa_nil)) pe_int)) 
    (pss_cons (ps_set (i := 10) sc_w_ring_right.nd rfl (Or.inl rfl) (pe_make M_Way G_Way_init hr2 (by rfl) mg_Way b_Way_init .nil pass0 (pa_cons (pv 0) (pa_cons (pv 3) (pa_cons (pe_slice sl_list (pv 4) po_none (po_some (pv 9))) pa_nil))))) 
    (pss_cons (ps_set (i := 11) sc_w_ring_right.nd rfl (Or.inl rfl) (pe_op (op_own G_Way_add hr (mt_add mt_Way_add) O_Way.sf b_Way_add pass0) (pv 10) (pe_make M_Way G_Way_init hr2 (by rfl) mg_Way b_Way_init .nil pass0 (pa_cons (pv 0) (pa_cons (pe_ix ix_lt (pe_meth0 (pv 10) T_Way.cl mt_Way_workers G_Way_workers hr b_Way_workers .nil pass0) (pe_un un_neg pe_int) (fun _ _ => rfl)) (pa_cons (pe_slice sl_list (pv 4) (po_some (pv 9)) po_none) pa_nil)))))) 
    (pss_cons (ps_set (i := 12) sc_w_ring_right.nd rfl (Or.inl rfl) (pe_op (op_ownI G_Way_mul hr (mt_mul mt_Way_mul) O_Way.sf O_Way.rm O_Way.im.choose_spec O_Way.ir.choose_spec O_Way.ns b_Way_mul pass0) (pv 7) pe_int)) 
    (pss_cons (ps_if (pt_not (pt_val (pe_call G_w_same hr (by rfl) g_w_same F_w_same.kp b_w_same .nil pass0 (pa_cons (pe_lst (pa_cons (pe_meth0 (pv 11) T_Way.cl mt_Way_is_ring G_Way_is_ring hr b_Way_is_ring .nil pass0) (pa_cons (pe_meth0 (pv 11) T_Way.cl mt_Way_is_bad G_Way_is_bad hr b_Way_is_bad .nil pass0) (pa_cons (pe_meth0 (pv 12) T_Way.cl mt_Way_is_ring G_Way_is_ring hr b_Way_is_ring .nil pass0) (pa_cons (pe_meth0 (pv 12) T_Way.cl mt_Way_is_bad G_Way_is_bad hr b_Way_is_bad .nil pass0) pa_nil))))) (pa_cons (pe_op op_rep (pe_lst (pa_cons pe_bl (pa_cons (pe_cmpR op_le (pv 5) (pv 6) (nomark _)) pa_nil))) pe_int) pa_nil))))) (pss_one (ps_ret pe_bl)) pss_nil) 
    (pss_cons (ps_asg (pe_call G_w_ring_sums hr (by rfl) g_w_ring_sums F_w_ring_sums.kp b_w_ring_sums .nil pass0 (pa_cons (pv 0) (pa_cons (pe_lcX (pe_lc (own := [("_law_at_so", 16), ("_law_sign", 17)]) (g := gTup K 2 (gCons (gName 16) (gCons (gName 17) gNil))) (tt := tYes) (by rfl) sc_w_ring_right.nd (pi_seq (pv 1)) (blkOk_by (own := [("_law_at_so", 16), ("_law_sign", 17)]) (N := sc_w_ring_right_N) (sc := defScope s_w_ring_right) (by decide +kernel)) (fun _ _ _ _ _ => pg_tup rfl (pgs_cons (pg_name (i := 16) sc_w_ring_right.nd rfl (Or.inl rfl)) (pgs_cons (pg_name (i := 17) sc_w_ring_right.nd rfl (Or.inl rfl)) pgs_nil))) (fun _ _ _ _ _ => pts_nil) (fun _ _ _ _ _ => (pe_tup (pa_cons (pv 16) (pa_cons (pe_un un_neg (pv 17)) pa_nil)))))) pa_nil))) (pg_tup rfl (pgs_cons (pg_name (i := 5) sc_w_ring_right.nd rfl (Or.inl rfl)) (pgs_cons (pg_name (i := 6) sc_w_ring_right.nd rfl (Or.inl rfl)) pgs_nil)))) 
    (pss_cons (ps_set (i := 13) sc_w_ring_right.nd rfl (Or.inl rfl) (pe_un (un_own G_Way_neg hr mt_Way_neg b_Way_neg pass0) (pv 7))) 
    (pss_cons (ps_if (pt_not (pt_val (pe_call G_w_same hr (by rfl) g_w_same F_w_same.kp b_w_same .nil pass0 (pa_cons (pe_lst (pa_cons (pe_meth0 (pv 13) T_Way.cl mt_Way_is_ring G_Way_is_ring hr b_Way_is_ring .nil pass0) (pa_cons (pe_meth0 (pv 13) T_Way.cl mt_Way_cost G_Way_cost hr b_Way_cost .nil pass0) (pa_cons (pe_meth0 (pv 13) T_Way.cl mt_Way_is_bad G_Way_is_bad hr b_Way_is_bad .nil pass0) pa_nil)))) (pa_cons (pe_lst (pa_cons pe_bl (pa_cons (pe_op op_sub (pv 5) (pv 6)) (pa_cons (pe_cmpR op_le (pv 5) (pv 6) (nomark _)) pa_nil)))) pa_nil))))) (pss_one (ps_ret pe_bl)) pss_nil) 
    (pss_cons (ps_set (i := 14) sc_w_ring_right.nd rfl (Or.inl rfl) (pe_lst (pa_cons (pe_make M_Way G_Way_init hr2 (by rfl) mg_Way b_Way_init .nil pass0 (pa_cons (pv 0) (pa_cons (pv 3) (pa_cons (pe_op op_cat (pv 4) (pe_slice sl_list (pv 4) po_none (po_some pe_int))) pa_nil)))) (pa_cons (pe_op (op_ownI G_Way_mul hr (mt_mul mt_Way_mul) O_Way.sf O_Way.rm O_Way.im.choose_spec O_Way.ir.choose_spec O_Way.ns b_Way_mul pass0) (pv 7) pe_int) (pa_cons (pe_make M_Way G_Way_init hr2 (by rfl) mg_Way b_Way_init .nil pass0 (pa_cons (pv 0) (pa_cons (pv 3) (pa_cons (pe_slice sl_list (pv 4) po_none (po_some (pe_un un_neg pe_int))) pa_nil)))) (pa_cons (pe_op (op_own G_Way_add hr (mt_add mt_Way_add) O_Way.sf b_Way_add pass0) (pv 7) (pe_un (un_own G_Way_neg hr mt_Way_neg b_Way_neg pass0) (pv 7))) (pa_cons (pe_op (op_ownI G_Way_mul hr (mt_mul mt_Way_mul) O_Way.sf O_Way.rm O_Way.im.choose_spec O_Way.ir.choose_spec O_Way.ns b_Way_mul pass0) (pv 7) pe_int) pa_nil))))))) 
    (pss_cons (ps_set (i := 14) sc_w_ring_right.nd rfl (Or.inl rfl) (pe_op op_cat (pv 14) (pe_lst (pa_cons (pe_make M_Way G_Way_init hr2 (by rfl) mg_Way b_Way_init .nil pass0 (pa_cons (pv 0) (pa_cons (pv 3) (pa_cons (pe_lst (pa_cons (pe_ix ix_list (pv 4) pe_int (fun _ _ => rfl)) (pa_cons (pe_ix ix_list (pv 4) pe_int (fun _ _ => rfl)) pa_nil))) pa_nil)))) pa_nil)))) 
    (pss_cons (ps_setLcX (ps_setLc (i := 8) (own := [("_law_own", 15)]) (g := gName 15) (tt := tYes) rfl sc_w_ring_right.nd rfl rfl (sw_true rfl rfl rfl (by decide +kernel)) (pi_seq (pv 14)) (blkOk_by (own := [("_law_own", 15)]) (N := sc_w_ring_right_N) (sc := defScope s_w_ring_right) (by decide +kernel)) (fun _ _ _ _ _ => pg_name (i := 15) sc_w_ring_right.nd rfl (Or.inl rfl)) (fun _ _ _ _ _ => pts_nil) (fun _ _ _ _ _ => (pe_meth0 (pv 15) T_Way.cl mt_Way_is_ring G_Way_is_ring hr b_Way_is_ring .nil pass0)))) 
    (pss_one (ps_ret (pe_and (pe_call G_w_same hr (by rfl) g_w_same F_w_same.kp b_w_same .nil pass0 (pa_cons (pv 8) (pa_cons (pe_op op_rep (pe_lst (pa_cons pe_bl pa_nil)) pe_int) pa_nil))) (pe_one (pe_call G_w_same hr (by rfl) g_w_same F_w_same.kp b_w_same .nil pass0 (pa_cons (pe_lcX (pe_lc (own := [("_law_own", 15)]) (g := gName 15) (tt := tYes) (by rfl) sc_w_ring_right.nd (pi_seq (pv 14)) (blkOk_by (own := [("_law_own", 15)]) (N := sc_w_ring_right_N) (sc := defScope s_w_ring_right) (by decide +kernel)) (fun _ _ _ _ _ => pg_name (i := 15) sc_w_ring_right.nd rfl (Or.inl rfl)) (fun _ _ _ _ _ => pts_nil) (fun _ _ _ _ _ => (pe_meth0 (pv 15) T_Way.cl mt_Way_is_bad G_Way_is_bad hr b_Way_is_bad .nil pass0)))) (pa_cons (pe_op op_rep (pe_lst (pa_cons pe_bl pa_nil)) pe_int) pa_nil))))))))))))))))))))))), ?_⟩
    rw [show L2.start (["_law_web_here", "_law_row", "_law_k", "_law_first", "_law_marks", "_law_paid", "_law_quiet", "_law_road", "_law_told", "_law_half", "_law_one", "_law_both", "_law_again", "_law_back", "_law_some", "_law_own", "_law_at_so", "_law_sign"] : List Str) [v, u, .int (kk : Nat)] = [some v, some u, some (.int (kk : Nat)), none, none, none, none, none, none, none, none, none, none, none, none, none, none, none] from rfl]
    obtain ⟨x, U, t⟩ := turned_of hRW hk
    have lR : (r.drop kk ++ r.take kk).length = r.length := by rw [List.length_append, List.length_drop, List.length_take]; omega
    have hperm : (r.drop kk ++ r.take kk).Perm r := turn_perm
    have hrlt : ∀ m ∈ r, m.1 < qs.length := path_lt hRW.pa
    refine ⟨_, rfl, _, rfl, _, rfl, v, u, kk, ws, qs, r, x, U, rfl, hD, hU, t.pa, hk, by omega, fun H1 p D s1 np nD nDp hp hDl => ?_⟩
    generalize r.drop kk ++ r.take kk = R at t lR hperm hDl
    have hxw : x ∈ ws := by
      cases R with
      | nil => exact absurd t.l2 (by decide)
      | cons m R =>
        cases U with
        | nil => exact absurd t.pa id
        | cons u0 U => exact (link_mem hG t.pa.1).1
    have hry := ring_yes hG t
    have lnU := t.ln
    have l2 := t.l2
    refine ⟨p, _, rfl, sqt_of hp, rfl, _, _, rfl, _, _, rfl, rfl, ?_⟩
    try dsimp only [List.set]
    refine ⟨_, rfl, _, rfl, v, u, ws, qs, r, [], rfl, Trk.nil, s1.dp hD, s1.dp hU, hrlt, by omega, fun H2 z s2 hz => ?_⟩
    rw [cutS_nil] at hz
    obtain ⟨az, yz, rfl, hz1, hz2⟩ := Dp.seq_of (f := true) (show Dp K H2 z (seqD true [.int (paidQ qs r), .int (quietQ qs r)]) from hz)
    cases hz2 with
    | cons k1 hz2 =>
    cases hz2 with
    | cons k2 hz2 =>
    cases hz2
    cases k1
    cases k2
    have hcost : costQ qs R = paidQ qs r - quietQ qs r := (cost_perm hperm).trans (cost_pq r hrlt)
    refine ⟨az, _, rfl, hz1, rfl, _, _, rfl, _, _, rfl, rfl, ?_⟩
    try dsimp only [List.set]
    generalize paidQ qs r = pd at hcost ⊢
    generalize quietQ qs r = qt at hcost ⊢
    clear hz hz1 az
    have hD2 := (s1.trans s2).dp hD
    have hDl2 := s2 _ _ hDl
    -- the road
    refine asg_of ?_
    refine ⟨_, rfl, _, rfl, _, rfl, fun road dz hz hdz ne => make_way2 (fq := false) hz hdz ne hD2 (.lst (sql_of hDl2) dpa_strs) hG hxw t.pa w6 q6 (by omega) fun H3 s3 road3 => ⟨rfl, ?_⟩⟩
    try dsimp only [List.set]
    -- told
    have hbad : (ringF qs x U R && decide (costQ qs R ≤ 0)) = decide (pd ≤ qt) := by
      rw [hry, hcost, Bool.true_and]
      exact decide_eq_decide.mpr ⟨fun z => by omega, fun z => by omega⟩
    refine asg_ic (K := K) (d := .list [.bool (ringF qs x U R), .int (costQ qs R), .bool (ringF qs x U R && decide (costQ qs R ≤ 0)), .bool true]) (ic_lst (ac_cons (ic_isring rfl road3 (by omega) (by omega)) (ac_cons (ic_cost rfl road3) (ac_cons (ic_isbad rfl road3 (by omega) (by omega)) (ac_cons (ic_ends rfl road3 t.la) ac_nil)))) (by show 4 ≤ 1000; decide)) fun H4 told s4 htold => ?_
    rw [hbad, hry, hcost] at htold
    try dsimp only [List.set]
    refine same_ac (K := K) (d := .list [.bool true, .int (pd - qt), .bool (decide (pd ≤ qt)), .bool true]) (ac_cons (ic_var rfl (by rw [cutS_nil]; exact htold)) (ac_cons (ic_lst (ac_cons ic_bl (ac_cons (ic_sub9 (ic_var rfl (.int _)) (ic_var rfl (.int _))) (ac_cons (ic_le9 (ic_var rfl (.int _)) (ic_var rfl (.int _))) (ac_cons ic_bl ac_nil)))) (by show 4 ≤ 1000; decide)) ac_nil)) ?_ fun H5 s5 => ?_
    · exact okD_few (by show 4 ≤ 1000; decide) (by simp [PyData.depth, okD])
    refine ⟨_, rfl, iteF ?_⟩
    try dsimp only [tNext]
    have S5 := ((s1.trans s2).trans s3).trans (s4.trans s5)
    have hD5 := S5.dp hD
    have hDl5 := (s3.trans (s4.trans s5)) _ _ hDl2
    have road5 := road3.same (s4.trans s5)
    clear htold road3 hDl2 hD2 hDl
    -- half
    refine asg_of ?_
    refine ⟨_, rfl, D, _, rfl, .inl (sql_of hDl5), _, _, rfl, rfl, (by walk_at "side"), ?_⟩
    have eh : (((((R.map (nmQ qs)).map V.str).length : Nat) : Int) / 2) = ((R.length / 2 : Nat) : Int) := by
      simp only [List.length_map]
      omega
    dsimp only
    rw [eh]
    have hf2 : R.length / 2 < R.length := by omega
    generalize R.length / 2 = hf at hf2 ⊢
    try dsimp only [List.set]
    have hspl : R.take hf ++ R.drop hf = R := List.take_append_drop hf R
    have ltk : (R.take hf).length = hf := by rw [List.length_take]; omega
    obtain ⟨pc1, pc2⟩ := path_cut (p := R.take hf) (q := R.drop hf) (by rw [hspl]; exact t.pa)
    rw [ltk] at pc1 pc2
    have emt : ∀ n : Nat, ((R.map (nmQ qs)).map V.str).take n = ((R.take n).map (nmQ qs)).map V.str := fun n => by rw [List.map_take, List.map_take]
    have emd : ∀ n : Nat, ((R.map (nmQ qs)).map V.str).drop n = ((R.drop n).map (nmQ qs)).map V.str := fun n => by rw [List.map_drop, List.map_drop]
    -- one
    refine asg_of ?_
    refine ⟨_, rfl, _, rfl, _, rfl, _, rfl, _, rfl, D, _, rfl, sql_of hDl5, fun p1 hp1 => ?_⟩
    rw [cut_to, emt]
    have s6 : Same H5 (upd H5 p1 (.lst (((R.take hf).map (nmQ qs)).map V.str))) := .upd hp1
    refine fun one dz hz hdz ne => make_way2 (fq := false) hz hdz ne (s6.dp hD5) (.lst (sql_of upd_same) dpa_strs) hG hxw pc1 w6 q6 (by omega) fun H7 s7 one7 => ⟨rfl, ?_⟩
    try dsimp only [List.set]
    have S7 := s6.trans s7
    clear hz hdz ne
    -- both
    refine asg_of ?_
    refine ⟨_, rfl, _, rfl, wk_at rfl one7 at_last (fun R r => ⟨1, rfl, r⟩) ⟨_, rfl, _, rfl, _, rfl, D, _, rfl, sql_of (S7 _ _ hDl5), fun p2 hp2 => ?_⟩⟩
    rw [cut_from, emd]
    have s8 : Same H7 (upd H7 p2 (.lst (((R.drop hf).map (nmQ qs)).map V.str))) := .upd hp2
    refine fun two dz hz hdz ne => make_way2 (fq := false) hz hdz ne ((S7.trans s8).dp hD5) (.lst (sql_of upd_same) dpa_strs) hG (last_mem hG hxw pc1) pc2 w6 q6 (by rw [List.length_drop]; omega) fun H9 s9 two9 => ⟨rfl, ?_⟩
    clear hz hdz ne
    have one9 := one7.same (s8.trans s9)
    obtain ⟨d1, u1, u2, u3, u4, u5, hi1, _⟩ := id one9.is
    obtain ⟨d2, y1, y2, y3, y4, y5, hi2, _⟩ := id two9.is
    refine ⟨one, d1, _, two, d2, _, rfl, rfl, hi1, hi2, one, two, ws, qs, x, _, _, _, _, rfl, one9, two9, hG, hxw, pc1, pc2, w6, q6, by omega, by rw [List.length_drop]; omega, o1, o2, fun H10 both s10 both10 => ⟨⟨both, rfl⟩, ?_⟩⟩
    rw [List.take_append_drop, List.take_append_drop] at both10
    try dsimp only [List.set]
    have S10 := (S7.trans s8).trans (s9.trans s10)
    have road10 := road5.same S10
    -- again
    refine asg_of ?_
    obtain ⟨dr, r1, r2, r3, r4, r5, hir, _⟩ := id road10.is
    have hRne : R ≠ [] := fun z => by rw [z] at l2; exact absurd l2 (by decide)
    refine ⟨_, rfl, road, dr, _, 1, rfl, rfl, hir, road, 1, ws, qs, x, U, R, rfl, road10, hG, hxw, t.pa, w6, q6, by omega, hRne, by decide, fun z => absurd z (by decide), fun H11 again s11 again11 => ⟨⟨again, rfl⟩, ?_⟩⟩
    rw [List.replicate_one, List.flatten_cons, List.flatten_nil, List.append_nil, List.replicate_one, List.flatten_cons, List.flatten_nil, List.append_nil] at again11
    try dsimp only [List.set]
    have both11 := both10.same s11
    refine same_ac (K := K) (d := .list [.bool true, .bool (decide (pd ≤ qt)), .bool true, .bool (decide (pd ≤ qt))]) (ac_cons ?_ (ac_cons (ic_rep (n := 2) (ac_cons ic_bl (ac_cons (ic_le9 (ic_var rfl (.int _)) (ic_var rfl (.int _))) ac_nil)) (by show 2 ≤ 1000; decide) (by decide)) ac_nil)) ?_ fun H12 s12 => ?_
    · have e : PyData.list [.bool true, .bool (decide (pd ≤ qt)), .bool true, .bool (decide (pd ≤ qt))] = .list [.bool (ringF qs x U R), .bool (ringF qs x U R && decide (costQ qs R ≤ 0)), .bool (ringF qs x U R), .bool (ringF qs x U R && decide (costQ qs R ≤ 0))] := by
        rw [hbad, hry]
      rw [e]
      exact ic_lst (ac_cons (ic_isring rfl both11 (by omega) (by omega)) (ac_cons (ic_isbad rfl both11 (by omega) (by omega)) (ac_cons (ic_isring rfl again11 (by omega) (by omega)) (ac_cons (ic_isbad rfl again11 (by omega) (by omega)) ac_nil)))) (by show 4 ≤ 1000; decide)
    · exact okD_few (by show 4 ≤ 1000; decide) (by simp [PyData.depth, okD])
    refine ⟨_, rfl, iteF ?_⟩
    try dsimp only [tNext]
    have S12 := (S10.trans s11).trans s12
    have road12 := road5.same S12
    have hU12 := (S5.trans S12).dp hU
    clear both10 both11 again11 one9 two9 road10 hi1 hi2 hir one7
    -- the sums of the row gone back
    obtain ⟨rr, xr, rfl, hrr, hxr⟩ := Dp.seq_of (f := false) (show Dp K H12 u (seqD false (r.map mkL)) from hU12)
    refine ⟨_, rfl, ?_⟩
    refine lc_pairF (fb := false) r (fun m => .int (m.1 : Int)) (fun m => .int (sgI m.2)) (fun m => mkL (fl m)) (fun _ => true) (fun R' q' => ⟨_, rfl, q'⟩) hrr hxr (by omega) (fun x y => rfl) (fun x y m H1 hm e1 hx hy Q' q' => q') (fun x y m H1 T hm hb e1 tr hx hy Q' q' => ?_) (fun D2 ys H13 s13 hD20 h13 h13d => ?_)
    · cases hx
      cases hy
      refine ⟨_, rfl, _, rfl, _, rfl, by show 2 ≤ sizeLine; decide, fun p hp => q' _ _ (.upd hp) ?_⟩
      have es : mkL (fl m) = .tuple [.int (m.1 : Int), .int (-(sgI m.2))] := by
        obtain ⟨i, b⟩ := m
        cases b <;> rfl
      rw [es]
      exact dp_tup tr hp (.cons (.int _) (.cons (.int _) .nil))
    rw [List.filter_eq_self.mpr fun _ _ => rfl] at h13d
    have hrow : Dp K H13 (.ref D2) (rowL (r.map fl)) := by
      refine .lst (sql_of h13) ?_
      rw [List.map_map]
      exact cutS_le.dpa h13d
    have hflt : ∀ m ∈ r.map fl, m.1 < qs.length := fun m hm => by
      obtain ⟨m0, h0, rfl⟩ := List.mem_map.mp hm
      exact hrlt m0 h0
    refine ⟨v, .ref D2, ws, qs, r.map fl, [], rfl, Trk.nil, ((S12.trans s13).dp hD5), hrow, hflt, by rw [List.length_map]; omega, fun H14 z s14 hz => ?_⟩
    rw [cutS_nil] at hz
    obtain ⟨az, yz, rfl, hz1, hz2⟩ := Dp.seq_of (f := true) (show Dp K H14 z (seqD true [.int (paidQ qs (r.map fl)), .int (quietQ qs (r.map fl))]) from hz)
    cases hz2 with
    | cons k1 hz2 =>
    cases hz2 with
    | cons k2 hz2 =>
    cases hz2
    cases k1
    cases k2
    have tb := t.rev
    have hcostb : costQ qs (revR R) = paidQ qs (r.map fl) - quietQ qs (r.map fl) := (cost_perm (rev_perm hperm)).trans (cost_pq _ hflt)
    refine ⟨az, _, rfl, hz1, rfl, _, _, rfl, _, _, rfl, rfl, ?_⟩
    try dsimp only [List.set]
    generalize paidQ qs (r.map fl) = pb at hcostb ⊢
    generalize quietQ qs (r.map fl) = qb at hcostb ⊢
    clear hz hz1 az hrow h13 h13d hD20
    have S14 := (S12.trans s13).trans s14
    have road14 := road5.same S14
    -- back
    refine asg_of ?_
    obtain ⟨dr, r1, r2, r3, r4, r5, hir, _⟩ := id road14.is
    refine ⟨_, rfl, road, dr, _, rfl, hir, road, ws, qs, x, U, R, rfl, road14, hG, hxw, t.pa, w6, q6, by omega, fun H15 back s15 back15 => ?_⟩
    rw [t.la] at back15
    try dsimp only [List.set]
    have hryb := ring_yes hG tb
    have lnb := tb.ln
    have lrb : (revR R).length = R.length := revR_len
    have hbadb : (ringF qs x ((x :: U).dropLast.reverse) (revR R) && decide (costQ qs (revR R) ≤ 0)) = decide (pb ≤ qb) := by
      rw [hryb, hcostb, Bool.true_and]
      exact decide_eq_decide.mpr ⟨fun z => by omega, fun z => by omega⟩
    refine same_ac (K := K) (d := .list [.bool true, .int (pb - qb), .bool (decide (pb ≤ qb))]) (ac_cons ?_ (ac_cons (ic_lst (ac_cons ic_bl (ac_cons (ic_sub9 (ic_var rfl (.int _)) (ic_var rfl (.int _))) (ac_cons (ic_le9 (ic_var rfl (.int _)) (ic_var rfl (.int _))) ac_nil))) (by show 3 ≤ 1000; decide)) ac_nil)) ?_ fun H16 s16 => ?_
    · have e : PyData.list [.bool true, .int (pb - qb), .bool (decide (pb ≤ qb))] = .list [.bool (ringF qs x ((x :: U).dropLast.reverse) (revR R)), .int (costQ qs (revR R)), .bool (ringF qs x ((x :: U).dropLast.reverse) (revR R) && decide (costQ qs (revR R) ≤ 0))] := by
        rw [hbadb, hryb, hcostb]
      rw [e]
      exact ic_lst (ac_cons (ic_isring rfl back15 (by omega) (by omega)) (ac_cons (ic_cost rfl back15) (ac_cons (ic_isbad rfl back15 (by omega) (by omega)) ac_nil))) (by show 3 ≤ 1000; decide)
    · exact okD_few (by show 3 ≤ 1000; decide) (by simp [PyData.depth, okD])
    refine ⟨_, rfl, iteF ?_⟩
    try dsimp only [tNext]
    have S16 := S14.trans (s15.trans s16)
    have hD16 := S16.dp hD5
    have hDl16 := S16 _ _ hDl5
    have road16 := road5.same S16
    have Sf16 := S5.trans S16
    clear back15 road14 hir road12 road5 hDl5 hD5 hxr hrr hU12 hbad hbadb
    have nl : ((R.map (nmQ qs)).map V.str).length = R.length := by rw [List.length_map, List.length_map]
    have lR1 : (R.take 1).length = 1 := by rw [List.length_take]; omega
    have lRm : (R.take (R.length - 1)).length = R.length - 1 := by rw [List.length_take]; omega
    obtain ⟨pa1, _⟩ := path_cut (p := R.take 1) (q := R.drop 1) (by rw [List.take_append_drop]; exact t.pa)
    obtain ⟨pam, _⟩ := path_cut (p := R.take (R.length - 1)) (q := R.drop (R.length - 1)) (by rw [List.take_append_drop]; exact t.pa)
    rw [lR1] at pa1
    rw [lRm] at pam
    obtain ⟨Vx, hVx, hxV, hVn⟩ := t.split
    -- the first
    refine asg_of ?_
    refine ⟨_, rfl, _, rfl, _, rfl, _, rfl, _, rfl, D, _, rfl, sql_of hDl16, fun p1 hp1 => ?_⟩
    rw [cut_1, emt]
    have s17a : Same H16 (upd H16 p1 (.lst (((R.take 1).map (nmQ qs)).map V.str))) := .upd hp1
    refine ⟨D, p1, _, _, rfl, rfl, s17a _ _ hDl16, upd_same, Nat.le_trans (by simp only [List.length_map]; omega) (show 1000 ≤ sizeLine by decide), fun p2 hp2 => ?_⟩
    have s17b := s17a.trans (.upd (o := .lst ((R.map (nmQ qs)).map V.str ++ ((R.take 1).map (nmQ qs)).map V.str)) hp2)
    have h17 : (upd (upd H16 p1 (.lst (((R.take 1).map (nmQ qs)).map V.str))) p2 (.lst ((R.map (nmQ qs)).map V.str ++ ((R.take 1).map (nmQ qs)).map V.str))) p2 = some (.lst (((R ++ R.take 1).map (nmQ qs)).map V.str)) := by
      rw [upd_same, List.map_append, List.map_append]
    generalize upd (upd H16 p1 (.lst (((R.take 1).map (nmQ qs)).map V.str))) p2 (.lst ((R.map (nmQ qs)).map V.str ++ ((R.take 1).map (nmQ qs)).map V.str)) = H17a at s17b h17 ⊢
    clear hp1 hp2 s17a
    refine fun w1 dz hz hdz ne => make_way2 (fq := false) (us := U ++ U.take 1) (ms := R ++ R.take 1) hz hdz ne (s17b.dp hD16) (.lst (sql_of h17) dpa_strs) hG hxw (path_cat t.pa (by rw [t.la]; exact pa1)) w6 q6 (by rw [List.length_append]; omega) fun H17 s17 way1 => ⟨rfl, ?_⟩
    clear hz hdz ne h17
    -- the second
    have S17 := s17b.trans s17
    have road17 := road16.same S17
    obtain ⟨dr, r1, r2, r3, r4, r5, hir, _⟩ := id road17.is
    refine ⟨_, rfl, road, dr, _, 2, rfl, rfl, hir, road, 2, ws, qs, x, U, R, rfl, road17, hG, hxw, t.pa, w6, q6, by omega, hRne, by decide, fun _ => t.la.symm, fun H18 w2 s18 way2 => ⟨⟨w2, rfl⟩, ?_⟩⟩
    clear hir
    -- the third
    have S18 := S17.trans s18
    refine ⟨_, rfl, _, rfl, _, rfl, 1, rfl, _, rfl, D, _, rfl, sql_of (S18 _ _ hDl16), fun p3 hp3 => ?_⟩
    rw [cut_m1, nl, emt]
    have s19a : Same H18 (upd H18 p3 (.lst (((R.take (R.length - 1)).map (nmQ qs)).map V.str))) := .upd hp3
    refine fun w3 dz hz hdz ne => make_way2 (fq := false) hz hdz ne ((S18.trans s19a).dp hD16) (.lst (sql_of upd_same) dpa_strs) hG hxw pam w6 q6 (by omega) fun H19 s19 way3 => ⟨rfl, ?_⟩
    clear hz hdz ne
    -- the fourth
    have S19 := S18.trans (s19a.trans s19)
    have road19 := road16.same S19
    obtain ⟨dr, r1, r2, r3, r4, r5, hir, _⟩ := id road19.is
    refine ⟨_, rfl, _, rfl, road, dr, _, rfl, hir, road, ws, qs, x, U, R, rfl, road19, hG, hxw, t.pa, w6, q6, by omega, fun H20 bk s20 bk20 => ?_⟩
    have road20 := road19.same s20
    obtain ⟨dr2, z1, z2, z3, z4, z5, hir2, _⟩ := id road20.is
    obtain ⟨db, y1, y2, y3, y4, y5, hib, _⟩ := id bk20.is
    refine ⟨road, dr2, _, bk, db, _, rfl, rfl, hir2, hib, road, bk, ws, qs, x, _, _, _, _, rfl, road20, bk20, hG, hxw, t.pa, path_back t.pa, w6, q6, by omega, by omega, o1, o2, fun H21 w4 s21 way4 => ⟨⟨w4, rfl⟩, ?_⟩⟩
    clear hir hir2 hib bk20 road20 road19 road17
    -- the fifth
    have S21 := S19.trans (s20.trans s21)
    have road21 := road16.same S21
    obtain ⟨dr, r1, r2, r3, r4, r5, hir, _⟩ := id road21.is
    refine ⟨_, rfl, road, dr, _, 0, rfl, rfl, hir, road, 0, ws, qs, x, U, R, rfl, road21, hG, hxw, t.pa, w6, q6, by omega, hRne, by decide, fun z => absurd z (by decide), fun H22 w5 s22 way5 => ⟨⟨w5, rfl⟩, ?_⟩⟩
    clear hir
    refine ⟨by show 5 ≤ sizeLine; decide, fun pl hpl => ?_⟩
    try dsimp only [List.set]
    have s23 : Same H22 (upd H22 pl (.lst [.ref w1, .ref w2, .ref w3, .ref w4, .ref w5])) := .upd hpl
    have h23 : (upd H22 pl (.lst [.ref w1, .ref w2, .ref w3, .ref w4, .ref w5])) pl = some (.lst [.ref w1, .ref w2, .ref w3, .ref w4, .ref w5]) := upd_same
    generalize upd H22 pl (.lst [.ref w1, .ref w2, .ref w3, .ref w4, .ref w5]) = H23 at s23 h23 ⊢
    clear hpl
    have S23 := S21.trans (s22.trans s23)
    -- one more
    obtain ⟨m, R', rfl⟩ : ∃ m R', R = m :: R' := by
      cases R with
      | nil => exact absurd rfl hRne
      | cons m R' => exact ⟨m, R', rfl⟩
    obtain ⟨u0, U', rfl⟩ : ∃ u0 U', U = u0 :: U' := by
      cases U with
      | nil => exact absurd t.pa id
      | cons u0 U' => exact ⟨u0, U', rfl⟩
    have at0 : atI (((m :: R').map (nmQ qs)).map V.str) 0 = some (.str (nmQ qs m)) := atI_nat (j := 0) rfl
    refine asg_of ?_
    refine ⟨_, rfl, _, rfl, _, rfl, _, rfl, D, _, _, _, rfl, rfl, sql_of (S23 _ _ hDl16), at0, _, rfl, D, _, _, _, rfl, rfl, sql_of (S23 _ _ hDl16), at0, by show 2 ≤ sizeLine; decide, fun p5 hp5 => ?_⟩
    have s24a : Same H23 (upd H23 p5 (.lst [.str (nmQ qs m), .str (nmQ qs m)])) := .upd hp5
    refine fun w6' dz hz hdz ne => make_way2 (fq := false) (us := [u0, x]) (ms := [m, fl m]) hz hdz ne ((S23.trans s24a).dp hD16) (.lst (sql_of upd_same) (.cons (.str _) (.cons (.str _) .nil))) hG hxw ⟨t.pa.1, link_fl t.pa.1, True.intro⟩ w6 q6 (by show 2 ≤ _; decide) fun H24 s24 way6 => ⟨rfl, ?_⟩
    clear hz hdz ne
    refine ⟨by show 1 ≤ sizeLine; decide, fun p6 hp6 => ?_⟩
    have s25 : Same H24 (upd H24 p6 (.lst [.ref w6'])) := .upd hp6
    refine ⟨pl, p6, _, _, rfl, rfl, (s24a.trans (s24.trans s25)) _ _ h23, upd_same, by show 5 + 1 ≤ sizeLine; decide, fun p7 hp7 => ?_⟩
    have s26 := s25.trans (.upd (o := .lst ([.ref w1, .ref w2, .ref w3, .ref w4, .ref w5] ++ [.ref w6'])) hp7)
    have h26 : (upd (upd H24 p6 (.lst [.ref w6'])) p7 (.lst ([.ref w1, .ref w2, .ref w3, .ref w4, .ref w5] ++ [.ref w6']))) p7 = some (.lst [.ref w1, .ref w2, .ref w3, .ref w4, .ref w5, .ref w6']) := upd_same
    generalize upd (upd H24 p6 (.lst [.ref w6'])) p7 (.lst ([.ref w1, .ref w2, .ref w3, .ref w4, .ref w5] ++ [.ref w6'])) = H26 at s26 h26 ⊢
    clear hp6 hp7 s25
    try dsimp only [List.set]
    have t23 := s24a.trans (s24.trans s26)
    have t22 := s23.trans t23
    have t21 := s22.trans t22
    have t19 := s20.trans (s21.trans t21)
    have t18 := s19a.trans (s19.trans t19)
    have t17 := s18.trans t18
    have hxU := t.mem
    have WL : ∀ z ∈ ([.ref w1, .ref w2, .ref w3, .ref w4, .ref w5, .ref w6'] : List V), ∃ (y : Addr) (us : List Str) (ms : List Mk), z = .ref y ∧ WayAt K C H26 y ws qs x us ms ∧ us.length ≤ 1000 ∧ ms.length ≤ 1000 ∧ ringF qs x us ms = false := by
      have mrep : ∀ y ∈ (List.replicate 2 (u0 :: U')).flatten, y ∈ u0 :: U' := fun y hy => by
        obtain ⟨l, h1, h2⟩ := List.mem_flatten.mp hy
        rw [List.eq_of_mem_replicate h1] at h2
        exact h2
      intro z hz
      rcases List.mem_cons.mp hz with rfl | hz
      · refine ⟨w1, _, _, rfl, way1.same t17, by rw [List.length_append, List.length_take]; omega, by rw [List.length_append, List.length_take]; omega, ring_long (U := u0 :: U') (fun y hy => ?_) (by rw [List.length_append, lR1]; omega)⟩
        rcases List.mem_cons.mp hy with rfl | hy
        · exact hxU
        · rcases List.mem_append.mp hy with hy | hy
          · exact hy
          · exact List.mem_of_mem_take hy
      rcases List.mem_cons.mp hz with rfl | hz
      · refine ⟨w2, _, _, rfl, way2.same t18, by rw [PyProof.Rows.lm_len_rep_flat]; omega, by rw [PyProof.Rows.lm_len_rep_flat]; omega, ring_long (U := u0 :: U') (fun y hy => ?_) (by rw [PyProof.Rows.lm_len_rep_flat]; omega)⟩
        rcases List.mem_cons.mp hy with rfl | hy
        · exact hxU
        · exact mrep y hy
      rcases List.mem_cons.mp hz with rfl | hz
      · refine ⟨w3, _, _, rfl, way3.same t19, by rw [List.length_take]; omega, by rw [List.length_take]; omega, ring_open ?_⟩
        have lV : Vx.length = (m :: R').length - 1 := by
          have := congrArg List.length hVx
          rw [List.length_append, List.length_singleton] at this
          omega
        rw [← lV, hVx, List.take_left]
        intro e
        exact hxV (e ▸ last_in hVn)
      rcases List.mem_cons.mp hz with rfl | hz
      · have ld : ((x :: u0 :: U').dropLast.reverse).length = (m :: R').length := by
          rw [List.length_reverse, List.length_dropLast, List.length_cons]
          omega
        have lv : (revR (m :: R')).length = (m :: R').length := revR_len
        refine ⟨w4, _, _, rfl, way4.same t21, by rw [List.length_append, ld]; omega, by rw [List.length_append, lv]; omega, ring_long (U := u0 :: U') (fun y hy => ?_) (by rw [List.length_append, lv]; omega)⟩
        rcases List.mem_cons.mp hy with rfl | hy
        · exact hxU
        · rcases List.mem_append.mp hy with hy | hy
          · exact hy
          · rcases List.mem_cons.mp (List.dropLast_subset _ (List.mem_reverse.mp hy)) with rfl | hy
            · exact hxU
            · exact hy
      rcases List.mem_cons.mp hz with rfl | hz
      · exact ⟨w5, [], [], rfl, way5.same t22, by decide, by decide, ring_none⟩
      · rw [List.mem_singleton.mp hz]
        exact ⟨w6', [u0, x], [m, fl m], rfl, way6.same s26, by show 2 ≤ 1000; decide, by show 2 ≤ 1000; decide, ring_twice rfl⟩
    have S26 := S23.trans t23
    clear way1 way2 way3 way4 way5 way6 t17 t18 t19 t21 t22
    have six : (PyData.list (List.replicate ([.ref w1, .ref w2, .ref w3, .ref w4, .ref w5, .ref w6'] : List V).length (.bool false))) = .list (List.replicate 6 [PyData.bool false]).flatten := rfl
    refine asg_of ?_
    refine lc_false rfl h26 (by show 6 ≤ 1000; decide) (fun x => rfl) (fun z hz H2 e1 Q' q' => ?_) (fun Dt ys H27 s27 hDt hdt => ?_)
    · obtain ⟨y, us, ms, rfl, hwy, l1, l2, hf⟩ := WL z hz
      have hwy2 := hwy.same e1
      obtain ⟨dy, v1, v2, v3, v4, v5, h0, _⟩ := id hwy2.is
      exact ⟨_, rfl, y, dy, _, rfl, h0, f5_no (by decide +kernel), y, ws, qs, x, us, ms, rfl, hwy2, l1, l2, fun H3 s3 => by rw [hf]; exact q' H3 s3⟩
    try dsimp only [List.set]
    refine same_ac (K := K) (d := .list (List.replicate 6 [PyData.bool false]).flatten) (ac_cons (ic_var rfl (by rw [cutS_nil, ← six]; exact .lst (sql_of hDt) hdt)) (ac_cons (ic_rep (n := 6) (ac_cons ic_bl ac_nil) (by show 1 ≤ 1000; decide) (by decide)) ac_nil)) ?_ fun H28 s28 => ⟨_, rfl, iteT ?_⟩
    · exact okD_few (by show 6 ≤ 1000; decide) (by simp [PyData.depth, okD])
    refine same_ac (K := K) (d := .list (List.replicate 6 [PyData.bool false]).flatten) (ac_cons (fun H3 Q3 e3 _ q3 => ?_) (ac_cons (ic_rep (n := 6) (ac_cons ic_bl ac_nil) (by show 1 ≤ 1000; decide) (by decide)) ac_nil)) ?_ fun H29 s29 => ?_
    · refine lc_false rfl (e3 _ _ ((s27.trans s28) _ _ h26)) (by show 6 ≤ 1000; decide) (fun x => rfl) (fun z hz H2 e1 Q' q' => ?_) (fun Dt ys H' s' hDt hdt => q3 H' _ s' (by rw [cutS_nil, ← six]; exact .lst (sql_of hDt) hdt))
      obtain ⟨y, us, ms, rfl, hwy, l1, l2, hf⟩ := WL z hz
      have hwy2 := hwy.same (((s27.trans s28).trans e3).trans e1)
      obtain ⟨dy, v1, v2, v3, v4, v5, h0, _⟩ := id hwy2.is
      exact ⟨_, rfl, y, dy, _, rfl, h0, f5_no (by decide +kernel), y, ws, qs, x, us, ms, rfl, hwy2, l1, l2, fun H3 s3 => by rw [hf]; exact q' H3 s3⟩
    · exact okD_few (by show 6 ≤ 1000; decide) (by simp [PyData.depth, okD])
    · exact q H29 (((Sf16.trans S26).trans (s27.trans s28)).trans s29)
end
end Jl

set_option Elab.async false
set_option linter.all false
set_option maxRecDepth 100000
set_option maxHeartbeats 1000000
set_option pp.maxSteps 300
namespace Jl
open PySem PySem.Spec PyProof.Rows L2
open Evl (sz_of sz_lt)
local macro_rules | `(tactic| walk_at "at") => `(tactic| first | exact box0 | exact box1 | exact box2)
local macro_rules | `(tactic| walk_at "sq") => `(tactic| first | (show SqL _ _ _ _; assumption) | (show SqT _ _ _ _; assumption) | (show _ = some _; assumption))
local macro_rules | `(tactic| walk_at "side") => `(tactic| first
  | (show (0 : Int) < _; decide)
  | (show (0 : Int) < _; omega)
  | exact ⟨by decide, by decide, by decide⟩
  | exact sz_of (Nat.le_of_ble_eq_true rfl)
  | exact rfl
  | exact Or.inl (by decide)
  | exact Or.inr (by decide)
  | exact Or.inr ⟨by omega, by omega⟩
  | exact Or.inl ⟨by omega, by omega⟩
  | exact ⟨by decide, by decide +kernel⟩)
local macro_rules | `(tactic| walk_at "ev1") => `(tactic| first
  | refine ⟨_, rfl, ?_⟩
  | refine ⟨_, _, rfl, rfl, ?_⟩
  | refine ⟨_, _, _, _, rfl, rfl, (by walk_at "sq"), (by walk_at "at"), ?_⟩
  | refine ⟨_, _, rfl, (by walk_at "sq"), ?_⟩
  | refine ⟨_, _, rfl, Or.inl (by walk_at "sq"), ?_⟩
  | refine ⟨_, _, rfl, Or.inr (by walk_at "sq"), ?_⟩
  | refine Or.inl ⟨_, rfl, ?_⟩
  | refine Or.inr ⟨_, rfl, ?_⟩
  | refine ⟨(by walk_at "side"), ?_⟩
  | refine ⟨.inl ⟨rfl, _, (by walk_at "sq")⟩, ?_⟩
  | refine ⟨_, _, rfl, ?_⟩)
local macro_rules | `(tactic| walk_at "nrm") => `(tactic| dsimp only [tNil, tCons, tC, tCB])
local macro_rules | `(tactic| walk_at "ev") => `(tactic| repeat (walk_at "ev1"))
abbrev sc_w_hand_right_N : List Str := ["_law_pair", "_law_told"]
abbrev s_w_hand_right : Stmt := topS 22
theorem sc_w_hand_right : FnScope ["_law_pair", "_law_told"] [] (defScope s_w_hand_right) := ⟨rfl, rfl, rfl, by decide +kernel, rfl, by decide +kernel, by decide +kernel⟩
theorem decV {a b : Int} : decide (V.int a = V.int b) = decide (a = b) := decide_eq_decide.mpr ⟨V.int.inj, congrArg _⟩
def sO (x : String) : Str := Str.ofString x
def wsP : List Str := [sO "a", sO "b"]
def qsP : List QD := [⟨sO "q", sO "a", sO "b", 2, 1⟩, ⟨sO "r", sO "a", sO "b", 3, 3⟩]
theorem netP : NetG wsP qsP := ⟨by decide +kernel, by decide +kernel⟩
theorem pathP1 : path qsP [sO "a", sO "b", sO "a"] [(0, true), (1, false)] := ⟨⟨_, rfl, .inl ⟨rfl, rfl, rfl⟩⟩, ⟨_, rfl, .inr ⟨rfl, rfl, rfl⟩⟩, True.intro⟩
theorem pathP2 : path qsP [sO "a", sO "b", sO "a"] [(1, true), (0, false)] := ⟨⟨_, rfl, .inl ⟨rfl, rfl, rfl⟩⟩, ⟨_, rfl, .inr ⟨rfl, rfl, rfl⟩⟩, True.intro⟩
theorem ring_two {qs : List QD} {a b : Str} {m n : Mk} (hp : path qs [a, b, a] [m, n]) (hg : gtS b a = true) (hne : b ≠ a) (hmn : n.1 ≠ m.1) : RingW qs a [b] [m, n] := by
  refine ⟨hp, fun z => (by cases z), List.nodup_cons.mpr ⟨List.not_mem_nil, List.nodup_nil⟩, fun u hu => ?_, fun pre k h => ?_⟩
  · rw [List.mem_singleton.mp hu]
    exact ⟨hne, hg⟩
  · have h : [m] ++ [n] = pre ++ [k] := h
    obtain ⟨h1, h2⟩ := List.append_inj' h rfl
    rw [← h1, ← (List.cons.inj h2).1, List.map_singleton, List.mem_singleton]
    exact hmn
theorem ic_row {K : PySem.W.Frag} {H0 : Hp} {σ : L2.St} {a b c : Str} {i j : Int} : IsC K [] H0 (tTup (tCons (tC (.str a)) (tCons (tC (.str b)) (tCons (tC (.str c)) (tCons (tC (.int i)) (tCons (tC (.int j)) tNil)))))) (QD.d true ⟨a, b, c, i, j⟩) σ := ic_tup (ac_cons ic_str (ac_cons ic_str (ac_cons ic_str (ac_cons ic_int (ac_cons ic_int ac_nil))))) (by show 5 ≤ 1000; decide)
theorem dp_int_tup {K : PySem.W.Frag} {H : Hp} {i : Int} {ds : List PyData} (h : Dp K H (.int i) (.tuple ds)) : False := by cases h
theorem row_cut {K : PySem.W.Frag} {H : Hp} {b : Addr} {bx : List V} {y : V} {r : List Mk} (h : Dp K H y (rowL r)) (hb : H b = some (.lst bx)) (hi : ∀ v ∈ bx, ∃ i, v = V.int i) (hr : r ≠ []) : Dp K (cutS [b] H) y (rowL r) := by
  obtain ⟨a, xs, rfl, hs, hx⟩ := Dp.seq_of (f := false) (show Dp K H y (seqD false (r.map mkL)) from h)
  have hxs : DpAll K (cutS [b] H) xs (r.map mkL) := by
    clear hs h hr
    induction r generalizing xs with
    | nil => cases hx; exact .nil
    | cons m r ih =>
      cases hx with
      | cons h1 h2 =>
        refine .cons ?_ (ih _ h2)
        obtain ⟨am, ym, rfl, hm1, hm2⟩ := Dp.seq_of (f := true) (show Dp K H _ (seqD true [.int (m.1 : Int), .int (sgI m.2)]) from h1)
        cases hm2 with
        | cons k1 hm2 =>
        cases hm2 with
        | cons k2 hm2 =>
        cases hm2
        cases k1
        cases k2
        exact .tup (sqt_cut hm1 hb) (.cons (.int _) (.cons (.int _) .nil))
  refine .lst ?_ hxs
  rcases hs with (hs | ⟨o, hs⟩) | hs
  · refine .inl (.inl (cutS_at hs (not1 fun z => ?_)))
    subst z
    rw [hb] at hs
    cases hs
    cases r with
    | nil => exact hr rfl
    | cons m r =>
      cases hx with
      | cons h1 h2 =>
        obtain ⟨i, rfl⟩ := hi _ List.mem_cons_self
        exact dp_int_tup h1
  · refine .inl (.inr ⟨o, cutS_at hs (not1 fun z => ?_)⟩)
    subst z
    rw [hb] at hs
    cases hs
  · exact .inr hs
section
variable {P : Program} {w : World} {K : PySem.W.Frag} {mg : Str → Option Value} {base : Heap}
def spHand (K : PySem.W.Frag) : Sp := fun vs H Q _ => vs = [] ∧ ∀ H', Same H H' → Q (.bl true) H'
theorem ok_w_hand_right {f fE fI fC fR C : Addr} {fd fdE fdI fdC fdR : FuncData} {k : Nat} (F : Fun K "_law_hand_right" "_law_hand_right" s_w_hand_right f fd) (T_Way : TWay K C) (M_Way : L2.Mk K C fI) (mg_Way : mg "Way" = some (.ref C)) (mt_Way_cost : Meth K C "cost" fC)
    (G_w_same : FnOk P w K mg base CX0 k fE fdE ["_law_got", "_law_due"] (spSame K 5)) (g_w_same : mg "_law_same" = some (.ref fE)) (F_w_same : Fun K "_law_same" "_law_same" s_w_same fE fdE) (b_w_same : Binds K fdE ["_law_got", "_law_due"] [])
    (G_w_ring_right : FnOk P w K mg base CX0 k fR fdR ["_law_web_here", "_law_row", "_law_k"] (spRR K)) (g_w_ring_right : mg "_law_ring_right" = some (.ref fR)) (F_w_ring_right : Fun K "_law_ring_right" "_law_ring_right" s_w_ring_right fR fdR) (b_w_ring_right : Binds K fdR ["_law_web_here", "_law_row", "_law_k"] [])
    (G_Way_init : FnOk P w K mg base CX0 k fI fdI ["self", "net", "start", "queues"] (spInit K C)) (b_Way_init : Binds K fdI ["self", "net", "start", "queues"] [])
    (G_Way_cost : FnOk P w K mg base CX0 k fC fdC ["self"] (spCost K C)) (b_Way_cost : Binds K fdC ["self"] []) : FnOk P w K mg base CX0 (k + 1 + 1) f fd [] (spHand K) := by
  refine F.ok sc_w_hand_right (fun vs H Q E h => ?_) (fun cdv A outer s0 H vs Q E hr2 h => ?_)
  · obtain ⟨rfl, _⟩ := h
    rfl
  · obtain ⟨rfl, q⟩ := h
    have hr := hr2.mono (Nat.le_succ k)
    refine ⟨_, (pss_cons (ps_set (i := 0) sc_w_hand_right.nd rfl (Or.inl rfl) (pe_tup (pa_cons (pe_tup (pa_cons pe_str (pa_cons pe_str pa_nil))) (pa_cons (pe_tup (pa_cons (pe_tup (pa_cons pe_str (pa_cons pe_str (pa_cons pe_str (pa_cons pe_int (pa_cons pe_int pa_nil)))))) (pa_cons (pe_tup (pa_cons pe_str (pa_cons pe_str (pa_cons pe_str (pa_cons pe_int (pa_cons pe_int pa_nil)))))) pa_nil))) pa_nil)))) 
    (pss_cons (ps_set (i := 1) sc_w_hand_right.nd rfl (Or.inl rfl) (pe_lst (pa_cons (pe_meth0 (pe_make M_Way G_Way_init hr2 (by rfl) mg_Way b_Way_init .nil pass0 (pa_cons (pv 0) (pa_cons pe_str (pa_cons (pe_tup (pa_cons pe_str (pa_cons pe_str pa_nil))) pa_nil)))) T_Way.cl mt_Way_cost G_Way_cost hr b_Way_cost .nil pass0) (pa_cons (pe_meth0 (pe_make M_Way G_Way_init hr2 (by rfl) mg_Way b_Way_init .nil pass0 (pa_cons (pv 0) (pa_cons pe_str (pa_cons (pe_tup (pa_cons pe_str (pa_cons pe_str pa_nil))) pa_nil)))) T_Way.cl mt_Way_cost G_Way_cost hr b_Way_cost .nil pass0) pa_nil)))) 
    (pss_cons (ps_if (pt_not (pt_val (pe_call G_w_same hr (by rfl) g_w_same F_w_same.kp b_w_same .nil pass0 (pa_cons (pv 1) (pa_cons (pe_lst (pa_cons pe_int (pa_cons pe_int pa_nil))) pa_nil))))) (pss_one (ps_ret pe_bl)) pss_nil) 
    (pss_one (ps_ret (pe_and (pe_call G_w_ring_right hr (by rfl) g_w_ring_right F_w_ring_right.kp b_w_ring_right .nil pass0 (pa_cons (pv 0) (pa_cons (pe_lst (pa_cons (pe_tup (pa_cons pe_int (pa_cons pe_int pa_nil))) (pa_cons (pe_tup (pa_cons pe_int (pa_cons (pe_un un_neg pe_int) pa_nil))) pa_nil))) (pa_cons pe_int pa_nil)))) (pe_one (pe_call G_w_ring_right hr (by rfl) g_w_ring_right F_w_ring_right.kp b_w_ring_right .nil pass0 (pa_cons (pv 0) (pa_cons (pe_lst (pa_cons (pe_tup (pa_cons pe_int (pa_cons pe_int pa_nil))) (pa_cons (pe_tup (pa_cons pe_int (pa_cons (pe_un un_neg pe_int) pa_nil))) pa_nil))) (pa_cons pe_int pa_nil))))))))))), ?_⟩
    rw [show L2.start (["_law_pair", "_law_told"] : List Str) [] = [none, none] from rfl]
    refine asg_ic (K := K) (d := netD true wsP qsP) (ic_tup (ac_cons (ic_tup (ac_cons ic_str (ac_cons ic_str ac_nil)) (by show 2 ≤ 1000; decide)) (ac_cons (ic_tup (ac_cons ic_row (ac_cons ic_row ac_nil)) (by show 2 ≤ 1000; decide)) ac_nil)) (by show 2 ≤ 1000; decide)) fun H1 v s1 hD1 => ?_
    try dsimp only [List.set]
    refine asg_of ?_
    refine ⟨_, rfl, ⟨by show 2 ≤ sizeLine; decide, fun p1 hp1 => ?_⟩⟩
    have s2 : Same H1 (upd H1 p1 (.tup [.str (sO "q"), .str (sO "r")])) := .upd hp1
    refine fun z1 dz hz hdz ne => make_way2 (fq := true) (us := [sO "b", sO "a"]) (ms := [(0, true), (1, false)]) hz hdz ne (s2.dp hD1) (.tup (sqt_of upd_same) (.cons (.str _) (.cons (.str _) .nil))) netP (by decide +kernel) pathP1 (by decide) (by decide) (by decide) fun H3 s3 way1 => ⟨rfl, ?_⟩
    obtain ⟨d1, v1, v2, v3, v4, v5, hi1, _⟩ := id way1.is
    refine ⟨z1, d1, _, rfl, hi1, f5_no (by decide +kernel), z1, wsP, qsP, sO "a", _, _, rfl, way1, ?_⟩
    clear hz hdz ne hi1
    refine ⟨_, rfl, ⟨by show 2 ≤ sizeLine; decide, fun p2 hp2 => ?_⟩⟩
    have s4 : Same H3 (upd H3 p2 (.tup [.str (sO "r"), .str (sO "q")])) := .upd hp2
    refine fun z2 dz hz hdz ne => make_way2 (fq := true) (us := [sO "b", sO "a"]) (ms := [(1, true), (0, false)]) hz hdz ne (((s2.trans s3).trans s4).dp hD1) (.tup (sqt_of upd_same) (.cons (.str _) (.cons (.str _) .nil))) netP (by decide +kernel) pathP2 (by decide) (by decide) (by decide) fun H5 s5 way2 => ⟨rfl, ?_⟩
    obtain ⟨d2, v1, v2, v3, v4, v5, hi2, _⟩ := id way2.is
    refine ⟨z2, d2, _, rfl, hi2, f5_no (by decide +kernel), z2, wsP, qsP, sO "a", _, _, rfl, way2, ?_⟩
    clear hz hdz ne hi2
    refine ⟨by show 2 ≤ sizeLine; decide, fun p3 hp3 => ?_⟩
    try dsimp only [List.set]
    have s6 : Same H5 (upd H5 p3 (.lst [.int (costQ qsP [(0, true), (1, false)]), .int (costQ qsP [(1, true), (0, false)])])) := .upd hp3
    have h6 : Dp K (upd H5 p3 (.lst [.int (costQ qsP [(0, true), (1, false)]), .int (costQ qsP [(1, true), (0, false)])])) (.ref p3) (.list [.int 0, .int 3]) := .lst (sql_of upd_same) (.cons (.int _) (.cons (.int _) .nil))
    generalize upd H5 p3 (.lst [.int (costQ qsP [(0, true), (1, false)]), .int (costQ qsP [(1, true), (0, false)])]) = H6 at s6 h6 ⊢
    clear hp1 hp2 hp3 way1 way2
    have S6 := ((s2.trans s3).trans (s4.trans s5)).trans s6
    refine same_ac (K := K) (d := .list [.int 0, .int 3]) (ac_cons (ic_var rfl (by rw [cutS_nil]; exact h6)) (ac_cons (ic_lst (ac_cons ic_int (ac_cons ic_int ac_nil)) (by show 2 ≤ 1000; decide)) ac_nil)) ?_ fun H7 s7 => ?_
    · exact okD_few (by show 2 ≤ 1000; decide) (by simp [PyData.depth, okD])
    refine ⟨_, rfl, iteF ?_⟩
    try dsimp only [tNext]
    have hD7 := (S6.trans s7).dp hD1
    have arg : ∀ {Hx : Hp} {i j : Int} {r : List Mk}, rowL r = .list [.tuple [.int i, .int 1], .tuple [.int j, .int (-1)]] → Dp K Hx v (netD true wsP qsP) → ∀ {σ : L2.St}, σ[0]? = some (some v) → ∀ {n : Int}, AreC K [] Hx (tCons (tVar 0) (tCons (tLst (tCons (tTup (tCons (tC (.int i)) (tCons (tC (.int 1)) tNil))) (tCons (tTup (tCons (tC (.int j)) (tCons (tUn (rU fun i => .int (-i)) (tC (.int 1))) tNil))) tNil))) (tCons (tC (.int n)) tNil))) [netD true wsP qsP, rowL r, .int n] σ := fun {Hx i j r} er hD {σ} hσ {n} => by
      rw [er]
      exact ac_cons (ic_var hσ (by rw [cutS_nil]; exact hD)) (ac_cons (ic_lst (ac_cons (ic_tup (ac_cons ic_int (ac_cons ic_int ac_nil)) (by show 2 ≤ 1000; decide)) (ac_cons (ic_tup (ac_cons ic_int (ac_cons ic_neg ac_nil)) (by show 2 ≤ 1000; decide)) ac_nil)) (by show 2 ≤ 1000; decide)) (ac_cons ic_int ac_nil))
    have okw : ∀ x ∈ wsP, PyData.strOk x = true := by decide +kernel
    have okq : ∀ q ∈ qsP, PyData.strOk q.nm = true := by decide +kernel
    have gba : gtS (sO "b") (sO "a") = true := by decide +kernel
    have nba : sO "b" ≠ sO "a" := by decide +kernel
    refine call_ac (arg (r := [(0, true), (1, false)]) rfl hD7 rfl) fun H8 vs s8 hvs => ?_
    cases hvs with
    | cons g1 hvs =>
    cases hvs with
    | cons g2 hvs =>
    cases hvs with
    | cons g3 hvs =>
    cases hvs
    cases g3
    refine ⟨_, _, 0, wsP, qsP, [(0, true), (1, false)], sO "a", [sO "b"], rfl, g1, g2, netP, ring_two pathP1 gba nba (by decide), by decide, by decide, by decide, by decide, okw, okq, fun H9 s9 => ⟨_, rfl, iteT ?_⟩⟩
    refine call_ac (arg (r := [(1, true), (0, false)]) rfl ((s8.trans s9).dp hD7) rfl) fun H10 vs s10 hvs => ?_
    cases hvs with
    | cons g1 hvs =>
    cases hvs with
    | cons g2 hvs =>
    cases hvs with
    | cons g3 hvs =>
    cases hvs
    cases g3
    exact ⟨_, _, 1, wsP, qsP, [(1, true), (0, false)], sO "a", [sO "b"], rfl, g1, g2, netP, ring_two pathP2 gba nba (by decide), by decide, by decide, by decide, by decide, okw, okq, fun H11 s11 => q H11 (((s1.trans (S6.trans s7)).trans (s8.trans s9)).trans (s10.trans s11))⟩
end
end Jl

set_option Elab.async false
set_option linter.all false
set_option maxRecDepth 100000
set_option maxHeartbeats 1000000
set_option pp.maxSteps 300
namespace Jl
open PySem PySem.Spec PyProof.Rows L2
open Evl (sz_of sz_lt)
local macro_rules | `(tactic| walk_at "at") => `(tactic| first | exact box0 | exact box1 | exact box2)
local macro_rules | `(tactic| walk_at "sq") => `(tactic| first | (show SqL _ _ _ _; assumption) | (show SqT _ _ _ _; assumption) | (show _ = some _; assumption))
local macro_rules | `(tactic| walk_at "side") => `(tactic| first
  | (show (0 : Int) < _; decide)
  | (show (0 : Int) < _; omega)
  | exact ⟨by decide, by decide, by decide⟩
  | exact sz_of (Nat.le_of_ble_eq_true rfl)
  | exact rfl
  | exact Or.inl (by decide)
  | exact Or.inr (by decide)
  | exact Or.inr ⟨by omega, by omega⟩
  | exact Or.inl ⟨by omega, by omega⟩
  | exact ⟨by decide, by decide +kernel⟩)
local macro_rules | `(tactic| walk_at "ev1") => `(tactic| first
  | refine ⟨_, rfl, ?_⟩
  | refine ⟨_, _, rfl, rfl, ?_⟩
  | refine ⟨_, _, _, _, rfl, rfl, (by walk_at "sq"), (by walk_at "at"), ?_⟩
  | refine ⟨_, _, rfl, (by walk_at "sq"), ?_⟩
  | refine ⟨_, _, rfl, Or.inl (by walk_at "sq"), ?_⟩
  | refine ⟨_, _, rfl, Or.inr (by walk_at "sq"), ?_⟩
  | refine Or.inl ⟨_, rfl, ?_⟩
  | refine Or.inr ⟨_, rfl, ?_⟩
  | refine ⟨(by walk_at "side"), ?_⟩
  | refine ⟨.inl ⟨rfl, _, (by walk_at "sq")⟩, ?_⟩
  | refine ⟨_, _, rfl, ?_⟩)
local macro_rules | `(tactic| walk_at "nrm") => `(tactic| dsimp only [tNil, tCons, tC, tCB])
local macro_rules | `(tactic| walk_at "ev") => `(tactic| repeat (walk_at "ev1"))
abbrev sc_w_right_N : List Str := ["_law_box_here", "_law_turn", "_law_web_here", "_law_row"]
abbrev s_w_right : Stmt := topS 23
theorem sc_w_right : FnScope ["_law_box_here", "_law_turn", "_law_web_here", "_law_row"] ["_law_box_here"] (defScope s_w_right) := ⟨rfl, rfl, rfl, by decide +kernel, rfl, by decide +kernel, by decide +kernel⟩
theorem box_int {bx : List V} {N : Nat} (h : BoxL bx N) : ∀ v ∈ bx, ∃ i, v = V.int i := fun v hv => by
  obtain ⟨c0, c1, c2, rfl, _⟩ := h
  unfold boxV at hv
  rcases mem3 hv with rfl | rfl | rfl
  · exact ⟨_, rfl⟩
  · exact ⟨_, rfl⟩
  · exact ⟨_, rfl⟩
section
variable {P : Program} {w : World} {K : PySem.W.Frag} {mg : Str → Option Value} {base : Heap}
def spRight (K : PySem.W.Frag) : Sp := fun vs H Q _ => ∃ (b : Addr) (bx : List V) (N : Nat), vs = [.ref b] ∧ H b = some (.lst bx) ∧ BoxL bx N ∧ N < 2 ^ 40 ∧ ∀ H', Same (cutS [b] H) H' → Q (.bl true) H'
theorem ok_w_right {f fH fT fW fV fR fL : Addr} {fd fdH fdT fdW fdV fdR fdL : FuncData} {k : Nat} (F : Fun K "_law_right" "_law_right" s_w_right f fd)
    (G_w_hand_right : FnOk P w K mg base CX0 k fH fdH [] (spHand K)) (g_w_hand_right : mg "_law_hand_right" = some (.ref fH)) (F_w_hand_right : Fun K "_law_hand_right" "_law_hand_right" s_w_hand_right fH fdH) (b_w_hand_right : Binds K fdH [] [])
    (G_w_take : FnOk P w K mg base CX0 k fT fdT ["_law_box_here", "_law_below"] spTake2) (g_w_take : mg "_law_take" = some (.ref fT)) (F_w_take : Fun K "_law_take" "_law_take" s_w_take fT fdT) (b_w_take : Binds K fdT ["_law_box_here", "_law_below"] [])
    (G_w_twin_web : FnOk P w K mg base CX0 k fW fdW ["_law_box_here", "_law_high"] (spTwin K)) (g_w_twin_web : mg "_law_twin_web" = some (.ref fW)) (F_w_twin_web : Fun K "_law_twin_web" "_law_twin_web" s_w_twin_web fW fdW) (b_w_twin_web : Binds K fdW ["_law_box_here", "_law_high"] [])
    (G_w_web : FnOk P w K mg base CX0 k fV fdV ["_law_box_here", "_law_size_so", "_law_most", "_law_high"] (spWeb K)) (g_w_web : mg "_law_web" = some (.ref fV)) (F_w_web : Fun K "_law_web" "_law_web" s_w_web fV fdV) (b_w_web : Binds K fdV ["_law_box_here", "_law_size_so", "_law_most", "_law_high"] [])
    (G_w_rings : FnOk P w K mg base CX0 k fL fdL ["_law_web_here"] (spLR K)) (g_w_rings : mg "_law_rings" = some (.ref fL)) (F_w_rings : Fun K "_law_rings" "_law_rings" s_w_rings fL fdL) (b_w_rings : Binds K fdL ["_law_web_here"] [])
    (G_w_ring_right : FnOk P w K mg base CX0 k fR fdR ["_law_web_here", "_law_row", "_law_k"] (spRR K)) (g_w_ring_right : mg "_law_ring_right" = some (.ref fR)) (F_w_ring_right : Fun K "_law_ring_right" "_law_ring_right" s_w_ring_right fR fdR) (b_w_ring_right : Binds K fdR ["_law_web_here", "_law_row", "_law_k"] [])
    (m_range : mg "range" = none) (m_len : mg "len" = none) : FnOk P w K mg base CX0 (k + 1) f fd ["_law_box_here"] (spRight K) := by
  refine F.ok sc_w_right (fun vs H Q E h => ?_) (fun cdv A outer s0 H vs Q E hr h => ?_)
  · obtain ⟨b, bx, N, rfl, _⟩ := h
    rfl
  · obtain ⟨b, bx, N, rfl, hb, hB, hN, q⟩ := h
    refine ⟨_, (pss_cons (ps_if (pt_not (pt_val (pe_call0 G_w_hand_right hr (by rfl) g_w_hand_right F_w_hand_right.kp b_w_hand_right .nil pass0))) (pss_one (ps_ret pe_bl)) pss_nil) 
    (pss_cons (ps_forX (ps_for PassesOwn.never rfl (pi_range1 (by rfl) m_range (pa_cons pe_int pa_nil)) (pg_name (i := 1) sc_w_right.nd rfl (Or.inl rfl)) 
      (pss_cons (ps_set (i := 2) sc_w_right.nd rfl (Or.inl rfl) (pe_ifExp (pt_cmpR op_eq (pe_call G_w_take hr (by rfl) g_w_take F_w_take.kp b_w_take .nil pass0 (pa_cons (pv 0) (pa_cons pe_int pa_nil))) pe_int (nomark _)) (pe_call G_w_twin_web hr (by rfl) g_w_twin_web F_w_twin_web.kp b_w_twin_web .nil pass0 (pa_cons (pv 0) (pa_cons pe_int pa_nil))) (pe_call G_w_web hr (by rfl) g_w_web F_w_web.kp b_w_web .nil pass0 (pa_cons (pv 0) (pa_cons pe_int (pa_cons pe_int (pa_cons pe_int pa_nil))))))) 
      (pss_one (ps_forX (ps_for PassesOwn.never rfl (pi_seq (pe_call G_w_rings hr (by rfl) g_w_rings F_w_rings.kp b_w_rings .nil pass0 (pa_cons (pv 2) pa_nil))) (pg_name (i := 3) sc_w_right.nd rfl (Or.inl rfl)) (pss_one (ps_if (pt_not (pt_val (pe_call G_w_ring_right hr (by rfl) g_w_ring_right F_w_ring_right.kp b_w_ring_right .nil pass0 (pa_cons (pv 2) (pa_cons (pv 3) (pa_cons (pe_call G_w_take hr (by rfl) g_w_take F_w_take.kp b_w_take .nil pass0 (pa_cons (pv 0) (pa_cons (pe_callB call_len_seq (by rfl) m_len PySem.boot_len (pa_cons (pv 3) pa_nil)) pa_nil))) pa_nil)))))) (pss_one (ps_ret pe_bl)) pss_nil)))))))) 
    (pss_one (ps_ret pe_bl)))), ?_⟩
    refine ⟨rfl, fun H1 s1 => ⟨_, rfl, iteF ?_⟩⟩
    dsimp only [tNext]
    refine for_of ?_
    refine ⟨5, rfl, by decide, by decide, ?_⟩
    refine forR_it (walk_range (lo := 0) (n := 5)) (fun i σ Hc => ∃ (x1 x2 x3 : Option V) (bx : List V), σ = [some (.ref b), x1, x2, x3] ∧ Hc b = some (.lst bx) ∧ BoxL bx (N + 4000000 * i) ∧ Same (cutS [b] H) (cutS [b] Hc)) ⟨_, _, _, bx, rfl, s1 _ _ hb, hB, cutS_mono s1⟩ (fun _ _ _ _ _ => trivial) (fun i x σ Hc Hc' hi hh y => ?_) (fun σ Hc hh => ?_)
    · obtain ⟨x1, x2, x3, bx, rfl, hb, hB, sc⟩ := hh
      obtain ⟨rfl, rfl⟩ := y
      refine seq_byC (fun σ Hd => ∃ (v : V) (ws : List Str) (qs : List QD) (g : List (List Mk)) (bx : List V) (x3 : Option V), σ = [some (.ref b), some (.int (0 + (i : Nat))), some v, x3] ∧ NetR ws qs g ∧ (∀ q ∈ qs, q.st ≠ q.en) ∧ (∀ x ∈ ws, PyData.strOk x = true) ∧ (∀ q ∈ qs, PyData.strOk q.nm = true) ∧ Dp K (cutS [b] Hd) v (netD true ws qs) ∧ Hd b = some (.lst bx) ∧ BoxL bx (N + 4000000 * i + 500) ∧ Same (cutS [b] H) (cutS [b] Hd)) (fun σ Hd hh => ?_) (fun D' hD' => ?_)
      · obtain ⟨v, ws, qs, g, bx2, x3, rfl, hR, hne, ok1, ok2, hD, hb2, hB2, sd⟩ := hh
        obtain ⟨hrow, hlen⟩ := hR.rows
        have hmem := fun r hr => (ring_mem hne hR.rn r).mp hr
        refine for_of ?_
        refine .inl ⟨_, rfl, v, ws, qs, g, rfl, cutS_le.dp hD, hR, ok1, fun H3 l ys s3 hl0 hl1 hlA => ⟨l, rfl, ⟨ys, sql_of hl1⟩, ?_⟩⟩
        have nlb : l ≠ b := fun z => by
          rw [z, hb2] at hl0
          cases hl0
        have hl1c : (cutS [b] H3) l = some (.lst ys) := cutS_at hl1 (not1 nlb)
        have hb3 := s3 _ _ hb2
        have hys : ys.length = g.length := by
          have := dpa_len hlA
          rwa [List.length_map] at this
        refine forR_it (walk_list (xs := ys)) (fun j σ He => ∃ (y3 : Option V) (bx : List V), σ = [some (.ref b), some (.int (0 + (i : Nat))), some v, y3] ∧ He b = some (.lst bx) ∧ BoxL bx (N + 4000000 * i + 500 + j) ∧ Same (cutS [b] H3) (cutS [b] He)) ⟨_, bx2, rfl, hb3, hB2, fun _ _ e => e⟩ (fun j σ He _ hh => ?_) (fun j y σ He He' hj hh hy => ?_) (fun σ He hh => ?_)
        · obtain ⟨y3, bx3, rfl, hb4, hB4, s4⟩ := hh
          exact sql_of ((s4.trans cutS_le) _ _ hl1c)
        · obtain ⟨y3, bx3, rfl, hb4, hB4, s4⟩ := hh
          obtain ⟨rfl, hv⟩ := hy
          obtain ⟨d, hd, hdv⟩ := dpa_get hlA hv
          rw [List.getElem?_map] at hd
          cases hg : g[j]? with
          | none =>
            rw [hg] at hd
            cases hd
          | some r =>
            rw [hg] at hd
            cases hd
            have hrg := List.mem_of_getElem? hg
            obtain ⟨rne, rl, rm⟩ := hrow r hrg
            obtain ⟨w0, hw0, us, hRW⟩ := hmem r hrg
            have rl2 : r.length ≤ 40 := rl
            have rpos := List.length_pos_iff.mpr rne
            have hrc : Dp K (cutS [b] H3) y (rowL r) := row_cut (cutS_le.dp hdv) hb3 (box_int hB2) rne
            obtain ⟨ay, xr, rfl, hsr, hxr⟩ := Dp.seq_of (f := false) (show Dp K (cutS [b] H3) y (seqD false (r.map mkL)) from hrc)
            have lxr : xr.length = r.length := by
              have := dpa_len hxr
              rwa [List.length_map] at this
            try dsimp only [List.set]
            refine ⟨_, rfl, _, rfl, _, rfl, _, rfl, ay, xr, rfl, .inl ((s4.trans cutS_le).sqF hsr), ?_⟩
            refine ⟨b, (xr.length : Nat), bx3, _, rfl, hb4, hB4, by omega, by omega, small8000 ⟨by omega, by omega⟩, fun rr bx4 r0 r1 hB5 => ?_⟩
            obtain ⟨n, rfl⟩ := Int.eq_ofNat_of_zero_le r0
            have hb5 : (upd He' b (.lst bx4)) b = some (.lst bx4) := upd_same
            have s5 : Same (cutS [b] H3) (cutS [b] (upd He' b (.lst bx4))) := by
              rw [cutS_upd List.mem_cons_self]
              exact s4
            generalize upd He' b (.lst bx4) = H5 at hb5 s5 ⊢
            have s6 : Same (cutS [b] Hd) (cutS [b] H5) := (cutS_mono s3).trans s5
            refine ⟨v, .ref ay, n, ws, qs, r, w0, us, rfl, (s6.trans cutS_le).dp hD, (s5.trans cutS_le).dp hrc, hR.ng, hRW, by omega, rl2, Nat.le_trans hR.w6 (by decide), hR.q6, ok1, ok2, fun H6 s7 => ⟨_, rfl, iteF ?_⟩⟩
            exact ⟨_, bx4, rfl, s7 _ _ hb5, hB5.mono (by omega), s5.trans (cutS_mono s7)⟩
        · obtain ⟨y3, bx3, rfl, hb4, hB4, s4⟩ := hh
          exact ⟨_, _, _, bx3, rfl, hb4, hB4.mono (by omega), (sd.trans (cutS_mono s3)).trans s4⟩
      · refine ⟨_, rfl, b, 2, bx, _, rfl, hb, hB, by omega, by decide, small8000 ⟨by decide, by decide⟩, fun r bx1 r0 r1 hB1 => ?_⟩
        have hb1 : (upd Hc' b (.lst bx1)) b = some (.lst bx1) := upd_same
        have sc1 : Same (cutS [b] H) (cutS [b] (upd Hc' b (.lst bx1))) := by
          rw [cutS_upd List.mem_cons_self]
          exact sc
        generalize upd Hc' b (.lst bx1) = H2 at hb1 sc1 ⊢
        have net : ∀ {ws : List Str} {qs : List QD}, ws.Nodup → NetG ws qs → ws.length ≤ 6 → qs.length ≤ 8 → ∃ g, NetR ws qs g := fun {ws qs} hn hg h6 h8 => by
          have hs := small_68 h6 h8
          obtain ⟨g, hrn⟩ := Rn.total hg _ (startP ws) (Nat.lt_succ_self _) start_ok
          exact ⟨g, hn, hg, by omega, hs, by omega, hrn⟩
        refine ⟨rfl, _, rfl, ?_⟩
        rw [decV]
        by_cases e0 : r = 0
        · rw [decide_eq_true e0]
          refine iteT ?_
          refine ⟨_, rfl, b, 5, bx1, _, rfl, hb1, hB1, by omega, by decide, by decide, fun H3 v ws qs bx2 hN2 hD hT hb2 hB2 hS2 => ?_⟩
          obtain ⟨n1, _, nb, _, n2, n3, n4, n5⟩ := hN2
          obtain ⟨g, hR⟩ := net n1.wn n2 (by omega) (by omega)
          exact hD' _ _ ⟨v, ws, qs, g, bx2, _, rfl, hR, fun q hq => (n2.q1 q hq).2.2, n1.ok, n5, hD, hb2, hB2.mono (by omega), sc1.trans hS2⟩
        · rw [decide_eq_false e0]
          refine iteF ?_
          refine ⟨_, rfl, b, 5, 7, 4, bx1, _, rfl, hb1, hB1, by omega, by decide, by decide, by decide, by decide, by decide, by decide, fun H3 v ws qs bx2 hG hD hT hb2 hB2 hS2 => ?_⟩
          have hn2 : NetG ws qs := by
            refine ⟨fun q hq => ⟨(hG.qq q hq).1, (hG.qq q hq).2.1, (hG.qq q hq).2.2.1⟩, ?_⟩
            obtain ⟨l, hl, _, _, k, e⟩ := hG.qn
            rw [e]
            exact hl.sublist (List.take_sublist k l)
          have wl := hG.wl
          have ql := hG.ql
          obtain ⟨g, hR⟩ := net hG.wn hn2 (by omega) (by omega)
          exact hD' _ _ ⟨v, ws, qs, g, bx2, _, rfl, hR, fun q hq => (hn2.q1 q hq).2.2, fun x hx => poolW_ok _ (hG.wp x hx), hG.nm_ok, hD, hb2, hB2.mono (by omega), sc1.trans hS2⟩
    · obtain ⟨x1, x2, x3, bx, rfl, hb, hB, sc⟩ := hh
      walk_at "ev"
      exact q Hc fun a o ha => cutS_le _ _ (sc _ _ ha)
end
end Jl

set_option Elab.async false
set_option linter.all false
set_option maxRecDepth 100000
set_option maxHeartbeats 4000000
set_option pp.maxSteps 900
namespace Jl
open PySem PySem.Spec PyProof.Rows L2
open Evl (sz_of sz_lt)
local macro_rules | `(tactic| walk_at "at") => `(tactic| first | exact box0 | exact box1 | exact box2)
local macro_rules | `(tactic| walk_at "sq") => `(tactic| first | (show SqL _ _ _ _; assumption) | (show SqT _ _ _ _; assumption) | (show _ = some _; assumption))
local macro_rules | `(tactic| walk_at "side") => `(tactic| first
  | (show (0 : Int) < _; decide)
  | (show (0 : Int) < _; omega)
  | exact ⟨by decide, by decide, by decide⟩
  | exact sz_of (Nat.le_of_ble_eq_true rfl)
  | exact rfl
  | exact Or.inl (by decide)
  | exact Or.inr (by decide)
  | exact Or.inr ⟨by omega, by omega⟩
  | exact Or.inl ⟨by omega, by omega⟩
  | exact ⟨by decide, by decide +kernel⟩)
local macro_rules | `(tactic| walk_at "ev1") => `(tactic| first
  | refine ⟨_, rfl, ?_⟩
  | refine ⟨_, _, rfl, rfl, ?_⟩
  | refine ⟨_, _, _, _, rfl, rfl, (by walk_at "sq"), (by walk_at "at"), ?_⟩
  | refine ⟨_, _, rfl, (by walk_at "sq"), ?_⟩
  | refine ⟨_, _, rfl, Or.inl (by walk_at "sq"), ?_⟩
  | refine ⟨_, _, rfl, Or.inr (by walk_at "sq"), ?_⟩
  | refine Or.inl ⟨_, rfl, ?_⟩
  | refine Or.inr ⟨_, rfl, ?_⟩
  | refine ⟨(by walk_at "side"), ?_⟩
  | refine ⟨.inl ⟨rfl, _, (by walk_at "sq")⟩, ?_⟩
  | refine ⟨_, _, rfl, ?_⟩)
local macro_rules | `(tactic| walk_at "nrm") => `(tactic| dsimp only [tNil, tCons, tC, tCB])
local macro_rules | `(tactic| walk_at "ev") => `(tactic| repeat (walk_at "ev1"))

abbrev sc_law_N : List Str := ["_law_script", "_law_cells_here", "_law_k"]
abbrev s_law : Stmt := topS 24
theorem sc_law : FnScope ["_law_script", "_law_cells_here", "_law_k"] ["_law_script"] (defScope s_law) := ⟨rfl, rfl, rfl, by decide +kernel, rfl, by decide +kernel, by decide +kernel⟩
theorem ne_of_none {H : Hp} {a c : Addr} {o : HO} (h : H a = some o) (hc : H c = none) : a ≠ c := fun z => by
  rw [z, hc] at h
  cases h
section
variable {P : Program} {w : World} {K : PySem.W.Frag} {mg : Str → Option Value} {base : Heap}
def spLaw (K : PySem.W.Frag) : Sp := fun vs H Q _ => ∃ (a : Addr) (ns : List Int), vs = [.ref a] ∧ SqL K H a (ns.map V.int) ∧ ns.length ≤ 63 ∧ ∀ H', Q (.bl true) H'
theorem ok_law {f fC fB fR : Addr} {fd fdC fdB fdR : FuncData} {k : Nat} (F : Fun K "law" "law" s_law f fd)
    (G_w_cells : FnOk P w K mg base CX0 k fC fdC ["_law_script", "_law_most"] (spCells K)) (g_w_cells : mg "_law_cells" = some (.ref fC)) (F_w_cells : Fun K "_law_cells" "_law_cells" s_w_cells fC fdC) (b_w_cells : Binds K fdC ["_law_script", "_law_most"] [])
    (G_w_box : FnOk P w K mg base CX0 k fB fdB ["_law_script", "_law_k"] (spBox K)) (g_w_box : mg "_law_box" = some (.ref fB)) (F_w_box : Fun K "_law_box" "_law_box" s_w_box fB fdB) (b_w_box : Binds K fdB ["_law_script", "_law_k"] [])
    (G_w_right : FnOk P w K mg base CX0 k fR fdR ["_law_box_here"] (spRight K)) (g_w_right : mg "_law_right" = some (.ref fR)) (F_w_right : Fun K "_law_right" "_law_right" s_w_right fR fdR) (b_w_right : Binds K fdR ["_law_box_here"] [])
    (m_all : mg "all" = none) (m_range : mg "range" = none) (m_len : mg "len" = none) : FnOk P w K mg base CX0 (k + 1) f fd ["_law_script"] (spLaw K) := by
  refine F.ok sc_law (fun vs H Q E h => ?_) (fun cdv A outer s0 H vs Q E hr h => ?_)
  · obtain ⟨a, ns, rfl, _⟩ := h
    rfl
  · obtain ⟨a, ns, rfl, hS, hn, q⟩ := h
    refine ⟨_, (pss_cons (ps_set (i := 1) sc_law.nd rfl (Or.inr rfl) (pe_call G_w_cells hr (by rfl) g_w_cells F_w_cells.kp b_w_cells .nil pass0 (pa_cons (pv 0) (pa_cons pe_int pa_nil)))) 
    (pss_one (ps_ret (pe_callB (cr_all rfl) (by rfl) m_all (by decide +kernel) (pa_cons (pe_lcX (pe_lc (own := [("_law_k", 2)]) (g := gName 2) (tt := tYes) (by rfl) sc_law.nd (pi_range1 (by rfl) m_range (pa_cons (pe_callB call_len_seq (by rfl) m_len PySem.boot_len (pa_cons (pv 1) pa_nil)) pa_nil)) (blkOk_by (own := [("_law_k", 2)]) (N := sc_law_N) (sc := defScope s_law) (by decide +kernel)) (fun _ _ _ _ _ => pg_name (i := 2) sc_law.nd rfl (Or.inl rfl)) (fun _ _ _ _ _ => pts_nil) (fun _ _ _ _ _ => (pe_call G_w_right hr (by rfl) g_w_right F_w_right.kp b_w_right .nil pass0 (pa_cons (pe_call G_w_box hr (by rfl) g_w_box F_w_box.kp b_w_box .nil pass0 (pa_cons (pv 1) (pa_cons (pv 2) pa_nil))) pa_nil))))) pa_nil))))), ?_⟩
    walk_at "ev"
    refine ⟨a, ns, 3, rfl, hS, hn, by decide, by decide, fun H1 p cs s1 hp hp1 hl => ?_⟩
    have hq1 : SqL K H1 p (cs.map V.int) := sql_of hp1
    walk_at "ev"
    refine lc_of ?_
    walk_at "ev"
    rw [List.length_map]
    refine ⟨by omega, by omega, ?_⟩
    rw [Int.toNat_natCast]
    intro D hD
    refine lc_it (walk_range (lo := 0) (n := cs.length)) (fun i H' => H' p = some (.lst (cs.map V.int)) ∧ H' D = some (.lst ((List.replicate i true).map V.bl))) ⟨(Same.upd hD) _ _ hp1, upd_same⟩ (fun _ _ _ _ => trivial) (fun i x H' H'' hi hh y => ?_) (fun H' hh => ?_)
    · obtain ⟨h1, h2⟩ := hh
      obtain ⟨rfl, hv⟩ := y
      have hv : x = .int (0 + (i : Int)) := hv
      rw [Int.zero_add] at hv
      subst hv
      refine ⟨rfl, ?_⟩
      dsimp only [tYes]
      rw [if_pos rfl]
      walk_at "ev"
      refine ⟨p, cs, i, rfl, sql_of h1, by omega, by omega, fun b c0 c1 hb k0 k1 k2 => ?_⟩
      walk_at "ev"
      refine ⟨b, _, 0, rfl, upd_same, ⟨c0, c1, 0, rfl, k0, k1, k2, by decide, by decide⟩, by decide, fun H3 s3 => ?_⟩
      have npb : p ≠ b := ne_of_none h1 hb
      have nDb : D ≠ b := ne_of_none h2 hb
      have g1 : H3 p = some (.lst (cs.map V.int)) := s3 _ _ (by rw [cutS_out (not1 npb), upd_ne npb]; exact h1)
      have g2 : H3 D = some (.lst ((List.replicate i true).map V.bl)) := s3 _ _ (by rw [cutS_out (not1 nDb), upd_ne nDb]; exact h2)
      have nDp : p ≠ D := ne_of_none hp1 hD
      refine ⟨_, g2, by rw [List.length_map, List.length_replicate]; exact sz_lt (by omega), ?_, ?_⟩
      · rw [upd_ne nDp]
        exact g1
      · rw [upd_same, List.replicate_succ', List.map_append]
        rfl
    · obtain ⟨h1, h2⟩ := hh
      refine ⟨D, _, rfl, sql_of h2, ?_⟩
      have e : (List.replicate cs.length true).all id = true := by
        rw [List.all_eq_true]
        exact fun b hb => List.eq_of_mem_replicate hb
      rw [e]
      exact q _
end
end Jl

set_option Elab.async false
set_option linter.all false
set_option maxRecDepth 100000
set_option maxHeartbeats 4000000
set_option pp.maxSteps 40
namespace Jl
open PySem PySem.Spec PyProof.Rows L2
open Evl (sz_of sz_lt)
local macro_rules | `(tactic| walk_at "at") => `(tactic| first | exact box0 | exact box1 | exact box2)
local macro_rules | `(tactic| walk_at "sq") => `(tactic| first | (show SqL _ _ _ _; assumption) | (show SqT _ _ _ _; assumption) | (show _ = some _; assumption))
local macro_rules | `(tactic| walk_at "side") => `(tactic| first
  | (show (0 : Int) < _; decide)
  | (show (0 : Int) < _; omega)
  | exact ⟨by decide, by decide, by decide⟩
  | exact sz_of (Nat.le_of_ble_eq_true rfl)
  | exact rfl
  | exact Or.inl (by decide)
  | exact Or.inr (by decide)
  | exact Or.inr ⟨by omega, by omega⟩
  | exact Or.inl ⟨by omega, by omega⟩
  | exact ⟨by decide, by decide +kernel⟩)
local macro_rules | `(tactic| walk_at "ev1") => `(tactic| first
  | refine ⟨_, rfl, ?_⟩
  | refine ⟨_, _, rfl, rfl, ?_⟩
  | refine ⟨_, _, _, _, rfl, rfl, (by walk_at "sq"), (by walk_at "at"), ?_⟩
  | refine ⟨_, _, rfl, (by walk_at "sq"), ?_⟩
  | refine ⟨_, _, rfl, Or.inl (by walk_at "sq"), ?_⟩
  | refine ⟨_, _, rfl, Or.inr (by walk_at "sq"), ?_⟩
  | refine Or.inl ⟨_, rfl, ?_⟩
  | refine Or.inr ⟨_, rfl, ?_⟩
  | refine ⟨(by walk_at "side"), ?_⟩
  | refine ⟨.inl ⟨rfl, _, (by walk_at "sq")⟩, ?_⟩
  | refine ⟨_, _, rfl, ?_⟩)
local macro_rules | `(tactic| walk_at "nrm") => `(tactic| dsimp only [tNil, tCons, tC, tCB])
local macro_rules | `(tactic| walk_at "ev") => `(tactic| repeat (walk_at "ev1"))

theorem all_mk {l : PySem.W.OpenLaw} {w : World} {K : PySem.W.Frag} {h : Heap} {mg : Str → Option Value} {fa C_Way f1 f2 f3 f4 f5 f6 f7 f8 f9 f10 f11 f12 f13 f14 f15 f16 f17 f18 f19 f20 f21 f22 f23 f24 f25 : Addr} (X : K.In h) (G : h.Ns mainGlobals mg) (hfa : mg "law" = some (.ref fa))
    {od1 an1 od2 an2 od3 an3 od4 an4 od5 an5 od6 an6 od7 an7 od8 an8 od9 an9 od10 an10 od11 an11 od12 an12 od13 an13 od14 an14 od15 an15 od16 an16 od17 an17 od18 an18 od19 an19 od20 an20 od21 an21 od22 an22 od23 an23 od24 an24 od25 an25 : Option Addr} {sl1 sl2 sl3 sl4 sl5 sl6 sl7 sl8 sl9 sl10 sl11 sl12 sl13 sl14 sl15 sl16 sl17 sl18 sl19 sl20 sl21 sl22 sl23 sl24 sl25 : Array (Option Value)} {oc1 kV1 dc1 pm1 cd1 ct1 oc2 kV2 dc2 pm2 cd2 ct2 oc3 kV3 dc3 pm3 cd3 ct3 oc4 kV4 dc4 pm4 cd4 ct4 oc5 kV5 dc5 pm5 cd5 ct5 oc6 kV6 dc6 pm6 cd6 ct6 oc7 kV7 dc7 pm7 cd7 ct7 oc8 kV8 dc8 pm8 cd8 ct8 oc9 kV9 dc9 pm9 cd9 ct9 oc10 kV10 dc10 pm10 cd10 ct10 oc11 kV11 dc11 pm11 cd11 ct11 oc12 kV12 dc12 pm12 cd12 ct12 oc13 kV13 dc13 pm13 cd13 ct13 oc14 kV14 dc14 pm14 cd14 ct14 oc15 kV15 dc15 pm15 cd15 ct15 oc16 kV16 dc16 pm16 cd16 ct16 oc17 kV17 dc17 pm17 cd17 ct17 oc18 kV18 dc18 pm18 cd18 ct18 oc19 kV19 dc19 pm19 cd19 ct19 oc20 kV20 dc20 pm20 cd20 ct20 oc21 kV21 dc21 pm21 cd21 ct21 oc22 kV22 dc22 pm22 cd22 ct22 oc23 kV23 dc23 pm23 cd23 ct23 oc24 kV24 dc24 pm24 cd24 ct24 oc25 kV25 dc25 pm25 cd25 ct25 : Value}
    (a1 : PySem.W.nsIn K mainGlobals "frozen" = some (some (.ref f1))) (l1 : K.lookup f1 = some ⟨oc1, od1, .func (PySem.W.fnOf "frozen" "frozen" (defArgs s_frozen) (defBody s_frozen) (defScope s_frozen) .none kV1 dc1 pm1 an1 cd1 ct1), sl1⟩) (c1 : PySem.W.codeIn K cd1 "frozen" = true) (k1 : PySem.W.keepIn K (.ref f1) = true)
    (a2 : PySem.W.nsIn K mainGlobals "check_worker" = some (some (.ref f2))) (l2 : K.lookup f2 = some ⟨oc2, od2, .func (PySem.W.fnOf "check_worker" "check_worker" (defArgs s_check_worker) (defBody s_check_worker) (defScope s_check_worker) .none kV2 dc2 pm2 an2 cd2 ct2), sl2⟩) (c2 : PySem.W.codeIn K cd2 "check_worker" = true) (k2 : PySem.W.keepIn K (.ref f2) = true)
    (a3 : PySem.W.nsIn K mainGlobals "step_over" = some (some (.ref f3))) (l3 : K.lookup f3 = some ⟨oc3, od3, .func (PySem.W.fnOf "step_over" "step_over" (defArgs s_step_over) (defBody s_step_over) (defScope s_step_over) .none kV3 dc3 pm3 an3 cd3 ct3), sl3⟩) (c3 : PySem.W.codeIn K cd3 "step_over" = true) (k3 : PySem.W.keepIn K (.ref f3) = true)
    (a4 : PySem.W.nsIn K mainGlobals "_law_box" = some (some (.ref f4))) (l4 : K.lookup f4 = some ⟨oc4, od4, .func (PySem.W.fnOf "_law_box" "_law_box" (defArgs s_w_box) (defBody s_w_box) (defScope s_w_box) .none kV4 dc4 pm4 an4 cd4 ct4), sl4⟩) (c4 : PySem.W.codeIn K cd4 "_law_box" = true) (k4 : PySem.W.keepIn K (.ref f4) = true)
    (a5 : PySem.W.nsIn K mainGlobals "_law_take" = some (some (.ref f5))) (l5 : K.lookup f5 = some ⟨oc5, od5, .func (PySem.W.fnOf "_law_take" "_law_take" (defArgs s_w_take) (defBody s_w_take) (defScope s_w_take) .none kV5 dc5 pm5 an5 cd5 ct5), sl5⟩) (c5 : PySem.W.codeIn K cd5 "_law_take" = true) (k5 : PySem.W.keepIn K (.ref f5) = true)
    (a6 : PySem.W.nsIn K mainGlobals "_law_cells" = some (some (.ref f6))) (l6 : K.lookup f6 = some ⟨oc6, od6, .func (PySem.W.fnOf "_law_cells" "_law_cells" (defArgs s_w_cells) (defBody s_w_cells) (defScope s_w_cells) .none kV6 dc6 pm6 an6 cd6 ct6), sl6⟩) (c6 : PySem.W.codeIn K cd6 "_law_cells" = true) (k6 : PySem.W.keepIn K (.ref f6) = true)
    (a7 : PySem.W.nsIn K mainGlobals "_law_pick" = some (some (.ref f7))) (l7 : K.lookup f7 = some ⟨oc7, od7, .func (PySem.W.fnOf "_law_pick" "_law_pick" (defArgs s_w_pick) (defBody s_w_pick) (defScope s_w_pick) .none kV7 dc7 pm7 an7 cd7 ct7), sl7⟩) (c7 : PySem.W.codeIn K cd7 "_law_pick" = true) (k7 : PySem.W.keepIn K (.ref f7) = true)
    (a8 : PySem.W.nsIn K mainGlobals "_law_same" = some (some (.ref f8))) (l8 : K.lookup f8 = some ⟨oc8, od8, .func (PySem.W.fnOf "_law_same" "_law_same" (defArgs s_w_same) (defBody s_w_same) (defScope s_w_same) .none kV8 dc8 pm8 an8 cd8 ct8), sl8⟩) (c8 : PySem.W.codeIn K cd8 "_law_same" = true) (k8 : PySem.W.keepIn K (.ref f8) = true)
    (a9 : PySem.W.nsIn K mainGlobals "_law_web" = some (some (.ref f9))) (l9 : K.lookup f9 = some ⟨oc9, od9, .func (PySem.W.fnOf "_law_web" "_law_web" (defArgs s_w_web) (defBody s_w_web) (defScope s_w_web) .none kV9 dc9 pm9 an9 cd9 ct9), sl9⟩) (c9 : PySem.W.codeIn K cd9 "_law_web" = true) (k9 : PySem.W.keepIn K (.ref f9) = true)
    (a10 : PySem.W.nsIn K mainGlobals "_law_twin_web" = some (some (.ref f10))) (l10 : K.lookup f10 = some ⟨oc10, od10, .func (PySem.W.fnOf "_law_twin_web" "_law_twin_web" (defArgs s_w_twin_web) (defBody s_w_twin_web) (defScope s_w_twin_web) .none kV10 dc10 pm10 an10 cd10 ct10), sl10⟩) (c10 : PySem.W.codeIn K cd10 "_law_twin_web" = true) (k10 : PySem.W.keepIn K (.ref f10) = true)
    (a11 : PySem.W.nsIn K mainGlobals "_law_rings" = some (some (.ref f11))) (l11 : K.lookup f11 = some ⟨oc11, od11, .func (PySem.W.fnOf "_law_rings" "_law_rings" (defArgs s_w_rings) (defBody s_w_rings) (defScope s_w_rings) .none kV11 dc11 pm11 an11 cd11 ct11), sl11⟩) (c11 : PySem.W.codeIn K cd11 "_law_rings" = true) (k11 : PySem.W.keepIn K (.ref f11) = true)
    (a12 : PySem.W.nsIn K mainGlobals "_law_ring_sums" = some (some (.ref f12))) (l12 : K.lookup f12 = some ⟨oc12, od12, .func (PySem.W.fnOf "_law_ring_sums" "_law_ring_sums" (defArgs s_w_ring_sums) (defBody s_w_ring_sums) (defScope s_w_ring_sums) .none kV12 dc12 pm12 an12 cd12 ct12), sl12⟩) (c12 : PySem.W.codeIn K cd12 "_law_ring_sums" = true) (k12 : PySem.W.keepIn K (.ref f12) = true)
    (a13 : PySem.W.nsIn K mainGlobals "_law_from" = some (some (.ref f13))) (l13 : K.lookup f13 = some ⟨oc13, od13, .func (PySem.W.fnOf "_law_from" "_law_from" (defArgs s_w_from) (defBody s_w_from) (defScope s_w_from) .none kV13 dc13 pm13 an13 cd13 ct13), sl13⟩) (c13 : PySem.W.codeIn K cd13 "_law_from" = true) (k13 : PySem.W.keepIn K (.ref f13) = true)
    (a14 : PySem.W.nsIn K mainGlobals "_law_ring_right" = some (some (.ref f14))) (l14 : K.lookup f14 = some ⟨oc14, od14, .func (PySem.W.fnOf "_law_ring_right" "_law_ring_right" (defArgs s_w_ring_right) (defBody s_w_ring_right) (defScope s_w_ring_right) .none kV14 dc14 pm14 an14 cd14 ct14), sl14⟩) (c14 : PySem.W.codeIn K cd14 "_law_ring_right" = true) (k14 : PySem.W.keepIn K (.ref f14) = true)
    (a15 : PySem.W.nsIn K mainGlobals "_law_hand_right" = some (some (.ref f15))) (l15 : K.lookup f15 = some ⟨oc15, od15, .func (PySem.W.fnOf "_law_hand_right" "_law_hand_right" (defArgs s_w_hand_right) (defBody s_w_hand_right) (defScope s_w_hand_right) .none kV15 dc15 pm15 an15 cd15 ct15), sl15⟩) (c15 : PySem.W.codeIn K cd15 "_law_hand_right" = true) (k15 : PySem.W.keepIn K (.ref f15) = true)
    (a16 : PySem.W.nsIn K mainGlobals "_law_right" = some (some (.ref f16))) (l16 : K.lookup f16 = some ⟨oc16, od16, .func (PySem.W.fnOf "_law_right" "_law_right" (defArgs s_w_right) (defBody s_w_right) (defScope s_w_right) .none kV16 dc16 pm16 an16 cd16 ct16), sl16⟩) (c16 : PySem.W.codeIn K cd16 "_law_right" = true) (k16 : PySem.W.keepIn K (.ref f16) = true)
    (a17 : PySem.W.nsIn K mainGlobals "law" = some (some (.ref f17))) (l17 : K.lookup f17 = some ⟨oc17, od17, .func (PySem.W.fnOf "law" "law" (defArgs s_law) (defBody s_law) (defScope s_law) .none kV17 dc17 pm17 an17 cd17 ct17), sl17⟩) (c17 : PySem.W.codeIn K cd17 "law" = true) (k17 : PySem.W.keepIn K (.ref f17) = true)
    (a18 : PySem.W.findIn K (.ref C_Way) "cost" = some (some (.ref f18))) (i18 : PySem.W.isFn K (.ref f18) = true) (l18 : K.lookup f18 = some ⟨oc18, od18, .func (PySem.W.fnOf "cost" "Way.cost" (defArgs s_Way_cost) (defBody s_Way_cost) (defScope s_Way_cost) .none kV18 dc18 pm18 an18 cd18 ct18), sl18⟩) (c18 : PySem.W.codeIn K cd18 "Way.cost" = true) (k18 : PySem.W.keepIn K (.ref f18) = true)
    (a19 : PySem.W.findIn K (.ref C_Way) "__init__" = some (some (.ref f19))) (i19 : PySem.W.isFn K (.ref f19) = true) (l19 : K.lookup f19 = some ⟨oc19, od19, .func (PySem.W.fnOf "__init__" "Way.__init__" (defArgs s_Way_init) (defBody s_Way_init) (defScope s_Way_init) .none kV19 dc19 pm19 an19 cd19 ct19), sl19⟩) (c19 : PySem.W.codeIn K cd19 "Way.__init__" = true) (k19 : PySem.W.keepIn K (.ref f19) = true)
    (a20 : PySem.W.findIn K (.ref C_Way) "workers" = some (some (.ref f20))) (i20 : PySem.W.isFn K (.ref f20) = true) (l20 : K.lookup f20 = some ⟨oc20, od20, .func (PySem.W.fnOf "workers" "Way.workers" (defArgs s_Way_workers) (defBody s_Way_workers) (defScope s_Way_workers) .none kV20 dc20 pm20 an20 cd20 ct20), sl20⟩) (c20 : PySem.W.codeIn K cd20 "Way.workers" = true) (k20 : PySem.W.keepIn K (.ref f20) = true)
    (a21 : PySem.W.findIn K (.ref C_Way) "is_ring" = some (some (.ref f21))) (i21 : PySem.W.isFn K (.ref f21) = true) (l21 : K.lookup f21 = some ⟨oc21, od21, .func (PySem.W.fnOf "is_ring" "Way.is_ring" (defArgs s_Way_is_ring) (defBody s_Way_is_ring) (defScope s_Way_is_ring) .none kV21 dc21 pm21 an21 cd21 ct21), sl21⟩) (c21 : PySem.W.codeIn K cd21 "Way.is_ring" = true) (k21 : PySem.W.keepIn K (.ref f21) = true)
    (a22 : PySem.W.findIn K (.ref C_Way) "is_bad" = some (some (.ref f22))) (i22 : PySem.W.isFn K (.ref f22) = true) (l22 : K.lookup f22 = some ⟨oc22, od22, .func (PySem.W.fnOf "is_bad" "Way.is_bad" (defArgs s_Way_is_bad) (defBody s_Way_is_bad) (defScope s_Way_is_bad) .none kV22 dc22 pm22 an22 cd22 ct22), sl22⟩) (c22 : PySem.W.codeIn K cd22 "Way.is_bad" = true) (k22 : PySem.W.keepIn K (.ref f22) = true)
    (a23 : PySem.W.findIn K (.ref C_Way) "__add__" = some (some (.ref f23))) (i23 : PySem.W.isFn K (.ref f23) = true) (l23 : K.lookup f23 = some ⟨oc23, od23, .func (PySem.W.fnOf "__add__" "Way.__add__" (defArgs s_Way_add) (defBody s_Way_add) (defScope s_Way_add) .none kV23 dc23 pm23 an23 cd23 ct23), sl23⟩) (c23 : PySem.W.codeIn K cd23 "Way.__add__" = true) (k23 : PySem.W.keepIn K (.ref f23) = true)
    (a24 : PySem.W.findIn K (.ref C_Way) "__neg__" = some (some (.ref f24))) (i24 : PySem.W.isFn K (.ref f24) = true) (l24 : K.lookup f24 = some ⟨oc24, od24, .func (PySem.W.fnOf "__neg__" "Way.__neg__" (defArgs s_Way_neg) (defBody s_Way_neg) (defScope s_Way_neg) .none kV24 dc24 pm24 an24 cd24 ct24), sl24⟩) (c24 : PySem.W.codeIn K cd24 "Way.__neg__" = true) (k24 : PySem.W.keepIn K (.ref f24) = true)
    (a25 : PySem.W.findIn K (.ref C_Way) "__mul__" = some (some (.ref f25))) (i25 : PySem.W.isFn K (.ref f25) = true) (l25 : K.lookup f25 = some ⟨oc25, od25, .func (PySem.W.fnOf "__mul__" "Way.__mul__" (defArgs s_Way_mul) (defBody s_Way_mul) (defScope s_Way_mul) .none kV25 dc25 pm25 an25 cd25 ct25), sl25⟩) (c25 : PySem.W.codeIn K cd25 "Way.__mul__" = true) (k25 : PySem.W.keepIn K (.ref f25) = true)
    (aC_Way : PySem.W.nsIn K mainGlobals "Way" = some (some (.ref C_Way))) (pg_Way : PySem.W.plainGet K C_Way Str.empty = true) (hd_Way : PySem.W.hasDictIn K C_Way = true) (po_Way : PySem.W.plainOver K C_Way = true) (sa_Way : PySem.W.findIn K (.ref C_Way) "__setattr__" = some (some (.builtin "object.__setattr__"))) (mk_Way : PySem.W.makesIn K C_Way = true) (kc_Way : PySem.W.keepIn K (.ref C_Way) = true)
    (nF1_Way : PySem.W.findIn K (.ref C_Way) "_net" = some none) (nF2_Way : PySem.W.findIn K (.ref C_Way) "_queues" = some none) (nF3_Way : PySem.W.findIn K (.ref C_Way) "_steps" = some none) (nF4_Way : PySem.W.findIn K (.ref C_Way) "_workers" = some none) (nF5_Way : PySem.W.findIn K (.ref C_Way) "_costs" = some none)
    {fo_Way ro_Way : Option Value}
    (xO_sf_Way : PySem.W.selfFirst K C_Way = true) (xO_rm_Way : PySem.W.findIn K (.ref C_Way) (dunderR Operator.Mult.info.2) = some none) (xO_im_Way : PySem.W.findIn K (.type "int") (PySem.dunder Operator.Mult.info.2) = some fo_Way) (xO_ir_Way : PySem.W.findIn K (.type "int") (dunderR Operator.Mult.info.2) = some ro_Way) (xO_ns_Way : PySem.W.subIn K (.type "int") (.ref C_Way) = some false)
    (xIC_ha_Way : PySem.W.findIn K (.ref C_Way) "__class__" = some (some (.builtin "object.__class__"))) (xIC_hn_Way : PySem.W.specialIn K (.builtin "object.__class__") "__get__" = some (some (.builtin "getset_descriptor.__get__"))) (xIC_htk_Way : PySem.W.takesIn K (.builtin "object.__class__") = some true) (xIC_hm_Way : PySem.W.mroIn K C_Way (.type "object") = some true)
    (z1 : PySem.W.nsIn K mainGlobals "len" = some none) (z2 : PySem.W.nsIn K mainGlobals "abs" = some none) (z3 : PySem.W.nsIn K mainGlobals "int" = some none) (z4 : PySem.W.nsIn K mainGlobals "list" = some none) (z5 : PySem.W.nsIn K mainGlobals "enumerate" = some none) (z6 : PySem.W.nsIn K mainGlobals "range" = some none) (z7 : PySem.W.nsIn K mainGlobals "min" = some none) (z8 : PySem.W.nsIn K mainGlobals "max" = some none) (z9 : PySem.W.nsIn K mainGlobals "sorted" = some none) (z10 : PySem.W.nsIn K mainGlobals "tuple" = some none) (z11 : PySem.W.nsIn K mainGlobals "isinstance" = some none) (z12 : PySem.W.nsIn K mainGlobals "bool" = some none) (z13 : PySem.W.nsIn K mainGlobals "str" = some none) (z14 : PySem.W.nsIn K mainGlobals "all" = some none) (z15 : PySem.W.nsIn K mainGlobals "zip" = some none) (z16 : PySem.W.nsIn K mainGlobals "set" = some none) (z17 : PySem.W.nsIn K mainGlobals "sum" = some none) :
    ∃ fd : FuncData, (∀ (s : Shared) (v : Value), BindsTo s fd ⟨[v], []⟩ [("_law_script", v)]) ∧ ∀ base : Heap, K.In base → base.Ns mainGlobals mg → FnOk l.prog w K mg base CX0 14 fa fd ["_law_script"] (spLaw K) := by
  have e := hfa.symm.trans (PySem.W.mg_of X G a17)
  cases e
  have F1 := fun_mk (st := s_frozen) l1 c1 k1
  have g1 := PySem.W.mg_of X G a1
  have b1 := F1.binds (ps := ["thing"]) fun _ _ _ _ _ _ us hl => match us, hl with | [_], _ => rfl
  have F2 := fun_mk (st := s_check_worker) l2 c2 k2
  have g2 := PySem.W.mg_of X G a2
  have b2 := F2.binds (ps := ["net", "worker"]) fun _ _ _ _ _ _ us hl => match us, hl with | [_, _], _ => rfl
  have F3 := fun_mk (st := s_step_over) l3 c3 k3
  have g3 := PySem.W.mg_of X G a3
  have b3 := F3.binds (ps := ["queue", "place"]) fun _ _ _ _ _ _ us hl => match us, hl with | [_, _], _ => rfl
  have F4 := fun_mk (st := s_w_box) l4 c4 k4
  have g4 := PySem.W.mg_of X G a4
  have b4 := F4.binds (ps := ["_law_script", "_law_k"]) fun _ _ _ _ _ _ us hl => match us, hl with | [_, _], _ => rfl
  have F5 := fun_mk (st := s_w_take) l5 c5 k5
  have g5 := PySem.W.mg_of X G a5
  have b5 := F5.binds (ps := ["_law_box_here", "_law_below"]) fun _ _ _ _ _ _ us hl => match us, hl with | [_, _], _ => rfl
  have F6 := fun_mk (st := s_w_cells) l6 c6 k6
  have g6 := PySem.W.mg_of X G a6
  have b6 := F6.binds (ps := ["_law_script", "_law_most"]) fun _ _ _ _ _ _ us hl => match us, hl with | [_, _], _ => rfl
  have F7 := fun_mk (st := s_w_pick) l7 c7 k7
  have g7 := PySem.W.mg_of X G a7
  have b7 := F7.binds (ps := ["_law_box_here", "_law_pool", "_law_size_so"]) fun _ _ _ _ _ _ us hl => match us, hl with | [_, _, _], _ => rfl
  have F8 := fun_mk (st := s_w_same) l8 c8 k8
  have g8 := PySem.W.mg_of X G a8
  have b8 := F8.binds (ps := ["_law_got", "_law_due"]) fun _ _ _ _ _ _ us hl => match us, hl with | [_, _], _ => rfl
  have F9 := fun_mk (st := s_w_web) l9 c9 k9
  have g9 := PySem.W.mg_of X G a9
  have b9 := F9.binds (ps := ["_law_box_here", "_law_size_so", "_law_most", "_law_high"]) fun _ _ _ _ _ _ us hl => match us, hl with | [_, _, _, _], _ => rfl
  have F10 := fun_mk (st := s_w_twin_web) l10 c10 k10
  have g10 := PySem.W.mg_of X G a10
  have b10 := F10.binds (ps := ["_law_box_here", "_law_high"]) fun _ _ _ _ _ _ us hl => match us, hl with | [_, _], _ => rfl
  have F11 := fun_mk (st := s_w_rings) l11 c11 k11
  have g11 := PySem.W.mg_of X G a11
  have b11 := F11.binds (ps := ["_law_web_here"]) fun _ _ _ _ _ _ us hl => match us, hl with | [_], _ => rfl
  have F12 := fun_mk (st := s_w_ring_sums) l12 c12 k12
  have g12 := PySem.W.mg_of X G a12
  have b12 := F12.binds (ps := ["_law_web_here", "_law_row"]) fun _ _ _ _ _ _ us hl => match us, hl with | [_, _], _ => rfl
  have F13 := fun_mk (st := s_w_from) l13 c13 k13
  have g13 := PySem.W.mg_of X G a13
  have b13 := F13.binds (ps := ["_law_web_here", "_law_row", "_law_k"]) fun _ _ _ _ _ _ us hl => match us, hl with | [_, _, _], _ => rfl
  have F14 := fun_mk (st := s_w_ring_right) l14 c14 k14
  have g14 := PySem.W.mg_of X G a14
  have b14 := F14.binds (ps := ["_law_web_here", "_law_row", "_law_k"]) fun _ _ _ _ _ _ us hl => match us, hl with | [_, _, _], _ => rfl
  have F15 := fun_mk (st := s_w_hand_right) l15 c15 k15
  have g15 := PySem.W.mg_of X G a15
  have b15 := F15.binds (ps := []) fun _ _ _ _ _ _ us hl => match us, hl with | [], _ => rfl
  have F16 := fun_mk (st := s_w_right) l16 c16 k16
  have g16 := PySem.W.mg_of X G a16
  have b16 := F16.binds (ps := ["_law_box_here"]) fun _ _ _ _ _ _ us hl => match us, hl with | [_], _ => rfl
  have F17 := fun_mk (st := s_law) l17 c17 k17
  have g17 := PySem.W.mg_of X G a17
  have F18 := fun_mk (st := s_Way_cost) l18 c18 k18
  have b18 := F18.binds (ps := ["self"]) fun _ _ _ _ _ _ us hl => match us, hl with | [_], _ => rfl
  have mt18 : Meth K C_Way "cost" f18 := ⟨a18, i18, k18⟩
  have F19 := fun_mk (st := s_Way_init) l19 c19 k19
  have b19 := F19.binds (ps := ["self", "net", "start", "queues"]) fun _ _ _ _ _ _ us hl => match us, hl with | [_, _, _, _], _ => rfl
  have mt19 : Meth K C_Way "__init__" f19 := ⟨a19, i19, k19⟩
  have F20 := fun_mk (st := s_Way_workers) l20 c20 k20
  have b20 := F20.binds (ps := ["self"]) fun _ _ _ _ _ _ us hl => match us, hl with | [_], _ => rfl
  have mt20 : Meth K C_Way "workers" f20 := ⟨a20, i20, k20⟩
  have F21 := fun_mk (st := s_Way_is_ring) l21 c21 k21
  have b21 := F21.binds (ps := ["self"]) fun _ _ _ _ _ _ us hl => match us, hl with | [_], _ => rfl
  have mt21 : Meth K C_Way "is_ring" f21 := ⟨a21, i21, k21⟩
  have F22 := fun_mk (st := s_Way_is_bad) l22 c22 k22
  have b22 := F22.binds (ps := ["self"]) fun _ _ _ _ _ _ us hl => match us, hl with | [_], _ => rfl
  have mt22 : Meth K C_Way "is_bad" f22 := ⟨a22, i22, k22⟩
  have F23 := fun_mk (st := s_Way_add) l23 c23 k23
  have b23 := F23.binds (ps := ["self", "other"]) fun _ _ _ _ _ _ us hl => match us, hl with | [_, _], _ => rfl
  have mt23 : Meth K C_Way "__add__" f23 := ⟨a23, i23, k23⟩
  have F24 := fun_mk (st := s_Way_neg) l24 c24 k24
  have b24 := F24.binds (ps := ["self"]) fun _ _ _ _ _ _ us hl => match us, hl with | [_], _ => rfl
  have mt24 : Meth K C_Way "__neg__" f24 := ⟨a24, i24, k24⟩
  have F25 := fun_mk (st := s_Way_mul) l25 c25 k25
  have b25 := F25.binds (ps := ["self", "many"]) fun _ _ _ _ _ _ us hl => match us, hl with | [_, _], _ => rfl
  have mt25 : Meth K C_Way "__mul__" f25 := ⟨a25, i25, k25⟩
  have T_Way : TWay K C_Way := ⟨⟨pg_Way, hd_Way, po_Way, sa_Way⟩, nF1_Way, nF2_Way, nF3_Way, nF4_Way, nF5_Way⟩
  have mg_Way := PySem.W.mg_of X G aC_Way
  have O_Way : OWay K C_Way := ⟨xO_sf_Way, xO_rm_Way, ⟨_, xO_im_Way⟩, ⟨_, xO_ir_Way⟩, xO_ns_Way⟩
  have IC_Way : C8.InsC K C_Way := ⟨⟨pg_Way, hd_Way, po_Way, sa_Way⟩, xIC_ha_Way, xIC_hn_Way, xIC_htk_Way, xIC_hm_Way, if_pos (beq_self_eq_true _)⟩
  have M_Way : L2.Mk K C_Way f19 := ⟨mk_Way, a19, i19, kc_Way⟩
  have m_len := PySem.W.mg_none_of X G z1
  have m_abs := PySem.W.mg_none_of X G z2
  have m_int := PySem.W.mg_none_of X G z3
  have m_list := PySem.W.mg_none_of X G z4
  have m_enumerate := PySem.W.mg_none_of X G z5
  have m_range := PySem.W.mg_none_of X G z6
  have m_min := PySem.W.mg_none_of X G z7
  have m_max := PySem.W.mg_none_of X G z8
  have m_sorted := PySem.W.mg_none_of X G z9
  have m_tuple := PySem.W.mg_none_of X G z10
  have m_isinstance := PySem.W.mg_none_of X G z11
  have m_bool := PySem.W.mg_none_of X G z12
  have m_str := PySem.W.mg_none_of X G z13
  have m_all := PySem.W.mg_none_of X G z14
  have m_zip := PySem.W.mg_none_of X G z15
  have m_set := PySem.W.mg_none_of X G z16
  have m_sum := PySem.W.mg_none_of X G z17
  clear hfa a1 l1 c1 k1 a2 l2 c2 k2 a3 l3 c3 k3 a4 l4 c4 k4 a5 l5 c5 k5 a6 l6 c6 k6 a7 l7 c7 k7 a8 l8 c8 k8 a9 l9 c9 k9 a10 l10 c10 k10 a11 l11 c11 k11 a12 l12 c12 k12 a13 l13 c13 k13 a14 l14 c14 k14 a15 l15 c15 k15 a16 l16 c16 k16 a17 l17 c17 k17 a18 l18 c18 k18 a19 l19 c19 k19 a20 l20 c20 k20 a21 l21 c21 k21 a22 l22 c22 k22 a23 l23 c23 k23 a24 l24 c24 k24 a25 l25 c25 k25 z1 z2 z3 z4 z5 z6 z7 z8 z9 z10 z11 z12 z13 z14 z15 z16 z17
  refine ⟨PySem.W.fnOf "law" "law" (defArgs s_law) (defBody s_law) (defScope s_law) .none kV17 dc17 pm17 an17 cd17 ct17, fun s v => .of_eq rfl, fun base _ _ => ?_⟩
  have G6 := ok_cells (P := l.prog) (w := w) (base := base) (mg := mg) (k := 0) F6 m_int m_list m_enumerate
  have G4 := ok_box (P := l.prog) (w := w) (base := base) (mg := mg) (k := 0) F4 m_len m_abs m_int
  have G8 := ok_same (P := l.prog) (w := w) (base := base) F8 g8 b8 m_isinstance m_list m_tuple m_bool m_str m_int m_len m_all m_zip 5
  have G13 := ok_w_from (P := l.prog) (w := w) (base := base) (mg := mg) (k := 0) F13
  have G12 := ok_w_ring_sums (P := l.prog) (w := w) (base := base) (mg := mg) (k := 0) F12 m_sum
  have G1 := ok_frozen (P := l.prog) (w := w) (base := base) F1 g1 b1 m_isinstance m_list m_tuple 5
  have G2 := ok_check_worker (P := l.prog) (w := w) (base := base) (mg := mg) (k := 0) F2
  have G3 := ok_step_over (P := l.prog) (w := w) (base := base) (mg := mg) (k := 0) F3
  have G19 := ok_Way_init (P := l.prog) (w := w) (base := base) (mg := mg) (k := 5) F19 T_Way G1 g1 F1 b1 (G2.mono (by decide : 1 ≤ 5)) g2 F2 b2 (G3.mono (by decide : 1 ≤ 5)) g3 F3 b3 m_tuple m_enumerate
  have G18 := ok_Way_cost (P := l.prog) (w := w) (base := base) (mg := mg) (k := 0) F18 T_Way m_sum
  have G20 := ok_Way_workers (P := l.prog) (w := w) (base := base) (mg := mg) (k := 0) F20 T_Way
  have G21 := ok_Way_is_ring (P := l.prog) (w := w) (base := base) (mg := mg) (k := 0) F21 T_Way m_len m_set
  have G22 := ok_Way_is_bad (P := l.prog) (w := w) (base := base) (mg := mg) (k := 1) F22 T_Way mt21 mt18 G21 b21 G18 b18
  have G23 := ok_Way_add (P := l.prog) (w := w) (base := base) (mg := mg) (k := 6) F23 T_Way M_Way mg_Way IC_Way G19 b19 m_isinstance
  have G24 := ok_Way_neg (P := l.prog) (w := w) (base := base) (mg := mg) (k := 6) F24 T_Way M_Way mg_Way G19 b19
  have G25 := ok_Way_mul (P := l.prog) (w := w) (base := base) (mg := mg) (k := 6) F25 T_Way M_Way mg_Way G19 b19 m_len
  have G14 := ok_w_ring_right (P := l.prog) (w := w) (base := base) (mg := mg) (k := 8) F14 T_Way O_Way M_Way mg_Way mt18 mt20 mt21 mt22 mt23 mt24 mt25 (G13.mono (by decide : 1 ≤ 8)) g13 F13 b13 (G12.mono (by decide : 1 ≤ 8)) g12 F12 b12 (G8.mono (by decide : 5 ≤ 8)) g8 F8 b8 (G19.mono (by decide : 6 ≤ 8)) b19 (G18.mono (by decide : 1 ≤ 8)) b18 (G20.mono (by decide : 1 ≤ 8)) b20 (G21.mono (by decide : 1 ≤ 8)) b21 (G22.mono (by decide : 2 ≤ 8)) b22 G23 b23 G24 b24 G25 b25 m_len
  have G15 := ok_w_hand_right (P := l.prog) (w := w) (base := base) (mg := mg) (k := 10) F15 T_Way M_Way mg_Way mt18 (G8.mono (by decide : 5 ≤ 10)) g8 F8 b8 G14 g14 F14 b14 (G19.mono (by decide : 6 ≤ 10)) b19 (G18.mono (by decide : 1 ≤ 10)) b18
  have G5 := ok_take2 (ok_take (P := l.prog) (w := w) (base := base) (k := 0) F5 m_int)
  have G10 := ok_twin (P := l.prog) (w := w) (base := base) (mg := mg) (k := 1) F10 G5 g5 F5 b5 m_range m_max m_sorted m_tuple
  have G7 := ok_pick (P := l.prog) (w := w) (base := base) (mg := mg) (k := 1) F7 G5 g5 F5 b5 m_list m_range m_min m_len
  have G9 := ok_web (P := l.prog) (w := w) (base := base) (mg := mg) (k := 2) F9 (G5.mono (by decide : 1 ≤ 2)) g5 F5 b5 G7 g7 F7 b7 m_sorted m_len m_int m_tuple
  have G11 := ok_w_rings (P := l.prog) (w := w) (base := base) (mg := mg) (k := 0) F11 m_enumerate
  have G16 := ok_w_right (P := l.prog) (w := w) (base := base) (mg := mg) (k := 12) F16 G15 g15 F15 b15 (G5.mono (by decide : 1 ≤ 12)) g5 F5 b5 (G10.mono (by decide : 2 ≤ 12)) g10 F10 b10 (G9.mono (by decide : 3 ≤ 12)) g9 F9 b9 (G11.mono (by decide : 1 ≤ 12)) g11 F11 b11 (G14.mono (by decide : 10 ≤ 12)) g14 F14 b14 m_range m_len
  have G17 := ok_law (P := l.prog) (w := w) (base := base) (mg := mg) (k := 13) F17 (G6.mono (by decide : 1 ≤ 13)) g6 F6 b6 (G4.mono (by decide : 1 ≤ 13)) g4 F4 b4 G16 g16 F16 b16 m_all m_range m_len
  exact G17
end Jl
open PySem PySem.W PyProof.Rows
set_option maxHeartbeats 0 in
theorem PySem.Challenge.cw_joinlags_k09_rings_or_not_holds : PySem.Challenge.rw_joinlags_k09_rings_or_not.Holds := by
  w_on; o_law; k_head; (case hw => w_witness2)
  k_fill
  refine L2.walk_of (l := PySem.Challenge.rw_joinlags_k09_rings_or_not) (n := 63) (k := 14) (x := "_law_script") (CX := fun _ => L2.CX0) (sp := fun w => Jl.spLaw _) rfl (by decide) rfl ⟨rfl, by decide, by decide⟩ (fun w h Y => PySem.W.kIn_of Y) ?F (fun _ _ a ns hl _ hS => ⟨a, ns, rfl, hS, hl, fun _ => rfl⟩) (fun _ _ _ _ _ h => h)
  case F =>
    intro w mg fa h KX G hmg
    refine' Jl.all_mk KX G hmg ?a1 ?l1 ?c1 ?k1 ?a2 ?l2 ?c2 ?k2 ?a3 ?l3 ?c3 ?k3 ?a4 ?l4 ?c4 ?k4 ?a5 ?l5 ?c5 ?k5 ?a6 ?l6 ?c6 ?k6 ?a7 ?l7 ?c7 ?k7 ?a8 ?l8 ?c8 ?k8 ?a9 ?l9 ?c9 ?k9 ?a10 ?l10 ?c10 ?k10 ?a11 ?l11 ?c11 ?k11 ?a12 ?l12 ?c12 ?k12 ?a13 ?l13 ?c13 ?k13 ?a14 ?l14 ?c14 ?k14 ?a15 ?l15 ?c15 ?k15 ?a16 ?l16 ?c16 ?k16 ?a17 ?l17 ?c17 ?k17 ?a18 ?i18 ?l18 ?c18 ?k18 ?a19 ?i19 ?l19 ?c19 ?k19 ?a20 ?i20 ?l20 ?c20 ?k20 ?a21 ?i21 ?l21 ?c21 ?k21 ?a22 ?i22 ?l22 ?c22 ?k22 ?a23 ?i23 ?l23 ?c23 ?k23 ?a24 ?i24 ?l24 ?c24 ?k24 ?a25 ?i25 ?l25 ?c25 ?k25 ?aC_Way ?pg_Way ?hd_Way ?po_Way ?sa_Way ?mk_Way ?kc_Way ?nF1_Way ?nF2_Way ?nF3_Way ?nF4_Way ?nF5_Way ?xO_sf_Way ?xO_rm_Way ?xO_im_Way ?xO_ir_Way ?xO_ns_Way ?xIC_ha_Way ?xIC_hn_Way ?xIC_htk_Way ?xIC_hm_Way ?z1 ?z2 ?z3 ?z4 ?z5 ?z6 ?z7 ?z8 ?z9 ?z10 ?z11 ?z12 ?z13 ?z14 ?z15 ?z16 ?z17
    (case aC_Way => k_is); (case a1 => k_is); (case l1 => k_is); (case c1 => k_is); (case k1 => k_is); (case a2 => k_is); (case l2 => k_is); (case c2 => k_is); (case k2 => k_is); (case a3 => k_is); (case l3 => k_is); (case c3 => k_is); (case k3 => k_is); (case a4 => k_is); (case l4 => k_is); (case c4 => k_is); (case k4 => k_is); (case a5 => k_is); (case l5 => k_is); (case c5 => k_is); (case k5 => k_is); (case a6 => k_is); (case l6 => k_is); (case c6 => k_is); (case k6 => k_is); (case a7 => k_is); (case l7 => k_is); (case c7 => k_is); (case k7 => k_is); (case a8 => k_is); (case l8 => k_is); (case c8 => k_is); (case k8 => k_is); (case a9 => k_is); (case l9 => k_is); (case c9 => k_is); (case k9 => k_is); (case a10 => k_is); (case l10 => k_is); (case c10 => k_is); (case k10 => k_is); (case a11 => k_is); (case l11 => k_is); (case c11 => k_is); (case k11 => k_is); (case a12 => k_is); (case l12 => k_is); (case c12 => k_is); (case k12 => k_is); (case a13 => k_is); (case l13 => k_is); (case c13 => k_is); (case k13 => k_is); (case a14 => k_is); (case l14 => k_is); (case c14 => k_is); (case k14 => k_is); (case a15 => k_is); (case l15 => k_is); (case c15 => k_is); (case k15 => k_is); (case a16 => k_is); (case l16 => k_is); (case c16 => k_is); (case k16 => k_is); (case a17 => k_is); (case l17 => k_is); (case c17 => k_is); (case k17 => k_is); (case a18 => k_is); (case i18 => k_is); (case l18 => k_is); (case c18 => k_is); (case k18 => k_is); (case a19 => k_is); (case i19 => k_is); (case l19 => k_is); (case c19 => k_is); (case k19 => k_is); (case a20 => k_is); (case i20 => k_is); (case l20 => k_is); (case c20 => k_is); (case k20 => k_is); (case a21 => k_is); (case i21 => k_is); (case l21 => k_is); (case c21 => k_is); (case k21 => k_is); (case a22 => k_is); (case i22 => k_is); (case l22 => k_is); (case c22 => k_is); (case k22 => k_is); (case a23 => k_is); (case i23 => k_is); (case l23 => k_is); (case c23 => k_is); (case k23 => k_is); (case a24 => k_is); (case i24 => k_is); (case l24 => k_is); (case c24 => k_is); (case k24 => k_is); (case a25 => k_is); (case i25 => k_is); (case l25 => k_is); (case c25 => k_is); (case k25 => k_is); (case pg_Way => k_is); (case hd_Way => k_is); (case po_Way => k_is); (case sa_Way => k_is); (case mk_Way => k_is); (case kc_Way => k_is); (case nF1_Way => k_is); (case nF2_Way => k_is); (case nF3_Way => k_is); (case nF4_Way => k_is); (case nF5_Way => k_is); (case xO_sf_Way => k_is); (case xO_rm_Way => k_is); (case xO_im_Way => k_is); (case xO_ir_Way => k_is); (case xO_ns_Way => k_is); (case xIC_ha_Way => k_is); (case xIC_hn_Way => k_is); (case xIC_htk_Way => k_is); (case xIC_hm_Way => k_is); (case z1 => k_is); (case z2 => k_is); (case z3 => k_is); (case z4 => k_is); (case z5 => k_is); (case z6 => k_is); (case z7 => k_is); (case z8 => k_is); (case z9 => k_is); (case z10 => k_is); (case z11 => k_is); (case z12 => k_is); (case z13 => k_is); (case z14 => k_is); (case z15 => k_is); (case z16 => k_is); (case z17 => k_is)

